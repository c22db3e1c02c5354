import PyProof.Rows.All
import Wide.All
import OpenK.AllK
import Wide.FinOn
import Lean
import PyProof.EqAt
import PyProof.EqKinds
import PyProof.TupleCall
import PySem.Challenge.RW_frameback_k72_program_texts_refused
set_option Elab.async false
set_option linter.all false
set_option compiler.extract_closed false
set_option maxRecDepth 100000
namespace L2
open PySem PySem.Spec PyProof.Rows
abbrev Key := Sum Int Str
def keyIs : Key → Value → Bool
 | .inl k, v => Value.isInt k v
 | .inr x, v => Value.isStrOf x v
def keyH (w : World) : Key → Int
 | .inl k => hashInt k
 | .inr x => hashStr w x
theorem keyIs_shape : ∀ {k : Key} {v : Value}, keyIs k v = true → (∃ i t, k = Sum.inl i ∧ v = Value.int i t) ∨ (∃ x t, k = Sum.inr x ∧ v = Value.str x t)
 | .inl i, v, h => by
   obtain ⟨t, e⟩ := Value.isInt_shape (k := i) (v := v) h
   exact .inl ⟨i, t, rfl, e⟩
 | .inr x, v, h => by
   obtain ⟨t, e⟩ := Value.isStrOf_shape (x := x) (v := v) h
   exact .inr ⟨x, t, rfl, e⟩
theorem keyIs_int (i : Int) (t : Tok) : keyIs (.inl i) (.int i t) = true := by simp [keyIs, Value.isInt]
theorem keyIs_str (x : Str) (t : Tok) : keyIs (.inr x) (.str x t) = true := by simp [keyIs, Value.isStrOf]
theorem key_ll (a b : Int) : decide ((Sum.inl a : Key) = Sum.inl b) = (a == b) := by
 by_cases e : a = b
 · subst e; simp
 · have h : ¬ (Sum.inl a : Key) = Sum.inl b := fun q => e (Sum.inl.inj q)
   rw [decide_eq_false h]
   exact (beq_eq_false_iff_ne.mpr e).symm
theorem key_rr (a b : Str) : decide ((Sum.inr a : Key) = Sum.inr b) = decide (a = b) := by
 by_cases e : a = b
 · subst e; simp
 · have h : ¬ (Sum.inr a : Key) = Sum.inr b := fun q => e (Sum.inr.inj q)
   rw [decide_eq_false h, decide_eq_false e]
theorem key_lr (a : Int) (b : Str) : decide ((Sum.inl a : Key) = Sum.inr b) = false := decide_eq_false (fun q => nomatch q)
theorem key_rl (a : Str) (b : Int) : decide ((Sum.inr a : Key) = Sum.inl b) = false := decide_eq_false (fun q => nomatch q)
def mixKind (prog : Program) (w : World) : PySem.KeyKind prog w Key where
 is := keyIs
 hash := keyH w
 inj := fun v a b ha hb => by
   rcases keyIs_shape ha with ⟨i, t, rfl, rfl⟩ | ⟨x, t, rfl, rfl⟩
   · rcases keyIs_shape hb with ⟨j, u, rfl, e⟩ | ⟨y, u, rfl, e⟩
     · injection e with e1 _; rw [e1]
     · exact nomatch e
   · rcases keyIs_shape hb with ⟨j, u, rfl, e⟩ | ⟨y, u, rfl, e⟩
     · exact nomatch e
     · injection e with e1 _; rw [e1]
 byValue := fun k v h => by
   rcases keyIs_shape h with ⟨i, t, rfl, rfl⟩ | ⟨x, t, rfl, rfl⟩ <;> rfl
 pyHash := fun hv h => by
   rcases keyIs_shape hv with ⟨i, t, rfl, rfl⟩ | ⟨x, t, rfl, rfl⟩
   · exact wpAny_pyHash_int h
   · exact wpAny_pyHash_str h
 eqBool := fun hu hv h => by
   rcases keyIs_shape hu with ⟨i, t, rfl, rfl⟩ | ⟨x, t, rfl, rfl⟩
   · rcases keyIs_shape hv with ⟨j, u, rfl, rfl⟩ | ⟨y, u, rfl, rfl⟩
     · rw [key_ll] at h; exact wpAny_eqBool_int h
     · rw [key_lr] at h; exact SeqAt.EqAt.int_str i t y u _ _ _ _ h
   · rcases keyIs_shape hv with ⟨j, u, rfl, rfl⟩ | ⟨y, u, rfl, rfl⟩
     · rw [key_rl] at h; exact SeqAt.EqAt.str_int x t j u _ _ _ _ h
     · rw [key_rr] at h; exact wpAny_eqBool_str h
 «strs» := fun k x t v h => by
   rcases keyIs_shape h with ⟨i, u, rfl, e⟩ | ⟨y, u, rfl, e⟩
   · exact nomatch e
   · injection e with e1 _
     subst e1
     cases v <;> rfl
theorem mixKind_int (prog : Program) (w : World) (i : Int) (t : Tok) : (mixKind prog w).is (.inl i) (.int i t) = true := keyIs_int i t
theorem mixKind_str (prog : Program) (w : World) (x : Str) (t : Tok) : (mixKind prog w).is (.inr x) (.str x t) = true := keyIs_str x t
end L2
namespace L2
open PySem PySem.Spec PyProof.Rows
inductive V where
 | non | bl (b : Bool) | int (i : Int) | str (x : Str) | byt (b : Array UInt8) | flt (b : UInt64) | ref (a : Addr) | ty (n : String)
 deriving DecidableEq
def RelV : V → Value → Prop
 | .non, u => u = Value.none
 | .bl b, u => u = Value.bool b
 | .int i, u => ∃ t, u = Value.int i t
 | .str x, u => ∃ t, u = Value.str x t
 | .byt b, u => ∃ t, u = Value.bytes b t
 | .flt b, u => ∃ t, u = Value.float b t
 | .ref a, u => u = Value.ref a
 | .ty n, u => u = Value.type n
abbrev Vals : List V → List Value → Prop := Paired RelV
theorem Vals.length {xs : List V} {us : List Value} (r : Vals xs us) : xs.length = us.length := Paired.length r
theorem Vals.get : ∀ {xs : List V} {us : List Value} {i : Nat} {x : V}, Vals xs us → xs[i]? = some x → ∃ u, us[i]? = some u ∧ RelV x u
 | _, _, _, _, .nil, e => by simp at e
 | _, _, 0, _, .cons r _, e => by simp at e; subst e; exact ⟨_, rfl, r⟩
 | _, _, i + 1, x, .cons _ t, e => by
   obtain ⟨u, h1, h2⟩ := Vals.get (i := i) (x := x) t (by simpa using e)
   exact ⟨u, by simpa using h1, h2⟩
theorem Vals.append : ∀ {xs ys : List V} {us ws : List Value}, Vals xs us → Vals ys ws → Vals (xs ++ ys) (us ++ ws)
 | _, _, _, _, .nil, s => s
 | _, _, _, _, .cons r t, s => .cons r (Vals.append t s)
theorem Vals.take : ∀ {xs : List V} {us : List Value} (n : Nat), Vals xs us → Vals (xs.take n) (us.take n)
 | _, _, 0, _ => .nil
 | _, _, _ + 1, .nil => .nil
 | _, _, n + 1, .cons r t => .cons r (Vals.take n t)
theorem Vals.drop : ∀ {xs : List V} {us : List Value} (n : Nat), Vals xs us → Vals (xs.drop n) (us.drop n)
 | _, _, 0, r => r
 | _, _, _ + 1, .nil => .nil
 | _, _, n + 1, .cons _ t => Vals.drop n t
def RelO : Option V → Option Value → Prop
 | some v, some u => RelV v u
 | none, none => True
 | _, _ => False
def KV {κ : Type} : List (κ × V) → List (κ × Value) → Prop := Paired fun (p : κ × V) (q : κ × Value) => p.1 = q.1 ∧ RelV p.2 q.2
def kV : Key → V
 | .inl i => .int i
 | .inr x => .str x
inductive HO where
 | lst (xs : List V)
 | tup (xs : List V)
 | dK (kvs : List (Key × V)) | dT (kvs : List (List Key × V))
 | set (S : Int → Bool) (n : Nat)
 | ins (C dx : Addr) (fs : List (Str × V))
 | own (x : Addr)
 | xd (fs : List (Str × V))
 | met (f x : Addr)
 | rng (lo hi : Int)
 | frz (o : Obj) (u : HO)
 | tbl (ps : Array Value)
 | ext (φ : Heap → Prop)
abbrev Hp := Addr → Option HO
def upd (H : Hp) (a : Addr) (o : HO) : Hp := fun b => if b = a then some o else H b
theorem upd_same {H : Hp} {a : Addr} {o : HO} : upd H a o a = some o := by unfold upd; rw [if_pos rfl]
theorem upd_ne {H : Hp} {a b : Addr} {o : HO} (h : b ≠ a) : upd H a o b = H b := by unfold upd; rw [if_neg h]
theorem ne_of_none {H : Hp} {a b : Addr} {o : HO} (h : H a = some o) (h' : H b = none) : a ≠ b := by
 intro e; subst e; rw [h] at h'; cases h'
section
variable (P : Program) (w : World)
def ObjOk (H : Hp) (h : Heap) (a : Addr) : HO → Prop
 | .lst xs => xs.length ≤ sizeLine ∧ ∃ (its : List Value) (n : Nat), Vals xs its ∧ h.get? a = some { cls := .type "list", data := .seq its.toArray n }
 | .tup xs => xs.length ≤ sizeLine ∧ ∃ its : List Value, Vals xs its ∧ IsTup h a its.toArray
 | .dK kvs => kvs.length ≤ sizeLine ∧ (a == sysModules) = false ∧ ∃ vs, KV kvs vs ∧ h.DictOf (mixKind P w) a vs
 | .dT kvs => kvs.length ≤ sizeLine ∧ (a == sysModules) = false ∧ ∃ xs : List (List Key × Addr × Value),
     Paired (fun (p : List Key × V) (q : List Key × Addr × Value) => p.1 = q.1 ∧ H q.2.1 = some (.tup (p.1.map kV)) ∧ RelV p.2 q.2.2) kvs xs ∧
     ∃ o es ep, h.get? a = some o ∧ o.ExactDict ∧ o.data = .dict es ep ∧ es.toList = xs.map (entryOfKey (tupleKind (mixKind P w))) ∧ (xs.map (·.1)).Nodup
 | .set S n => h.SetOf (intKind P w) a S n
 | .ins C dx fs => H dx = some (.own a) ∧ fs.length ≤ 1000 ∧ dx ≠ a ∧ h.get? a = some (PySem.W.instObj C dx) ∧
     ∃ mA, h.Ns1 dx mA ∧ (∀ f, RelO (fs.lookup f) (mA f)) ∧ PySem.Within mA (fs.map (·.1))
 | .own _ => ∃ o, h.get? a = some o
 | .xd fs => ∃ mA, h.Ns1 a mA ∧ ∀ f, RelO (fs.lookup f) (mA f)
 | .rng lo hi => ∃ t u v, h.get? a = some { cls := .type "range", data := .fields #[.int lo t, .int hi u, .int 1 v] }
 | .frz o u => h.get? a = some o ∧ ObjOk H h a u
 | .tbl ps => h.get? a = some { cls := .none, data := .fields ps }
 | .met f x => h.get? a = some (PySem.W.methodObj (.ref f) (.ref x))
 | .ext φ => φ h ∧ (∃ o, h.get? a = some o) ∧ ∀ h1 h2 : Heap, φ h1 → (∀ o, h1.get? a = some o → h2.get? a = some o) → φ h2
def HOk (H : Hp) (h : Heap) : Prop := ∀ a o, H a = some o → ObjOk P w H h a o
end
section
variable {P : Program} {w : World} {H H' : Hp} {h h' : Heap} {a : Addr} {o : HO}
theorem ObjOk.lt (x : ObjOk P w H h a o) : a < h.objs.size := by
 cases o with
 | lst xs => obtain ⟨_, _, _, _, e⟩ := x; exact Heap.lt_size e
 | tup xs => obtain ⟨_, _, _, p⟩ := x; exact p.lt
 | dK kvs => obtain ⟨_, _, _, _, o, _, _, e, _⟩ := x; exact Heap.lt_size e
 | dT kvs => obtain ⟨_, _, _, _, o, _, _, e, _⟩ := x; exact Heap.lt_size e
 | set S n => obtain ⟨o, _, _, _, e, _⟩ := x; exact Heap.lt_size e
 | ins C dx fs => obtain ⟨_, _, _, e, _⟩ := x; exact Heap.lt_size e
 | own y => obtain ⟨_, e⟩ := x; exact Heap.lt_size e
 | xd fs => obtain ⟨_, ⟨_, _, _, e, _⟩, _⟩ := x; exact Heap.lt_size e
 | rng lo hi => obtain ⟨_, _, _, e⟩ := x; exact Heap.lt_size e
 | frz ob u => obtain ⟨e, _⟩ := x; exact Heap.lt_size e
 | tbl ps => exact Heap.lt_size (show h.get? a = some _ from x)
 | met f y => exact Heap.lt_size (show h.get? a = some _ from x)
 | ext φ => obtain ⟨_, ⟨_, e⟩, _⟩ := x; exact Heap.lt_size e
theorem Paired.mapP {α β : Type} {F G : α → β → Prop} : ∀ {l₁ : List α} {l₂ : List β}, Paired F l₁ l₂ → (∀ a b, F a b → G a b) → Paired G l₁ l₂
 | _, _, .nil, _ => .nil
 | _, _, .cons r t, f => .cons (f _ _ r) (Paired.mapP t f)
theorem ObjOk.stay (x : ObjOk P w H h a o) (k : ∀ b u, (b = a ∨ H b = some (.own a)) → h.get? b = some u → h'.get? b = some u)
   (ho : ∀ b, H b = some (.own a) → H' b = some (.own a)) (ht : ∀ b xs, H b = some (.tup xs) → H' b = some (.tup xs)) : ObjOk P w H' h' a o := by
 induction o with
 | lst xs => obtain ⟨z, its, n, r, e⟩ := x; exact ⟨z, its, n, r, k _ _ (.inl rfl) e⟩
 | tup xs => obtain ⟨z, its, r, ob, e, c⟩ := x; exact ⟨z, its, r, ob, k _ _ (.inl rfl) e, c⟩
 | dK kvs => obtain ⟨z, y, vs, r, ob, es, ep, e, c⟩ := x; exact ⟨z, y, vs, r, ob, es, ep, k _ _ (.inl rfl) e, c⟩
 | dT kvs =>
   obtain ⟨z, y, xs, r, ob, es, ep, e, c⟩ := x
   exact ⟨z, y, xs, Paired.mapP r fun p q z => ⟨z.1, ht _ _ z.2.1, z.2.2⟩, ob, es, ep, k _ _ (.inl rfl) e, c⟩
 | set S n => obtain ⟨ob, es, ep, t, e, c⟩ := x; exact ⟨ob, es, ep, t, k _ _ (.inl rfl) e, c⟩
 | ins C dx fs =>
   obtain ⟨d, z, ne, e, mA, ⟨od, es, ep, e2, c⟩, r⟩ := x
   exact ⟨ho _ d, z, ne, k _ _ (.inl rfl) e, mA, ⟨od, es, ep, k _ _ (.inr d) e2, c⟩, r⟩
 | own y => obtain ⟨ob, e⟩ := x; exact ⟨ob, k _ _ (.inl rfl) e⟩
 | xd fs => obtain ⟨mA, ⟨od, es, ep, e, c⟩, r⟩ := x; exact ⟨mA, ⟨od, es, ep, k _ _ (.inl rfl) e, c⟩, r⟩
 | rng lo hi => obtain ⟨t, u, v, e⟩ := x; exact ⟨t, u, v, k _ _ (.inl rfl) e⟩
 | frz ob u ih => obtain ⟨e, q⟩ := x; exact ⟨k _ _ (.inl rfl) e, ih q⟩
 | tbl ps =>
   have e : h.get? a = some { cls := .none, data := .fields ps } := x
   show h'.get? a = some { cls := .none, data := .fields ps }
   exact k a _ (.inl rfl) e
 | met f y =>
   have e : h.get? a = some (PySem.W.methodObj (.ref f) (.ref y)) := x
   show h'.get? a = some (PySem.W.methodObj (.ref f) (.ref y))
   exact k a _ (.inl rfl) e
 | ext φ => obtain ⟨p, ⟨o, e⟩, st⟩ := x; exact ⟨st _ _ p fun o q => k _ _ (.inl rfl) q, ⟨o, k _ _ (.inl rfl) e⟩, st⟩
theorem HOk.lt (x : HOk P w H h) (e : H a = some o) : a < h.objs.size := (x a o e).lt
theorem HOk.fresh (x : HOk P w H h) (e : h.objs.size ≤ a) : H a = none := by
 cases q : H a with
 | none => rfl
 | some u => exact absurd (Nat.lt_of_lt_of_le (x.lt q) e) (Nat.lt_irrefl _)
theorem HOk.kept (x : HOk P w H h) (k : ∀ b u, h.get? b = some u → h'.get? b = some u) : HOk P w H h' := fun a o e =>
 (x a o e).stay (fun b u _ q => k b u q) (fun _ q => q) fun _ _ q => q
theorem HOk.laid (x : HOk P w H h) (k : ∀ b u, h.get? b = some u → h'.get? b = some u) (hp : h.objs.size ≤ a) (new : ObjOk P w (upd H a o) h' a o) : HOk P w (upd H a o) h' := fun b u e => by
 have hn := x.fresh hp
 by_cases hb : b = a
 · subst hb; rw [upd_same] at e; cases e; exact new
 · rw [upd_ne hb] at e
   exact (x b u e).stay (fun c v _ q => k c v q) (fun c q => by rw [upd_ne (ne_of_none q hn)]; exact q) fun c xs q => by rw [upd_ne (ne_of_none q hn)]; exact q
end
def Rd (H : Hp) (a : Addr) (u : HO) : Prop := H a = some u ∨ ∃ o, H a = some (.frz o u)
theorem Rd.ok {P : Program} {w : World} {H : Hp} {h : Heap} {a : Addr} {u : HO} (r : Rd H a u) (x : HOk P w H h) : ObjOk P w H h a u := by
 rcases r with r | ⟨o, r⟩
 · exact x a u r
 · obtain ⟨_, q⟩ := x a _ r
   exact q
def Mut : Option HO → Prop
 | some (.lst _) => True
 | some (.dK _) => True
 | some (.dT _) => True
 | some (.set _ _) => True
 | some (.ins _ _ _) => True
 | some (.ext _) => True
 | _ => False
section
variable {P : Program} {w : World} {H : Hp} {h h' : Heap} {x e : Addr} {o' : HO}
theorem HOk.write (ok : HOk P w H h) (mu : Mut (H x)) (he : e = x ∨ H e = some (.own x)) (k : ∀ b u, b ≠ e → h.get? b = some u → h'.get? b = some u) (heo : ∃ u, h'.get? e = some u)
   (new : ObjOk P w (upd H x o') h' x o') : HOk P w (upd H x o') h' := fun b u q => by
 have nown : ∀ c y, H c = some (.own y) → c ≠ x := fun c y r z => by subst z; rw [r] at mu; exact mu
 have ntup : ∀ c xs, H c = some (.tup xs) → c ≠ x := fun c xs r z => by subst z; rw [r] at mu; exact mu
 by_cases hb : b = x
 · subst hb; rw [upd_same] at q; cases q; exact new
 · rw [upd_ne hb] at q
   by_cases hbe : b = e
   · have q' : H b = some (.own x) := by
       rcases he with z | z
       · exact absurd (hbe.trans z) hb
       · rw [hbe]; exact z
     rw [q] at q'; cases q'
     obtain ⟨v, hv⟩ := heo
     exact ⟨v, by rw [hbe]; exact hv⟩
   · refine (ok b u q).stay (fun c v hc r => k c v ?_ r) (fun c r => by rw [upd_ne (nown c b r)]; exact r) fun c xs r => by rw [upd_ne (ntup c xs r)]; exact r
     rcases hc with rfl | hc
     · exact hbe
     · rintro rfl
       rcases he with z | z
       · exact nown c b hc z
       · rw [hc] at z; cases z; exact hb rfl
end
structure Un (fs ex : List Addr) (H H' : Hp) (h h' : Heap) : Prop where
 keep : ∀ b o, h.get? b = some o → H b = none → b ∉ fs → b ∉ ex → h'.get? b = some o
 slot : ∀ b o, h.get? b = some o → H b = none → b ∈ fs → b ∉ ex → ∃ sl, h'.get? b = some { o with slots := sl }
 free : ∀ b o, h.get? b = some o → H b = none → b ∉ ex → H' b = none
 there : ∀ b o, h.get? b = some o → b ∉ ex → ∃ o', h'.get? b = some o'
 tups : ∀ b xs, H b = some (.tup xs) → H' b = some (.tup xs)
 frzs : ∀ b o u, H b = some (.frz o u) → H' b = some (.frz o u)
 tbls : ∀ b ps, H b = some (.tbl ps) → ∃ more, H' b = some (.tbl (ps ++ more))
section
variable {fs fs' ex ex' : List Addr} {H H1 H2 : Hp} {h h1 h2 h' : Heap} {a x e : Addr} {o : HO}
theorem Un.any (u : Un fs ex H H1 h h1) {b : Addr} {ob : Obj} (q : h.get? b = some ob) (n : H b = none) (hx : b ∉ ex) : ∃ sl, h1.get? b = some { ob with slots := sl } := by
 by_cases hb : b ∈ fs
 · exact u.slot b ob q n hb hx
 · exact ⟨ob.slots, u.keep b ob q n hb hx⟩
theorem Un.kept (k : ∀ b u, h.get? b = some u → h'.get? b = some u) : Un fs ex H H h h' :=
 ⟨fun b ob q _ _ _ => k b ob q, fun b ob q _ _ _ => ⟨ob.slots, k b ob q⟩, fun _ _ _ n _ => n, fun b ob q _ => ⟨ob, k b ob q⟩, fun _ _ q => q, fun _ _ _ q => q, fun _ ps q => ⟨#[], by rw [q]; simp⟩⟩
theorem Un.refl : Un fs ex H H h h := Un.kept fun _ _ q => q
theorem Un.laid (k : ∀ b u, h.get? b = some u → h'.get? b = some u) (hp : h.objs.size ≤ a) (hn : H a = none) : Un fs ex H (upd H a o) h h' where
 keep := fun b u q _ _ _ => k b u q
 slot := fun b u q _ _ _ => ⟨u.slots, k b u q⟩
 free := fun b u q n _ => by rw [upd_ne (Nat.ne_of_lt (Nat.lt_of_lt_of_le (Heap.lt_size q) hp))]; exact n
 there := fun b u q _ => ⟨u, k b u q⟩
 tups := fun b xs q => by rw [upd_ne (ne_of_none q hn)]; exact q
 frzs := fun b u xs q => by rw [upd_ne (ne_of_none q hn)]; exact q
 tbls := fun b ps q => ⟨#[], by rw [upd_ne (ne_of_none q hn), q]; simp⟩
theorem Un.write (mu : Mut (H x)) (he : e = x ∨ H e = some (.own x)) (k : ∀ b u, b ≠ e → h.get? b = some u → h'.get? b = some u) (heo : ∃ u, h'.get? e = some u) : Un fs ex H (upd H x o) h h' := by
 have hx : ∀ b, H b = none → b ≠ x := fun b n z => by subst z; rw [n] at mu; exact mu
 have hb : ∀ b, H b = none → b ≠ e := fun b n z => by
   subst z
   rcases he with r | r
   · exact hx b n r
   · rw [n] at r; cases r
 have hm : ∀ b u, H b = some u → ¬ Mut (some u) → b ≠ x := fun b u q nm z => by subst z; rw [q] at mu; exact nm mu
 refine ⟨fun b u q n _ _ => k b u (hb b n) q, fun b u q n _ _ => ⟨u.slots, k b u (hb b n) q⟩, fun b u q n _ => by rw [upd_ne (hx b n)]; exact n, fun b u q _ => ?_,
   fun b xs q => by rw [upd_ne (hm b _ q fun z => z)]; exact q, fun b u xs q => by rw [upd_ne (hm b _ q fun z => z)]; exact q, fun b ps q => ⟨#[], by rw [upd_ne (hm b _ q fun z => z), q]; simp⟩⟩
 by_cases hbe : b = e
 · subst hbe; exact heo
 · exact ⟨u, k b u hbe q⟩
end
def trk (h : Heap) (H : Hp) : List Addr := (List.range h.objs.size).filter fun a => (H a).isSome
def hidT (h : Heap) (H : Hp) : Heap := PySem.W.hideAll h (trk h H)
theorem hidT_size (h : Heap) (H : Hp) : (hidT h H).objs.size = h.objs.size := PySem.W.hideAll_size _ _
theorem hidT_get {h : Heap} {H : Hp} {b : Addr} {o : Obj} (e : h.get? b = some o) (n : H b = none) : (hidT h H).get? b = some o :=
 PySem.W.hideAll_get _ e fun hm => by
   have q : (H b).isSome = true := (List.mem_filter.mp hm).2
   rw [n] at q; simp at q
theorem of_hidT {h : Heap} {H : Hp} {b : Addr} {o : Obj} (e : (hidT h H).get? b = some o) : h.get? b = some o ∧ H b = none := by
 have e' : h.get? b = some o := PySem.W.of_hideAll (trk h H) e
 refine ⟨e', ?_⟩
 cases q : H b with
 | none => rfl
 | some x =>
   have hm : b ∈ trk h H := List.mem_filter.mpr ⟨List.mem_range.mpr (Heap.lt_size e'), by simp [q]⟩
   have z : (hidT h H).get? b = none := PySem.W.hideAll_none (trk h H) hm
   rw [z] at e; cases e
end L2
namespace L2
open PySem PySem.Spec PyProof.Rows
structure Mod (K : PySem.W.Frag) (mg : Str → Option Value) (base : Heap) : Prop where
 kin : K.In base
 glob : base.Ns mainGlobals mg
 blt : ∃ mb, base.Ns builtinsNs mb ∧ ∀ x : Str, x ≠ "__name__" → mb x = bootBuiltins x
 nolimit : base.NoLimit
structure Cx where
 prog : Program
 w : World
 K : PySem.W.Frag
 mg : Str → Option Value
 base : Heap
 A : Around
 N : List Str
 s₀ : Shared
 H₀ : Hp
 env : Env
 outer : List Env
 stack : List Env
 ex : List Addr
 fn : Str → Bool
 calm : Bool
 pn : List (Addr × Obj)
 xe : Value → Shared → Prop
def frs (l : List Env) : List Addr := l.filterMap (·.frame)
abbrev Cx.fs (X : Cx) : List Addr := frs X.outer
def Vis (sc : Scope) (x : Str) : Prop := sc.names.lookup x = some .local ∨ sc.names.lookup x = some .cell ∨ sc.names.lookup x = some .free
def Loc (sc : Scope) (x : Str) : Prop := sc.names.lookup x = some .local ∨ sc.names.lookup x = some .cell
def Look (env : Env) (h : Heap) (m : Str → Option Value) (x : Str) (u : Value) : Prop :=
 (env.kindOf x = some .local ∧ m x = some u) ∨ ((env.kindOf x = some .cell ∨ env.kindOf x = some .free) ∧ ∃ c, env.cells.lookup x = some c ∧ h.IsCell c (some u))
structure Cx.Ok (X : Cx) : Prop where
 mod : Mod X.K X.mg X.base
 kind : X.env.scope.kind = .function
 glob : X.env.globals = mainGlobals
 blt : X.env.builtins = builtinsNs
 above : X.s₀.heap.objs.size ≤ X.env.locals
 inj : ∀ x y c, X.env.cells.lookup x = some c → X.env.cells.lookup y = some c → x = y
 has : ∀ x, (X.env.kindOf x = some .cell ∨ X.env.kindOf x = some .free) → ∃ c, X.env.cells.lookup x = some c
 cab : ∀ x c, X.fn x = true → X.env.cells.lookup x = some c → X.s₀.heap.objs.size ≤ c
 hd : X.calm = true → X.A.handled = none
 frames : X.A.frames = some X.stack
 stk : X.stack = X.outer ∨ (X.stack = X.env :: X.outer ∧ X.env.frame = some X.env.locals)
 exf : ∀ b ∈ X.ex, b ≠ X.env.locals ∧ ∀ x c, X.env.cells.lookup x = some c → c ≠ b
 bs : ∀ b o, X.base.get? b = some o → X.s₀.heap.get? b = some o ∧ X.H₀ b = none
 bsz : X.base.objs.size ≤ X.s₀.heap.objs.size
 noex : ∀ b o, X.base.get? b = some o → b ∉ X.ex
 exfs : ∀ b ∈ X.ex, b ∉ X.fs
 funs : X.s₀.heap.FunFrames X.base X.outer
 frf : ∀ b ∈ X.fs, X.H₀ b = none
structure Inv (X : Cx) (pins : List (Addr × Obj)) (σ : List (Option V)) (H : Hp) (s : Shared) : Prop where
 ok : X.Ok
 os : s.os = X.s₀.os
 bare : AllBare s.gens
 base : Un X.fs X.ex X.H₀ H X.s₀.heap s.heap
 loc : ∃ m, s.heap.Ns X.env.locals m ∧ ∀ (i : Nat) (x : Str) (v : V), X.N[i]? = some x → σ[i]? = some (some v) → Vis X.env.scope x → ∃ u, RelV v u ∧ Look X.env s.heap m x u
 cell : ∀ x c, X.env.cells.lookup x = some c → ∃ v, s.heap.IsCell c v
 free : H X.env.locals = none
 freeC : ∀ x c, X.env.cells.lookup x = some c → H c = none
 pin : ∀ p ∈ X.pn ++ pins, s.heap.get? p.1 = some p.2 ∧ H p.1 = none ∧ p.1 ≠ X.env.locals ∧ p.1 ∉ X.fs ∧ ∀ v, p.2.data ≠ .cell v
 hok : HOk X.prog X.w H s.heap
 len : σ.length = X.N.length
section
variable {X : Cx} {pins : List (Addr × Obj)} {σ : List (Option V)} {H H' : Hp} {s : Shared} {h' : Heap}
theorem Cx.Ok.nofr (ok : X.Ok) {b : Addr} {o : Obj} (e : X.base.get? b = some o) : b ∉ X.fs := fun hb => by
 have := (ok.funs.mem hb).1
 rw [e] at this; cases this
theorem Inv.bs (I : Inv X pins σ H s) : ∀ b o, X.base.get? b = some o → s.heap.get? b = some o ∧ H b = none := fun b o e =>
 ⟨I.base.keep b o (I.ok.bs b o e).1 (I.ok.bs b o e).2 (I.ok.nofr e) (I.ok.noex b o e), I.base.free b o (I.ok.bs b o e).1 (I.ok.bs b o e).2 (I.ok.noex b o e)⟩
theorem Inv.bk (I : Inv X pins σ H s) : ∀ b o, X.base.get? b = some o → s.heap.get? b = some o := fun b o e => (I.bs b o e).1
theorem Inv.mod (I : Inv X pins σ H s) : Mod X.K X.mg X.base := I.ok.mod
theorem Inv.kIn (I : Inv X pins σ H s) : X.K.In s.heap := I.ok.mod.kin.keeps I.bk
theorem Inv.lt (I : Inv X pins σ H s) : X.env.locals < s.heap.objs.size := let ⟨_, hn, _⟩ := I.loc; hn.lt
theorem Inv.sz (I : Inv X pins σ H s) : X.s₀.heap.objs.size ≤ s.heap.objs.size := Nat.le_trans I.ok.above (Nat.le_of_lt I.lt)
theorem Inv.nofs (I : Inv X pins σ H s) {a : Addr} (h : s.heap.objs.size ≤ a) : a ∉ X.fs := fun hb => by
 obtain ⟨_, o, ho, _⟩ := I.ok.funs.mem hb
 exact absurd (Nat.lt_of_lt_of_le (Heap.lt_size ho) (Nat.le_trans I.sz h)) (Nat.lt_irrefl _)
theorem Inv.cne (I : Inv X pins σ H s) : ∀ x c, X.env.cells.lookup x = some c → c ≠ X.env.locals := fun x c e z => by
 obtain ⟨v, o, ho, hd⟩ := I.cell x c e
 obtain ⟨m, ⟨o', es, ep, ho', hd', _⟩, _⟩ := I.loc
 rw [z, ho'] at ho; cases ho; rw [hd'] at hd; cases hd
theorem Inv.funs (I : Inv X pins σ H s) : s.heap.FunFrames X.base X.outer := by
 have all : ∀ (l : List Env), (∀ b ∈ frs l, b ∈ X.fs) → X.s₀.heap.FunFrames X.base l → s.heap.FunFrames X.base l := by
   intro l
   induction l with
   | nil => intro _ _; trivial
   | cons env r ih =>
     intro hs hl
     obtain ⟨hk, ⟨L, o, hf, hn, ho, hd⟩, hr⟩ := hl
     have hL : L ∈ X.fs := hs L (by unfold frs; rw [List.filterMap_cons, hf]; exact List.mem_cons_self)
     obtain ⟨sl, e⟩ := I.base.slot L o ho (I.ok.frf L hL) hL fun z => I.ok.exfs L z hL
     exact ⟨hk, ⟨L, _, hf, hn, e, hd⟩, ih (fun b hb => hs b (by unfold frs; rw [List.filterMap_cons, hf]; exact List.mem_cons_of_mem _ hb)) hr⟩
 exact all X.outer (fun _ hb => hb) I.ok.funs
theorem Inv.stack (I : Inv X pins σ H s) : s.heap.FunFrames X.base X.stack := by
 rcases I.ok.stk with e | ⟨e, hf⟩
 · rw [e]; exact I.funs
 · rw [e]
   obtain ⟨m, hn, _⟩ := I.loc
   refine .cons (by rw [I.ok.kind]; decide) hf hn ?_ I.funs
   exact Heap.get?_none_of_le (Nat.le_trans I.ok.bsz I.ok.above)
theorem Inv.stkSub (I : Inv X pins σ H s) : ∀ b ∈ frs X.stack, b ∈ X.env.locals :: X.fs := fun b hb => by
 rcases I.ok.stk with e | ⟨e, hf⟩
 · rw [e] at hb; exact List.mem_cons_of_mem _ hb
 · rw [e] at hb
   unfold frs at hb
   rw [List.filterMap_cons, hf] at hb
   exact hb
theorem Inv.stkFree (I : Inv X pins σ H s) : ∀ b ∈ frs X.stack, H b = none := fun b hb => by
 rcases List.mem_cons.mp (I.stkSub b hb) with e | hb
 · rw [e]; exact I.free
 · obtain ⟨_, o, ho, _⟩ := I.ok.funs.mem hb
   exact I.base.free b o ho (I.ok.frf b hb) fun z => I.ok.exfs b z hb
theorem Inv.step {g' : Array GenState} {t' : Nat} {d' : Drawn} {ch : List Addr} (I : Inv X pins σ H s)
   (hch : ∀ b ∈ ch, (b ∈ X.ex ∨ X.s₀.heap.objs.size ≤ b) ∧ b ≠ X.env.locals ∧ (∀ x c, X.env.cells.lookup x = some c → c ≠ b) ∧ ∀ p ∈ X.pn ++ pins, p.1 ≠ b)
   (keep : ∀ b o, b ≠ X.env.locals → b ∉ X.fs → b ∉ ch → s.heap.get? b = some o → H b = none → h'.get? b = some o)
   (slot : ∀ b o, b ≠ X.env.locals → b ∈ X.fs → b ∉ ch → s.heap.get? b = some o → H b = none → ∃ sl, h'.get? b = some { o with slots := sl }) (free : ∀ b o, b ∉ ch → s.heap.get? b = some o → H b = none → H' b = none)
   (there : ∀ b o, b ∉ ch → s.heap.get? b = some o → ∃ o', h'.get? b = some o')
   (tups : ∀ b xs, H b = some (.tup xs) → H' b = some (.tup xs)) (frzs : ∀ b o u, H b = some (.frz o u) → H' b = some (.frz o u)) (tbls : ∀ b ps, H b = some (.tbl ps) → ∃ more, H' b = some (.tbl (ps ++ more)))
   (ns : ∀ m, s.heap.Ns X.env.locals m → h'.Ns X.env.locals m) (hok : HOk X.prog X.w H' h') (hg : AllBare g') :
   Inv X pins σ H' { s with heap := h', gens := g', drawn := d', toks := t' } := by
 have neL : ∀ b o, X.s₀.heap.get? b = some o → b ≠ X.env.locals := fun b o e => Nat.ne_of_lt (Nat.lt_of_lt_of_le (Heap.lt_size e) I.ok.above)
 have neC : ∀ b o, X.s₀.heap.get? b = some o → b ∉ X.ex → b ∉ ch := fun b o e hx hb => by
   rcases (hch b hb).1 with z | z
   · exact hx z
   · exact absurd (Nat.lt_of_lt_of_le (Heap.lt_size e) z) (Nat.lt_irrefl _)
 have cellK : ∀ x c, X.env.cells.lookup x = some c → ∀ v, s.heap.IsCell c v → h'.IsCell c v := fun x c e v ⟨o, ho, hd⟩ => by
   have nch : c ∉ ch := fun z => (hch c z).2.2.1 x c e rfl
   by_cases hc : c ∈ X.fs
   · obtain ⟨sl, q⟩ := slot c o (I.cne x c e) hc nch ho (I.freeC x c e)
     exact ⟨_, q, hd⟩
   · exact ⟨o, keep c o (I.cne x c e) hc nch ho (I.freeC x c e), hd⟩
 refine ⟨I.ok, I.os, hg, ⟨fun b o e n hb hx => ?_, fun b o e n hb hx => ?_, fun b o e n hx => ?_, fun b o e hx => ?_, fun b xs e => tups b xs (I.base.tups b xs e), fun b o xs e => frzs b o xs (I.base.frzs b o xs e), fun b ps e => ?_⟩, ?_, fun x c e => ?_, ?_, fun x c e => ?_, fun p hp => ?_, hok, I.len⟩
 · exact keep b o (neL b o e) hb (neC b o e hx) (I.base.keep b o e n hb hx) (I.base.free b o e n hx)
 · obtain ⟨sl, e1⟩ := I.base.slot b o e n hb hx
   obtain ⟨sl', e2⟩ := slot b _ (neL b o e) hb (neC b o e hx) e1 (I.base.free b o e n hx)
   exact ⟨sl', e2⟩
 · obtain ⟨o', e1⟩ := I.base.there b o e hx
   exact free b o' (neC b o e hx) e1 (I.base.free b o e n hx)
 · obtain ⟨o', e1⟩ := I.base.there b o e hx
   exact there b o' (neC b o e hx) e1
 · obtain ⟨m1, e1⟩ := I.base.tbls b ps e
   obtain ⟨m2, e2⟩ := tbls b _ e1
   exact ⟨m1 ++ m2, by rw [e2, Array.append_assoc]⟩
 · obtain ⟨m, hn, hl⟩ := I.loc
   refine ⟨m, ns m hn, fun i x v e1 e2 e3 => ?_⟩
   obtain ⟨u, r, l⟩ := hl i x v e1 e2 e3
   refine ⟨u, r, ?_⟩
   rcases l with l | ⟨k, c, e, z⟩
   · exact .inl l
   · exact .inr ⟨k, c, e, cellK x c e _ z⟩
 · obtain ⟨v, z⟩ := I.cell x c e
   exact ⟨v, cellK x c e v z⟩
 · obtain ⟨m, ⟨o, _, _, ho, _⟩, _⟩ := I.loc
   exact free _ o (fun z => (hch _ z).2.1 rfl) ho I.free
 · obtain ⟨v, o, ho, hd⟩ := I.cell x c e
   exact free c o (fun z => (hch c z).2.2.1 x c e rfl) ho (I.freeC x c e)
 · obtain ⟨e, n, ne, nf, d⟩ := I.pin p hp
   have nch : p.1 ∉ ch := fun z => (hch p.1 z).2.2.2 p hp rfl
   exact ⟨keep p.1 p.2 ne nf nch e n, free p.1 p.2 nch e n, ne, nf, d⟩
theorem Inv.un {t' : Nat} (I : Inv X pins σ H s) (u : Un X.fs [] H H' s.heap h') (hok : HOk X.prog X.w H' h') : Inv X pins σ H' { s with heap := h', toks := t' } := by
 obtain ⟨m, ⟨o, es, ep, ho, r⟩, _⟩ := id I.loc
 obtain ⟨sl, hL⟩ := u.any ho I.free (by simp)
 exact I.step (g' := s.gens) (d' := s.drawn) (ch := []) (fun _ z => nomatch z) (fun b o _ hb _ e n => u.keep b o e n hb (by simp)) (fun b o _ hb _ e n => u.slot b o e n hb (by simp)) (fun b o _ e n => u.free b o e n (by simp)) (fun b o _ e => u.there b o e (by simp)) u.tups u.frzs u.tbls (fun m' hm => by
   obtain ⟨o', es', ep', ho', r'⟩ := hm
   rw [ho] at ho'; cases ho'
   exact ⟨_, es', ep', hL, r'⟩) hok I.bare
theorem Inv.call {g' : Array GenState} {t' : Nat} {d' : Drawn} {ch : List Addr} (I : Inv X pins σ H s) (u : Un (frs X.stack) ch H H' s.heap h') (hok : HOk X.prog X.w H' h') (hg : AllBare g')
   (hch : ∀ b ∈ ch, (b ∈ X.ex ∨ X.s₀.heap.objs.size ≤ b) ∧ b ≠ X.env.locals ∧ (∀ x c, X.env.cells.lookup x = some c → c ≠ b) ∧ ∀ p ∈ X.pn ++ pins, p.1 ≠ b) :
   Inv X pins σ H' { s with heap := h', gens := g', drawn := d', toks := t' } := by
 obtain ⟨m, ⟨o, es, ep, ho, r⟩, _⟩ := id I.loc
 obtain ⟨sl, hL⟩ := u.any ho I.free fun z => (hch _ z).2.1 rfl
 exact I.step (ch := ch) hch (fun b o hL hb hc e n => u.keep b o e n (fun z => (List.mem_cons.mp (I.stkSub b z)).elim hL hb) hc) (fun b o _ _ hc e n => u.any e n hc) (fun b o hc e n => u.free b o e n hc) (fun b o hc e => u.there b o e hc) u.tups u.frzs u.tbls (fun m' hm => by
   obtain ⟨o', es', ep', ho', r'⟩ := hm
   rw [ho] at ho'; cases ho'
   exact ⟨_, es', ep', hL, r'⟩) hok hg
theorem Inv.turned {t' : Nat} {it : Addr} (I : Inv X pins σ H s) (k : ∀ b o, b ≠ it → s.heap.get? b = some o → h'.get? b = some o) (hn : H it = none) (hL : it ≠ X.env.locals)
   (h1 : it ∈ X.ex ∨ X.s₀.heap.objs.size ≤ it) (h2 : ∀ x c, X.env.cells.lookup x = some c → c ≠ it) (h3 : ∀ p ∈ X.pn ++ pins, p.1 ≠ it) : Inv X pins σ H { s with heap := h', toks := t' } := by
 have nit : ∀ b u, H b = some u → b ≠ it := fun b u e z => by rw [z, hn] at e; cases e
 refine I.step (g' := s.gens) (d' := s.drawn) (ch := [it]) (fun b hb => ?_) (fun b o _ _ hc e _ => k b o (fun z => hc (by simp [z])) e) (fun b o _ _ hc e _ => ⟨o.slots, k b o (fun z => hc (by simp [z])) e⟩) (fun _ _ _ _ n => n)
   (fun b o hc e => ⟨o, k b o (fun z => hc (by simp [z])) e⟩) (fun _ _ e => e) (fun _ _ _ e => e) (fun b ps e => ⟨#[], by rw [e]; simp⟩) (fun m hm => ?_) (fun b u e => ?_) I.bare
 · have e : b = it := by simpa using hb
   subst e
   exact ⟨h1, hL, h2, h3⟩
 · obtain ⟨o, es, ep, ho, r⟩ := hm
   exact ⟨o, es, ep, k _ o (Ne.symm hL) ho, r⟩
 · refine (I.hok b u e).stay (fun c v hc q => k c v ?_ q) (fun _ q => q) fun _ _ q => q
   rcases hc with z | z
   · rw [z]; exact nit b u e
   · exact nit c _ z
theorem Inv.tok (I : Inv X pins σ H s) (t : Nat) : Inv X pins σ H { s with toks := t } := I.un (h' := s.heap) (t' := t) Un.refl I.hok
theorem Inv.kept {t' : Nat} (I : Inv X pins σ H s) (k : ∀ b u, s.heap.get? b = some u → h'.get? b = some u) : Inv X pins σ H { s with heap := h', toks := t' } := I.un (Un.kept k) (I.hok.kept k)
theorem Inv.laid {a : Addr} {o : HO} {t' : Nat} (I : Inv X pins σ H s) (k : ∀ b u, s.heap.get? b = some u → h'.get? b = some u) (hp : s.heap.objs.size ≤ a) (new : ObjOk X.prog X.w (upd H a o) h' a o) :
   Inv X pins σ (upd H a o) { s with heap := h', toks := t' } := I.un (Un.laid k hp (I.hok.fresh hp)) (I.hok.laid k hp new)
theorem Inv.write {x e : Addr} {o : HO} {t' : Nat} (I : Inv X pins σ H s) (mu : Mut (H x)) (he : e = x ∨ H e = some (.own x)) (k : ∀ b u, b ≠ e → s.heap.get? b = some u → h'.get? b = some u) (heo : ∃ u, h'.get? e = some u)
   (new : ObjOk X.prog X.w (upd H x o) h' x o) : Inv X pins σ (upd H x o) { s with heap := h', toks := t' } := I.un (Un.write mu he k heo) (I.hok.write mu he k heo new)
theorem Inv.pins_of {pins' : List (Addr × Obj)} (I : Inv X pins σ H s) (h : ∀ p ∈ pins', s.heap.get? p.1 = some p.2 ∧ H p.1 = none ∧ p.1 ≠ X.env.locals ∧ p.1 ∉ X.fs ∧ ∀ v, p.2.data ≠ .cell v) : Inv X pins' σ H s :=
 ⟨I.ok, I.os, I.bare, I.base, I.loc, I.cell, I.free, I.freeC, fun p hp => (List.mem_append.mp hp).elim (fun z => I.pin p (List.mem_append_left _ z)) (h p), I.hok, I.len⟩
theorem nodup_ix {N : List Str} (hN : N.Nodup) {i j : Nat} {x : Str} (a : N[i]? = some x) (b : N[j]? = some x) : i = j := by
 obtain ⟨h1, e1⟩ := List.getElem?_eq_some_iff.mp a
 obtain ⟨h2, e2⟩ := List.getElem?_eq_some_iff.mp b
 exact (List.getElem_inj hN).mp (e1.trans e2.symm)
theorem store_ok2 {M : Model} {A : Around} {E : Value → Shared → Prop} {i : Nat} {x : Str} {v : V} {u : Value} {Q : Unit → Shared → Prop} (I : Inv X pins σ H s) (hN : X.N.Nodup) (hi : X.N[i]? = some x) (hx : Loc X.env.scope x) (r : RelV v u)
   (h : ∀ s', Inv X pins (σ.set i (some v)) H s' → (∃ a, Heap.SameBut a s.heap s'.heap ∧ (a = X.env.locals ∨ X.env.cells.lookup x = some a)) → Q () s') (hf : X.fn x = true ∨ X.env.scope.names.lookup x = some .local := by first | exact .inl rfl | exact .inr rfl | assumption) : wpAny M A (storeName X.env x u) Q E s := by
 obtain ⟨m, hn, hl⟩ := id I.loc
 have hcls : (X.env.scope.kind == .class || (X.env.scope.kind == .module && X.env.locals != X.env.globals)) = false := by rw [I.ok.kind]; rfl
 have hiσ : i < σ.length := by rw [I.len]; exact (List.getElem?_eq_some_iff.mp hi).1
 have cne := I.cne
 have tracked : ∀ {a : Addr} {h' : Heap}, (∃ o, s.heap.get? a = some o ∧ H a = none) → Heap.SameBut a s.heap h' → HOk X.prog X.w H h' := fun {a h'} ha hs b ob e => by
   obtain ⟨_, _, hfree⟩ := ha
   refine (I.hok b ob e).stay (fun c w' hc q => (hs.2 c ?_).trans q) (fun _ q => q) fun _ _ q => q
   rintro rfl
   rcases hc with rfl | hc
   · rw [hfree] at e; cases e
   · rw [hfree] at hc; cases hc
 rcases hx with hk | hk
 · refine wpAny_storeName_local hk hn (fun h' hn' hs => ?_) hcls
   obtain ⟨oL, _, _, hoL, _⟩ := id hn
   refine h _ ⟨I.ok, I.os, I.bare, ⟨fun b o e n hb hx => ?_, fun b o e n hb hx => ?_, I.base.free, fun b o e hx => ?_, I.base.tups, I.base.frzs, I.base.tbls⟩, ⟨_, hn', fun j y v' e1 e2 e3 => ?_⟩, fun y c e => ?_, I.free, I.freeC, fun p hp => ?_, tracked ⟨oL, hoL, I.free⟩ hs, by simpa using I.len⟩ ⟨_, hs, .inl rfl⟩
   · exact (hs.2 b (Nat.ne_of_lt (Nat.lt_of_lt_of_le (Heap.lt_size e) I.ok.above))).trans (I.base.keep b o e n hb hx)
   · obtain ⟨sl, e1⟩ := I.base.slot b o e n hb hx
     exact ⟨sl, (hs.2 b (Nat.ne_of_lt (Nat.lt_of_lt_of_le (Heap.lt_size e) I.ok.above))).trans e1⟩
   · obtain ⟨o', e1⟩ := I.base.there b o e hx
     exact ⟨o', (hs.2 b (Nat.ne_of_lt (Nat.lt_of_lt_of_le (Heap.lt_size e) I.ok.above))).trans e1⟩
   · by_cases hj : j = i
     · subst hj
       rw [hi] at e1; cases e1
       rw [List.getElem?_set_self hiσ] at e2
       cases e2
       exact ⟨u, r, .inl ⟨hk, by simp⟩⟩
     · rw [List.getElem?_set_ne (Ne.symm hj)] at e2
       obtain ⟨u', r', q⟩ := hl j y v' e1 e2 e3
       refine ⟨u', r', ?_⟩
       rcases q with ⟨k, e⟩ | ⟨k, c, e, z⟩
       · refine .inl ⟨k, ?_⟩
         have : y ≠ x := fun e => hj (nodup_ix hN e1 (e ▸ hi))
         simp [this, e]
       · exact .inr ⟨k, c, e, z.sameBut hs (cne y c e)⟩
   · obtain ⟨w', z⟩ := I.cell y c e
     exact ⟨w', z.sameBut hs (cne y c e)⟩
   · obtain ⟨e, n, ne, nf, d⟩ := I.pin p hp
     exact ⟨(hs.2 p.1 ne).trans e, n, ne, nf, d⟩
 · have hfn : X.fn x = true := by
     rcases hf with z | z
     · exact z
     · rw [z] at hk; cases hk
   obtain ⟨c, hc⟩ := I.ok.has x (.inl hk)
   obtain ⟨w', z⟩ := I.cell x c hc
   refine wpAny_storeName_cell I.ok.kind hk hc z (fun h' hc' hs => ?_)
   obtain ⟨oc, hoc, hocd⟩ := id z
   refine h { s with heap := h' } ⟨I.ok, I.os, I.bare, ⟨fun b o e n hb hx => ?_, fun b o e n hb hx => ?_, I.base.free, fun b o e hx => ?_, I.base.tups, I.base.frzs, I.base.tbls⟩, ⟨m, hn.sameBut hs (Ne.symm (cne x c hc)), fun j y v' e1 e2 e3 => ?_⟩, fun y c' e => ?_, I.free, I.freeC, fun p hp => ?_, tracked ⟨oc, hoc, I.freeC x c hc⟩ hs, by simpa using I.len⟩ ⟨c, hs, .inr hc⟩
   · exact (hs.2 b (Nat.ne_of_lt (Nat.lt_of_lt_of_le (Heap.lt_size e) (I.ok.cab x c hfn hc)))).trans (I.base.keep b o e n hb hx)
   · obtain ⟨sl, e1⟩ := I.base.slot b o e n hb hx
     exact ⟨sl, (hs.2 b (Nat.ne_of_lt (Nat.lt_of_lt_of_le (Heap.lt_size e) (I.ok.cab x c hfn hc)))).trans e1⟩
   · obtain ⟨o', e1⟩ := I.base.there b o e hx
     exact ⟨o', (hs.2 b (Nat.ne_of_lt (Nat.lt_of_lt_of_le (Heap.lt_size e) (I.ok.cab x c hfn hc)))).trans e1⟩
   · by_cases hj : j = i
     · subst hj
       rw [hi] at e1; cases e1
       rw [List.getElem?_set_self hiσ] at e2
       cases e2
       exact ⟨u, r, .inr ⟨.inl hk, c, hc, hc'⟩⟩
     · rw [List.getElem?_set_ne (Ne.symm hj)] at e2
       obtain ⟨u', r', q⟩ := hl j y v' e1 e2 e3
       refine ⟨u', r', ?_⟩
       rcases q with q | ⟨k, c', e, z'⟩
       · exact .inl q
       · refine .inr ⟨k, c', e, z'.sameBut hs ?_⟩
         rintro rfl
         exact hj (nodup_ix hN e1 (I.ok.inj _ _ _ e hc ▸ hi))
   · by_cases hcc : c' = c
     · subst hcc; exact ⟨_, hc'⟩
     · obtain ⟨w2, z2⟩ := I.cell y c' e
       exact ⟨w2, z2.sameBut hs hcc⟩
   · obtain ⟨e, n, ne, nf, d⟩ := I.pin p hp
     refine ⟨(hs.2 p.1 ?_).trans e, n, ne, nf, d⟩
     intro q
     rw [q, hoc] at e
     have q' : oc = p.2 := Option.some.inj e
     exact d w' (by rw [← q']; exact hocd)
theorem store_ok {M : Model} {A : Around} {E : Value → Shared → Prop} {i : Nat} {x : Str} {v : V} {u : Value} {Q : Unit → Shared → Prop} (I : Inv X pins σ H s) (hN : X.N.Nodup) (hi : X.N[i]? = some x) (hx : Loc X.env.scope x) (r : RelV v u)
   (h : ∀ s', Inv X pins (σ.set i (some v)) H s' → Q () s') (hf : X.fn x = true ∨ X.env.scope.names.lookup x = some .local := by first | exact .inl rfl | exact .inr rfl | assumption) : wpAny M A (storeName X.env x u) Q E s :=
 store_ok2 I hN hi hx r (fun s' I' _ => h s' I') hf
theorem Inv.call' {s' : Shared} {ch : List Addr} (I : Inv X pins σ H s) (ho : s'.os = s.os) (u : Un (frs X.stack) ch H H' s.heap s'.heap) (hok : HOk X.prog X.w H' s'.heap) (hg : AllBare s'.gens)
   (hch : ∀ b ∈ ch, (b ∈ X.ex ∨ X.s₀.heap.objs.size ≤ b) ∧ b ≠ X.env.locals ∧ (∀ x c, X.env.cells.lookup x = some c → c ≠ b) ∧ ∀ p ∈ X.pn ++ pins, p.1 ≠ b) : Inv X pins σ H' s' := by
 obtain ⟨h', g', d', t', o'⟩ := s'
 have e : o' = s.os := ho
 subst e
 exact I.call (g' := g') (t' := t') (d' := d') u hok hg hch
end
abbrev XK := Value → Option Addr → Hp → Prop
abbrev St := List (Option V)
abbrev VK := V → Hp → Prop
abbrev TE := St → Hp → VK → Prop
abbrev TT := St → Hp → (Bool → Hp → Prop) → Prop
abbrev TA := St → Hp → (List V → Hp → Prop) → Prop
structure Ends where
 nx : St → Hp → Prop
 rt : VK
 bk : St → Hp → Prop := fun _ _ => False
 ct : St → Hp → Prop := fun _ _ => False
abbrev TS := Ends → St → Hp → Prop
def EP (X : Cx) (pins : List (Addr × Obj)) (σ : St) (Q : VK) (u : Value) (s' : Shared) : Prop := ∃ v H', Inv X pins σ H' s' ∧ RelV v u ∧ Q v H'
def TP (X : Cx) (pins : List (Addr × Obj)) (σ : St) (Q : Bool → Hp → Prop) (b : Bool) (s' : Shared) : Prop := ∃ H', Inv X pins σ H' s' ∧ Q b H'
def AP (X : Cx) (pins : List (Addr × Obj)) (σ : St) (Q : List V → Hp → Prop) (us : List Value) (s' : Shared) : Prop := ∃ vs H', Inv X pins σ H' s' ∧ Vals vs us ∧ Q vs H'
def SP (X : Cx) (pins : List (Addr × Obj)) (D : Ends) (f : Flow) (s' : Shared) : Prop :=
 match f with
 | .next => ∃ σ' H', Inv X pins σ' H' s' ∧ D.nx σ' H'
 | .brk => ∃ σ' H', Inv X pins σ' H' s' ∧ D.bk σ' H'
 | .cont => ∃ σ' H', Inv X pins σ' H' s' ∧ D.ct σ' H'
 | .ret u => ∃ v σ' H', Inv X pins σ' H' s' ∧ RelV v u ∧ D.rt v H'
def PE (X : Cx) (e : Expr) (t : TE) : Prop :=
 ∀ (pins : List (Addr × Obj)) (s : Shared) (σ : St) (H : Hp) (Q : VK), Inv X pins σ H s → t σ H Q → wpAny (model X.prog X.w) X.A (eval e X.env) (EP X pins σ Q) X.xe s
def PT (X : Cx) (e : Expr) (t : TT) : Prop :=
 ∀ (pins : List (Addr × Obj)) (s : Shared) (σ : St) (H : Hp) (Q : Bool → Hp → Prop), Inv X pins σ H s → t σ H Q → wpAny (model X.prog X.w) X.A (isTrue e X.env (eval e X.env)) (TP X pins σ Q) X.xe s
def PW (X : Cx) (e : Expr) (t : TT) : Prop :=
 ∀ (whole : Sem Value) (pins : List (Addr × Obj)) (s : Shared) (σ : St) (H : Hp) (Q : Bool → Hp → Prop), Inv X pins σ H s → t σ H Q → wpAny (model X.prog X.w) X.A (isTrue e X.env whole) (TP X pins σ Q) X.xe s
theorem PW.pt {X : Cx} {e : Expr} {t : TT} (h : PW X e t) : PT X e t := h _
def PA (X : Cx) (es : List Expr) (t : TA) : Prop :=
 ∀ (pos : Pos) (pins : List (Addr × Obj)) (s : Shared) (σ : St) (H : Hp) (Q : List V → Hp → Prop), Inv X pins σ H s → t σ H Q → wpAny (model X.prog X.w) X.A (spliced (backTo pos (starEach es X.env))) (AP X pins σ Q) X.xe s
def PS (X : Cx) (st : Stmt) (t : TS) : Prop :=
 ∀ (pins : List (Addr × Obj)) (s : Shared) (σ : St) (H : Hp) (D : Ends), Inv X pins σ H s → t D σ H → wpAny (model X.prog X.w) X.A (exec st X.env) (SP X pins D) X.xe s
def PSs (X : Cx) (st : List Stmt) (t : TS) : Prop :=
 ∀ (pins : List (Addr × Obj)) (s : Shared) (σ : St) (H : Hp) (D : Ends), Inv X pins σ H s → t D σ H → wpAny (model X.prog X.w) X.A (execs st X.env) (SP X pins D) X.xe s
theorem thn {α : Type} {t : Sem α} {Q Q' : α → Shared → Prop} {M : Model} {A : Around} {E : Value → Shared → Prop} {s : Shared} (h : wpAny M A t Q E s) (hQ : ∀ a s, Q a s → Q' a s) : wpAny M A t Q' E s := wpAny_mono h hQ fun _ _ x => x
end L2
namespace L2
open PySem PySem.Spec PyProof.Rows
section
variable {X : Cx}
def tVar (i : Nat) : TE := fun σ H Q => ∃ v, σ[i]? = some (some v) ∧ Q v H
def tC (v : V) : TE := fun _ H Q => Q v H
theorem pe_var {i : Nat} {x : Str} {pos : Pos} (hN : X.N[i]? = some x) (hv : Vis X.env.scope x) (hd : (x == ("__debug__" : Str)) = false := by decide) (hcd : (x == ("__classdict__" : Str)) = false := by decide) : PE X (.Name x pos) (tVar i) := by
 intro pins s σ H Q I h
 obtain ⟨v, e, h⟩ := h
 obtain ⟨m, hn, hl⟩ := I.loc
 obtain ⟨u, r, l⟩ := hl i x v hN e hv
 have fin : EP X pins σ Q u s := ⟨v, H, I, r, h⟩
 rcases l with ⟨hk, hm⟩ | ⟨hk, c, hc, hcell⟩
 · exact wpAny_Name (wpAny_loadName_local I.ok.kind hk hn hm fin) hd
 · rcases hk with hk | hk
   · exact wpAny_Name (wpAny_loadName_cell I.ok.kind hk hc hcell fin) hd
   · exact wpAny_Name (wpAny_loadName_free I.ok.kind hk hc hcell fin hcd) hd
theorem pe_int {i j pos} : PE X (.Constant (.int i) j pos) (tC (.int i)) := fun _ _ _ H _ I h => wpAny_Constant_int ⟨.int i, H, I.tok _, ⟨_, rfl⟩, h⟩
theorem pe_bl {b j pos} : PE X (.Constant (.bool b) j pos) (tC (.bl b)) := fun _ _ _ H _ I h => Constant_bool ⟨.bl b, H, I, rfl, h⟩
theorem pe_non {j pos} : PE X (.Constant .none j pos) (tC .non) := fun _ _ _ H _ I h => Constant_none ⟨.non, H, I, rfl, h⟩
theorem pe_str {x j pos} : PE X (.Constant (.str x) j pos) (tC (.str x)) := fun _ _ _ H _ I h => Calls.Constant_str ⟨.str x, H, I.tok _, ⟨_, rfl⟩, h⟩
def Gl (X : Cx) (x : Str) : Prop := X.env.kindOf x = some .globalImplicit
theorem ld_glob {E : Value → Shared → Prop} {pins : List (Addr × Obj)} {s : Shared} {σ : St} {H : Hp} {x : Str} {u : Value} {pos : Pos} {Q : Value → Shared → Prop} (I : Inv X pins σ H s) (hg : Gl X x) (hm : X.mg x = some u) (h : Q u s)
   (hd : (x == ("__debug__" : Str)) = false := by decide) : wpAny (model X.prog X.w) X.A (eval (.Name x pos) X.env) Q E s :=
 Calls.Name_function_global I.ok.kind hg (Calls.loadGlobal_global (by rw [I.ok.glob]; exact I.mod.glob.keeps I.bk) hm h) hd
theorem ld_blt {E : Value → Shared → Prop} {pins : List (Addr × Obj)} {s : Shared} {σ : St} {H : Hp} {x : Str} {u : Value} {pos : Pos} {Q : Value → Shared → Prop} (I : Inv X pins σ H s) (hg : Gl X x) (hm : X.mg x = none) (hv : bootBuiltins x = some u) (h : Q u s)
   (hn : x ≠ "__name__" := by decide) (hd : (x == ("__debug__" : Str)) = false := by decide) : wpAny (model X.prog X.w) X.A (eval (.Name x pos) X.env) Q E s := by
 obtain ⟨mb, h1, h2⟩ := I.mod.blt
 exact Calls.Name_function_global I.ok.kind hg (Calls.loadGlobal_builtin (by rw [I.ok.glob]; exact I.mod.glob.keeps I.bk) hm (by rw [I.ok.blt]; exact h1.keeps I.bk) ((h2 x hn).trans hv) h) hd
theorem pe_glob {x : Str} {v : V} {u : Value} {pos : Pos} (hg : Gl X x) (hm : X.mg x = some u) (r : RelV v u) (hd : (x == ("__debug__" : Str)) = false := by decide) : PE X (.Name x pos) (tC v) :=
 fun _ _ _ H _ I h => ld_glob I hg hm ⟨v, H, I, r, h⟩ hd
theorem pe_bltn {x : Str} {v : V} {u : Value} {pos : Pos} (hg : Gl X x) (hm : X.mg x = none) (hv : bootBuiltins x = some u) (r : RelV v u) (hn : x ≠ "__name__" := by decide) (hd : (x == ("__debug__" : Str)) = false := by decide) : PE X (.Name x pos) (tC v) :=
 fun _ _ _ H _ I h => ld_blt I hg hm hv ⟨v, H, I, r, h⟩ hn hd
variable {a b : Expr} {ta tb : TE} {pos : Pos}
variable {tA tB' : TT} {rest : List Expr}
def tAnd (t u : TT) : TT := fun σ H Q => t σ H fun c H1 => if c = true then u σ H1 Q else Q false H1
def tOr (t u : TT) : TT := fun σ H Q => t σ H fun c H1 => if c = true then Q true H1 else u σ H1 Q
def tNot (t : TT) : TT := fun σ H Q => t σ H fun c H1 => Q (!c) H1
theorem pw_and1 (ha : PT X a tA) : PW X (.BoolOp .And [a] pos) tA := by
 intro wh pins s σ H Q I h
 refine isTrue_and (thn (ha pins s σ H Q I h) fun c s1 e => ?_)
 cases c with
 | true => exact isTrue_and_nil e
 | false => exact e
theorem pw_or1 (ha : PT X a tA) : PW X (.BoolOp .Or [a] pos) tA := by
 intro wh pins s σ H Q I h
 refine isTrue_or (thn (ha pins s σ H Q I h) fun c s1 e => ?_)
 cases c with
 | false => exact isTrue_or_nil e
 | true => exact e
theorem pw_and (ha : PT X a tA) (hb : PW X (.BoolOp .And (b :: rest) pos) tB') : PW X (.BoolOp .And (a :: b :: rest) pos) (tAnd tA tB') := by
 intro wh pins s σ H Q I h
 refine isTrue_and (thn (ha pins s σ H _ I h) fun c s1 ⟨H1, I1, q1⟩ => ?_)
 cases c with
 | true => exact hb wh pins s1 σ H1 Q I1 q1
 | false => exact ⟨H1, I1, q1⟩
theorem pw_or (ha : PT X a tA) (hb : PW X (.BoolOp .Or (b :: rest) pos) tB') : PW X (.BoolOp .Or (a :: b :: rest) pos) (tOr tA tB') := by
 intro wh pins s σ H Q I h
 refine isTrue_or (thn (ha pins s σ H _ I h) fun c s1 ⟨H1, I1, q1⟩ => ?_)
 cases c with
 | true => exact ⟨H1, I1, q1⟩
 | false => exact hb wh pins s1 σ H1 Q I1 q1
theorem pt_not (ha : PT X a tA) : PT X (.UnaryOp .Not a pos) (tNot tA) := by
 intro pins s σ H Q I h
 exact isTrue_not (ha pins s σ H (fun c H1 => Q (!c) H1) I h)
def tAndV (ta tb : TE) : TE := fun σ H Q => ta σ H fun x H1 => ∃ c, x = .bl c ∧ if c = true then tb σ H1 Q else Q (.bl false) H1
def tNotV (ta : TE) : TE := fun σ H Q => ta σ H fun x H1 => ∃ c, x = .bl c ∧ Q (.bl (!c)) H1
theorem pe_one {op} {t : TE} (h : PE X a t) : PE X (.BoolOp op [a] pos) t := fun pins s σ H Q I hw => BoolOp_one (h pins s σ H Q I hw)
theorem pe_and (ha : PE X a ta) (hb : PE X (.BoolOp .And (b :: rest) pos) tb) : PE X (.BoolOp .And (a :: b :: rest) pos) (tAndV ta tb) := by
 intro pins s σ H Q I h
 refine BoolOp_and (thn (ha pins s σ H _ I h) fun v s1 ⟨x, H1, I1, r1, q1⟩ => ?_)
 obtain ⟨c, rfl, q1⟩ := q1
 cases r1
 refine wpAny_truthy_bool ?_
 cases c with
 | true => exact hb pins s1 σ H1 Q I1 q1
 | false => exact ⟨.bl false, H1, I1, rfl, q1⟩
theorem pe_not (ha : PE X a ta) : PE X (.UnaryOp .Not a pos) (tNotV ta) := by
 intro pins s σ H Q I h
 refine UnaryOp_ (thn (ha pins s σ H _ I h) fun v s1 ⟨x, H1, I1, r1, q1⟩ => ?_)
 obtain ⟨c, rfl, q1⟩ := q1
 cases r1
 exact not_of (wpAny_truthy_bool ⟨.bl (!c), H1, I1, rfl, q1⟩)
def tIf (t : TT) (ta tb : TE) : TE := fun σ H Q => t σ H fun c H1 => if c = true then ta σ H1 Q else tb σ H1 Q
theorem pe_ifExp {c : Expr} (hc : PT X c tA) (ha : PE X a ta) (hb : PE X b tb) : PE X (.IfExp c a b pos) (tIf tA ta tb) := by
 intro pins s σ H Q I h
 refine wpAny_IfExp (thn (hc pins s σ H _ I h) fun d s1 ⟨H1, I1, q1⟩ => ?_)
 cases d with
 | true => exact ha pins s1 σ H1 Q I1 q1
 | false => exact hb pins s1 σ H1 Q I1 q1
end
end L2
namespace L2
open PySem PySem.Spec PyProof.Rows
def SqL (K : PySem.W.Frag) (H : Hp) (a : Addr) (xs : List V) : Prop :=
 Rd H a (.lst xs) ∨
   ∃ (o : Obj) (its : Array Value) (n : Nat), K.lookup a = some o ∧ o.cls = .type "list" ∧ o.dict = none ∧ o.data = .seq its n ∧ its.size ≤ sizeLine ∧ Vals xs its.toList
def SqT (K : PySem.W.Frag) (H : Hp) (a : Addr) (xs : List V) : Prop :=
 Rd H a (.tup xs) ∨
   ∃ (o : Obj) (its : Array Value) (n : Nat), K.lookup a = some o ∧ o.cls = .type "tuple" ∧ o.data = .seq its n ∧ its.size ≤ sizeLine ∧ Vals xs its.toList
def absV : Value → Option V
 | .none => some .non
 | .bool b => some (.bl b)
 | .int i _ => some (.int i)
 | .str x _ => some (.str x)
 | .bytes b _ => some (.byt b)
 | .float b _ => some (.flt b)
 | .ref a => some (.ref a)
 | .type n => some (.ty n)
 | _ => none
theorem RelV.abs {x : V} {u : Value} (r : RelV x u) : absV u = some x := by
 cases x with
 | non => cases r; rfl
 | bl _ => cases r; rfl
 | int _ => obtain ⟨t, rfl⟩ := r; rfl
 | str _ => obtain ⟨t, rfl⟩ := r; rfl
 | byt _ => obtain ⟨t, rfl⟩ := r; rfl
 | flt _ => obtain ⟨t, rfl⟩ := r; rfl
 | ref _ => cases r; rfl
 | ty _ => cases r; rfl
theorem RelV.inj {x y : V} {u : Value} (r : RelV x u) (q : RelV y u) : x = y := Option.some.inj (r.abs.symm.trans q.abs)
theorem Vals.inj : ∀ {xs ys : List V} {us : List Value}, Vals xs us → Vals ys us → xs = ys
 | _, _, _, .nil, .nil => rfl
 | _, _, _, .cons r t, .cons r' t' => by rw [r.inj r', Vals.inj t t']
section
variable {X : Cx} {pins : List (Addr × Obj)} {σ : St} {H : Hp} {s : Shared} {a : Addr} {xs ys : List V}
theorem SqL.of {K : PySem.W.Frag} (h : H a = some (.lst xs)) : SqL K H a xs := .inl (.inl h)
theorem SqT.of {K : PySem.W.Frag} (h : H a = some (.tup xs)) : SqT K H a xs := .inl (.inl h)
theorem Inv.list (I : Inv X pins σ H s) (h : SqL X.K H a xs) : ∃ its : List Value, Vals xs its ∧ PlainL s.heap a its.toArray ∧ xs.length ≤ sizeLine := by
 rcases h with h | ⟨o, its, n, hk, hc, hd, hs, hz, r⟩
 · obtain ⟨z, its, n, r, e⟩ := h.ok I.hok
   exact ⟨its, r, ⟨_, n, e, rfl, rfl, rfl⟩, z⟩
 · refine ⟨its.toList, r, ⟨o, n, I.kIn a o hk, hc, hd, by simpa using hs⟩, ?_⟩
   have e := r.length
   simp only [Array.length_toList] at e
   omega
theorem Inv.tuple (I : Inv X pins σ H s) (h : SqT X.K H a xs) : ∃ its : List Value, Vals xs its ∧ IsTup s.heap a its.toArray ∧ xs.length ≤ sizeLine := by
 rcases h with h | ⟨o, its, n, hk, hc, hs, hz, r⟩
 · obtain ⟨z, its, r, p⟩ := h.ok I.hok
   exact ⟨its, r, p, z⟩
 · refine ⟨its.toList, r, ⟨o, I.kIn a o hk, hc, n, by simpa using hs⟩, ?_⟩
   have e := r.length
   simp only [Array.length_toList] at e
   omega
theorem Inv.list_inj (I : Inv X pins σ H s) (h : SqL X.K H a xs) (h' : SqL X.K H a ys) : xs = ys := by
 obtain ⟨its, r, ⟨o, n, e, _, _, d⟩, _⟩ := I.list h
 obtain ⟨its', r', ⟨o', n', e', _, _, d'⟩, _⟩ := I.list h'
 rw [e] at e'; cases e'
 rw [d] at d'
 injection d' with d1 _
 have : its = its' := by simpa using congrArg Array.toList d1
 subst this
 exact r.inj r'
theorem Inv.tuple_inj (I : Inv X pins σ H s) (h : SqT X.K H a xs) (h' : SqT X.K H a ys) : xs = ys := by
 obtain ⟨its, r, ⟨o, e, _, n, d⟩, _⟩ := I.tuple h
 obtain ⟨its', r', ⟨o', e', _, n', d'⟩, _⟩ := I.tuple h'
 rw [e] at e'; cases e'
 rw [d] at d'
 injection d' with d1 _
 have : its = its' := by simpa using congrArg Array.toList d1
 subst this
 exact r.inj r'
end
abbrev Cx.wish (X : Cx) (E : Value → Shared → Prop) : Cx := { X with xe := E }
abbrev Cx.nox (X : Cx) : Cx := X.wish fun _ _ => False
theorem Cx.Ok.wish {X : Cx} (ok : X.Ok) (E : Value → Shared → Prop) : (X.wish E).Ok :=
 ⟨ok.mod, ok.kind, ok.glob, ok.blt, ok.above, ok.inj, ok.has, ok.cab, ok.hd, ok.frames, ok.stk, ok.exf, ok.bs, ok.bsz, ok.noex, ok.exfs, ok.funs, ok.frf⟩
theorem Cx.Ok.unwish {X : Cx} {E : Value → Shared → Prop} (ok : (X.wish E).Ok) : X.Ok :=
 ⟨ok.mod, ok.kind, ok.glob, ok.blt, ok.above, ok.inj, ok.has, ok.cab, ok.hd, ok.frames, ok.stk, ok.exf, ok.bs, ok.bsz, ok.noex, ok.exfs, ok.funs, ok.frf⟩
section
variable {X : Cx} {pins : List (Addr × Obj)} {σ : St} {H : Hp} {s : Shared} {E : Value → Shared → Prop}
theorem Inv.wish (I : Inv X pins σ H s) (E : Value → Shared → Prop) : Inv (X.wish E) pins σ H s := ⟨I.ok.wish E, I.os, I.bare, I.base, I.loc, I.cell, I.free, I.freeC, I.pin, I.hok, I.len⟩
theorem Inv.unwish (I : Inv (X.wish E) pins σ H s) : Inv X pins σ H s := ⟨I.ok.unwish, I.os, I.bare, I.base, I.loc, I.cell, I.free, I.freeC, I.pin, I.hok, I.len⟩
theorem SP.unwish {D : Ends} {f : Flow} {s' : Shared} (h : SP (X.wish E) pins D f s') : SP X pins D f s' := by
 cases f with
 | next => obtain ⟨σ', H', I, q⟩ := h; exact ⟨σ', H', I.unwish, q⟩
 | brk => obtain ⟨σ', H', I, q⟩ := h; exact ⟨σ', H', I.unwish, q⟩
 | cont => obtain ⟨σ', H', I, q⟩ := h; exact ⟨σ', H', I.unwish, q⟩
 | ret u => obtain ⟨v, σ', H', I, r, q⟩ := h; exact ⟨v, σ', H', I.unwish, r, q⟩
theorem PT.nox {e : Expr} {t : TT} (h : PT X.nox e t) : PT X e t := fun pins s σ H Q I hw =>
 wpAny_mono (h pins s σ H Q (I.wish _) hw) (fun _ _ ⟨H', I', q⟩ => ⟨H', I'.unwish, q⟩) fun _ _ z => False.elim z
theorem PSs.nox {st : List Stmt} {t : TS} (h : PSs X.nox st t) : PSs X st t := fun pins s σ H D I hw =>
 wpAny_mono (h pins s σ H D (I.wish _) hw) (fun _ _ q => q.unwish) fun _ _ z => False.elim z
end
section
variable {X : Cx} {st : Stmt} {rest : List Stmt} {t u : TS} {e : Expr} {te : TE} {pos : Pos}
def tNext : TS := fun D σ H => D.nx σ H
def tSeq (t u : TS) : TS := fun D σ H => t { D with nx := u D } σ H
theorem pss_nil : PSs X [] tNext := fun _ _ σ H _ I h => wpAny_execs_nil ⟨σ, H, I, h⟩
theorem pss_cons (h1 : PS X st t) (h2 : PSs X rest u) : PSs X (st :: rest) (tSeq t u) := by
 intro pins s σ H D I h
 refine wpAny_execs_cons (thn (h1 pins s σ H { D with nx := u D } I h) fun f s1 q => ?_)
 cases f with
 | next =>
   obtain ⟨σ', H', I', q⟩ := q
   exact h2 pins s1 σ' H' D I' q
 | ret v => exact q
 | brk => exact q
 | cont => exact q
theorem pss_one (h1 : PS X st t) : PSs X [st] t := by
 intro pins s σ H D I h
 refine wpAny_execs_cons (thn (h1 pins s σ H D I h) fun f s1 q => ?_)
 cases f with
 | next => exact wpAny_execs_nil q
 | ret v => exact q
 | brk => exact q
 | cont => exact q
theorem Inv.quiet {pins : List (Addr × Obj)} {σ : St} {H : Hp} {s : Shared} (I : Inv X pins σ H s) : interactive X.env = false := by simp [interactive, I.ok.kind]
def tDrop (te : TE) : TS := fun D σ H => te σ H fun _ H1 => D.nx σ H1
theorem ps_expr (he : PE X e te) (hs : swapsWith e none pos.line X.env = pure false := by rfl) : PS X (.Expr e pos) (tDrop te) := by
 intro pins s σ H D I h
 exact wpAny_Expr_any (thn (he pins s σ H _ I h) fun v s1 ⟨x, H1, I1, r1, q1⟩ => ⟨σ, H1, I1, q1⟩) I.quiet hs
def tRet (te : TE) : TS := fun D σ H => te σ H D.rt
theorem ps_ret (he : PE X e te) : PS X (.Return (some e) pos) (tRet te) := by
 intro pins s σ H D I h
 exact wpAny_Return_some (thn (he pins s σ H _ I h) fun v s1 ⟨x, H1, I1, r1, q1⟩ => ⟨x, σ, H1, I1, r1, q1⟩)
def tIfS (c : TT) (t u : TS) : TS := fun D σ H => c σ H fun b H1 => if b = true then t D σ H1 else u D σ H1
theorem ps_if {c : Expr} {a b : List Stmt} {tc : TT} (hc : PT X c tc) (ha : PSs X a t) (hb : PSs X b u) : PS X (.If c a b pos) (tIfS tc t u) := by
 intro pins s σ H D I h
 refine wpAny_If (thn (hc pins s σ H _ I h) fun d s1 ⟨H1, I1, q1⟩ => ?_)
 cases d with
 | true => exact ha pins s1 σ H1 D I1 q1
 | false => exact hb pins s1 σ H1 D I1 q1
end
abbrev TG := V → St → Hp → (St → Hp → Prop) → Prop
abbrev TGs := List V → St → Hp → (St → Hp → Prop) → Prop
def PG (X : Cx) (target : Expr) (t : TG) : Prop :=
 ∀ (pins : List (Addr × Obj)) (s : Shared) (σ : St) (H : Hp) (v : V) (u : Value) (Q : St → Hp → Prop), Inv X pins σ H s → RelV v u → t v σ H Q →
   wpAny (model X.prog X.w) X.A (assign target X.env u) (fun _ s' => ∃ σ' H', Inv X pins σ' H' s' ∧ Q σ' H') X.xe s
def PGs (X : Cx) (ts : List Expr) (t : TGs) : Prop :=
 ∀ (pins : List (Addr × Obj)) (s : Shared) (σ : St) (H : Hp) (vs : List V) (us : List Value) (Q : St → Hp → Prop), Inv X pins σ H s → Vals vs us → t vs σ H Q →
   wpAny (model X.prog X.w) X.A (assignInOrder ((assignEach ts X.env).map (·.2)) us) (fun _ s' => ∃ σ' H', Inv X pins σ' H' s' ∧ Q σ' H') X.xe s
section
variable {X : Cx} {pos : Pos}
def gName (i : Nat) : TG := fun v σ H Q => Q (σ.set i (some v)) H
theorem pg_name {i : Nat} {x : Str} (hN : X.N.Nodup) (hi : X.N[i]? = some x) (hx : Loc X.env.scope x) (hf : X.fn x = true ∨ X.env.scope.names.lookup x = some .local := by first | exact .inl rfl | exact .inr rfl | assumption) : PG X (.Name x pos) (gName i) := by
 intro pins s σ H v u Q I r h
 exact wpAny_assign_Name (store_ok I hN hi hx r (fun s' I' => ⟨_, H, I', h⟩) hf)
def gNil : TGs := fun vs σ H Q => vs = [] ∧ Q σ H
def gCons (t : TG) (u : TGs) : TGs := fun vs σ H Q => ∃ v r, vs = v :: r ∧ t v σ H fun σ' H' => u r σ' H' Q
theorem pgs_nil : PGs X [] gNil := by
 intro pins s σ H vs us Q I r h
 obtain ⟨e, h⟩ := h
 subst e
 cases r
 exact assignInOrder_nil ⟨σ, H, I, h⟩
theorem pgs_cons {e : Expr} {es : List Expr} {t : TG} {u : TGs} (h1 : PG X e t) (h2 : PGs X es u)
   (hs : (assignEach (e :: es) X.env).map (·.2) = assign e X.env :: (assignEach es X.env).map (·.2) := by rfl) : PGs X (e :: es) (gCons t u) := by
 intro pins s σ H vs us Q I r h
 obtain ⟨v, vr, e1, h⟩ := h
 subst e1
 cases r with
 | cons r rr =>
   rw [hs]
   refine assignInOrder_cons (thn (h1 pins s σ H _ _ _ I r h) fun _ s1 ⟨σ1, H1, I1, q1⟩ => ?_)
   exact h2 pins s1 σ1 H1 _ _ Q I1 rr q1
def gTup (K : PySem.W.Frag) (n : Nat) (t : TGs) : TG := fun v σ H Q => ∃ a xs, v = .ref a ∧ SqT K H a xs ∧ xs.length = n ∧ t xs σ H Q
theorem pg_tup {es : List Expr} {k : Nat} {t : TGs} {n : Nat} (hc : X.calm = true) (h : PGs X es t)
   (hn : (assignEach es X.env).length = n := by rfl) (hst : (assignEach es X.env).findIdx? (·.1) = none := by rfl) : PG X (.Tuple es k pos) (gTup X.K n t) := by
 intro pins s σ H v u Q I r hw
 obtain ⟨a, xs, e1, hq, hl, hw⟩ := hw
 subst e1
 cases r
 obtain ⟨its, rv, ht, hz⟩ := I.tuple hq
 refine assign_Tuple_tuple (I.ok.hd hc) ht (by simp [hn, ← hl, rv.length]) hst fun h' hx => ?_
 have I1 : Inv X pins σ H { s with heap := h' } := I.kept (t' := s.toks) fun b o e => hx b o (Nat.ne_of_lt (Heap.lt_size e)) e
 exact h pins _ σ H xs _ Q I1 (by simpa using rv) hw
def tAsg (te : TE) (g : TG) : TS := fun D σ H => te σ H fun x H1 => g x σ H1 D.nx
theorem ps_set {i : Nat} {x : Str} {e : Expr} {te : TE} {pos' : Pos} (hN : X.N.Nodup) (hi : X.N[i]? = some x) (hx : Loc X.env.scope x) (he : PE X e te) (hs : swapsWith e (some (.Name x pos')) pos.line X.env = pure false := by rfl) (hf : X.fn x = true ∨ X.env.scope.names.lookup x = some .local := by first | exact .inl rfl | exact .inr rfl | assumption) :
   PS X (.Assign [.Name x pos'] e pos) (tAsg te (gName i)) := by
 intro pins s σ H D I h
 refine wpAny_Assign_Name (thn (he pins s σ H _ I h) fun v s1 ⟨y, H1, I1, r1, q1⟩ => ?_) hs
 exact store_ok I1 hN hi hx r1 (fun s2 I2 => ⟨_, H1, I2, q1⟩) hf
end
section
variable {X : Cx} {pos : Pos}
def tWhile (c : TT) (tb : TS) : TS := fun D σ H => ∃ W : Nat → St → Hp → Prop, (∃ m, W m σ H) ∧ ∀ m σ H, W m σ H →
 c σ H fun b H1 => if b = true then ∃ N : St → Hp → Prop, (∀ σ' H', N σ' H' → ∃ m', m' < m ∧ W m' σ' H') ∧ tb { D with nx := N, ct := N, bk := D.nx } σ H1 else D.nx σ H1
theorem ps_while {c : Expr} {body : List Stmt} {tc : TT} {tb : TS} (hp : PassesOwn (model X.prog X.w) X.A X.env X.xe) (hc : PT X c tc) (hb : PSs X body tb) : PS X (.While c body [] pos) (tWhile tc tb) := by
 intro pins s σ H D I h
 obtain ⟨W, ⟨m0, w0⟩, turn⟩ := h
 refine wpAny_While (codeAny_whileLoop (fun n s' => ∃ σ' H', Inv X pins σ' H' s' ∧ W n σ' H') ?_ m0 ⟨σ, H, I, w0⟩)
 rintro n s1 ⟨σ1, H1, I1, w1⟩
 refine wpAny_passesOwn hp (thn (hc pins s1 σ1 H1 _ I1 (turn n σ1 H1 w1)) fun b s2 ⟨H2, I2, q2⟩ => ?_)
 cases b with
 | true =>
   obtain ⟨N, hN, q2⟩ := q2
   rw [if_pos rfl]
   refine wpAny_passesOwn hp (thn (hb pins s2 σ1 H2 _ I2 q2) fun f s3 q3 => ?_)
   cases f with
   | next =>
     obtain ⟨σ3, H3, I3, n3⟩ := q3
     obtain ⟨m', hm, w3⟩ := hN σ3 H3 n3
     exact ⟨m', hm, σ3, H3, I3, w3⟩
   | cont =>
     obtain ⟨σ3, H3, I3, n3⟩ := q3
     obtain ⟨m', hm, w3⟩ := hN σ3 H3 n3
     exact ⟨m', hm, σ3, H3, I3, w3⟩
   | brk => exact q3
   | ret v => exact q3
 | false =>
   rw [if_neg Bool.false_ne_true]
   exact wpAny_execs_nil ⟨σ1, H2, I2, q2⟩
end
structure It where
 go : Nat → Hp → Prop
 yld : Nat → Hp → V → Hp → Prop
 stop : Nat → Hp → Prop
def FpOk (X : Cx) (pins : List (Addr × Obj)) (H : Hp) (b : Addr) : Prop :=
 H b = none ∧ b ≠ X.env.locals ∧ b ∉ X.fs ∧ (b ∈ X.ex ∨ X.s₀.heap.objs.size ≤ b) ∧ (∀ x c, X.env.cells.lookup x = some c → c ≠ b) ∧ ∀ p ∈ X.pn ++ pins, p.1 ≠ b
theorem Inv.fpOk {X : Cx} {pins : List (Addr × Obj)} {σ : St} {H H' : Hp} {s : Shared} {b : Addr} (I : Inv X pins σ H s) (hb : s.heap.objs.size ≤ b) (hn : H' b = none) : FpOk X pins H' b := by
 refine ⟨hn, Nat.ne_of_gt (Nat.lt_of_lt_of_le I.lt hb), I.nofs hb, .inr (Nat.le_trans I.sz hb), fun x c e z => ?_, fun p hp z => ?_⟩
 · obtain ⟨v, q⟩ := I.cell x c e
   exact absurd (Nat.lt_of_lt_of_le q.lt (by rw [z]; exact hb)) (Nat.lt_irrefl _)
 · exact absurd (Nat.lt_of_lt_of_le (Heap.lt_size (I.pin p hp).1) (by rw [z]; exact hb)) (Nat.lt_irrefl _)
structure Turn (P : Program) (w : World) (K : PySem.W.Frag) (tg : Expr) (J : It) (fp : List Addr) (it : Addr) (tn : Nat → Heap → Prop) : Prop where
 mem : it ∈ fp
 obj : ∀ i h, tn i h → ∀ b ∈ fp, ∃ o, h.get? b = some o ∧ ∀ v, o.data ≠ .cell v
 keep : ∀ i h h', tn i h → (∀ b ∈ fp, ∀ o, h.get? b = some o → h'.get? b = some o) → tn i h'
 item : ∀ (X : Cx), X.prog = P → X.w = w → X.K = K → X.calm = true → ∀ (i : Nat) (pins : List (Addr × Obj)) (s : Shared) (σ : St) (H : Hp) (E : Value → Shared → Prop), Inv X pins σ H s → (∀ b ∈ fp, FpOk X pins H b) → tn i s.heap → J.go i H →
   wpAny (model P w) X.A (pyNext (.ref it)) (fun r s1 => ∃ u, r = some u ∧
     wpAny (model P w) X.A (letOwnedTupleGo tg (.ref it) u) (fun _ s2 => ∃ x H', Inv X pins σ H' s2 ∧ RelV x u ∧ J.yld i H x H' ∧ tn (i + 1) s2.heap ∧ ∀ b ∈ fp, H' b = none) E s1) E s
 done : ∀ (X : Cx), X.prog = P → X.w = w → X.K = K → X.calm = true → ∀ (i : Nat) (pins : List (Addr × Obj)) (s : Shared) (σ : St) (H : Hp) (E : Value → Shared → Prop), Inv X pins σ H s → (∀ b ∈ fp, FpOk X pins H b) → tn i s.heap → J.stop i H →
   wpAny (model P w) X.A (pyNext (.ref it)) (fun r s1 => r = none ∧ Inv X pins σ H s1) E s
 self : ∀ (A : Around) (i : Nat) (s : Shared) (Q : Value → Shared → Prop) (E : Value → Shared → Prop), tn i s.heap → Q (.ref it) s → wpAny (model P w) A (pyIter (.ref it)) Q E s
abbrev TI := St → Hp → (It → Hp → Prop) → Prop
def PIE (X : Cx) (pins : List (Addr × Obj)) (σ : St) (tg : Expr) (R : It → Hp → Prop) (itv : Value) (s2 : Shared) : Prop :=
 ∃ (it : Addr) (fp : List Addr) (tn : Nat → Heap → Prop) (J : It) (H' : Hp), itv = .ref it ∧ Inv X pins σ H' s2 ∧ Turn X.prog X.w X.K tg J fp it tn ∧ tn 0 s2.heap ∧ (∀ b ∈ fp, FpOk X pins H' b) ∧ R J H'
def PI (X : Cx) (tg iter : Expr) (wi : TI) : Prop :=
 ∀ (pins : List (Addr × Obj)) (s : Shared) (σ : St) (H : Hp) (R : It → Hp → Prop), Inv X pins σ H s → wi σ H R →
   wpAny (model X.prog X.w) X.A (eval iter X.env) (fun v s1 => wpAny (model X.prog X.w) X.A (pyIter v) (PIE X pins σ tg R) X.xe s1) X.xe s
theorem go_of {M : Model} {A : Around} {E : Value → Shared → Prop} {s : Shared} {tg : Expr} {it : Addr} {u : Value} {o : Obj} {n : String} {vs : Array Value} {Q : Unit → Shared → Prop} (ho : s.heap.get? it = some o) (hc : o.cls = .type n) (hd : o.data = .fields vs)
   (hn : ["enumerate", "zip", "dict_itemiterator", "dict_reverseitemiterator", "odict_iterator", "itertools.zip_longest", "itertools.pairwise"].contains n = false) (hQ : Q () s) : wpAny M A (letOwnedTupleGo tg (.ref it) u) Q E s := by
 unfold letOwnedTupleGo
 cases tg <;> first
   | exact wpAny_pure hQ
   | (cases u <;> first
       | exact wpAny_pure hQ
       | (refine wpAny_bind (wpAny_load ho ?_)
          rw [hc, hd]
          show wpAny M A (if (["enumerate", "zip", "dict_itemiterator", "dict_reverseitemiterator", "odict_iterator", "itertools.zip_longest", "itertools.pairwise"].contains n && vs[0]? == some (rawInt _)) = true then _ else _) Q E s
          rw [if_neg (by intro h; rw [hn, Bool.false_and] at h; cases h)]
          exact wpAny_pure hQ))
def Itl (K : PySem.W.Frag) (a : Addr) : It :=
 ⟨fun i H => ∃ xs x, SqL K H a xs ∧ xs[i]? = some x, fun i H x H' => H' = H ∧ ∀ xs, SqL K H a xs → xs[i]? = some x, fun i H => ∃ xs, SqL K H a xs ∧ xs.length ≤ i⟩
def Itt (K : PySem.W.Frag) (a : Addr) : It :=
 ⟨fun i H => ∃ xs x, SqT K H a xs ∧ xs[i]? = some x, fun i H x H' => H' = H ∧ ∀ xs, SqT K H a xs → xs[i]? = some x, fun i H => ∃ xs, SqT K H a xs ∧ xs.length ≤ i⟩
def Itr (lo : Int) (n : Nat) : It := ⟨fun i _ => i < n, fun i H x H' => H' = H ∧ x = .int (lo + i), fun i _ => n ≤ i⟩
theorem turn_list {P : Program} {w : World} {K : PySem.W.Frag} {tg : Expr} (a it : Addr) : Turn P w K tg (Itl K a) [it] it (fun i h => h.IsListIter it a i) where
 mem := by simp
 obj := fun i h st b hb => by
   have e : b = it := by simpa using hb
   subst e
   obtain ⟨o, e, c, d⟩ := st
   exact ⟨o, e, fun v z => by rw [d] at z; cases z⟩
 keep := fun i h h' st k => st.at fun o e => k it (by simp) o e
 item := by
   intro X hP hw hK hc i pins s σ H E I hf st hg
   subst hP hw hK
   obtain ⟨xs, x, hq, hx⟩ := hg
   obtain ⟨its, rv, p, hz⟩ := I.list hq
   obtain ⟨u, hu, ru⟩ := rv.get hx
   obtain ⟨f0, f1, f2, f3, f4, f5⟩ := hf it (by simp)
   refine wpAny_pyNext_list_item st p.isList (x := u) (by simpa using hu) fun h' st' sb => ?_
   have I1 : Inv X pins σ H { s with heap := h' } := I.turned (t' := s.toks) (fun b o hb e => (sb.2 b hb).trans e) f0 f1 f3 f4 f5
   obtain ⟨o, e, c, d⟩ := id st'
   exact ⟨u, rfl, go_of (s := { s with heap := h' }) e c d (by decide) ⟨x, H, I1, ru, ⟨rfl, fun ys hy => by rw [I.list_inj hy hq]; exact hx⟩, st', fun b hb => (hf b hb).1⟩⟩
 done := by
   intro X hP hw hK hc i pins s σ H E I hf st hg
   subst hP hw hK
   obtain ⟨xs, hq, hx⟩ := hg
   obtain ⟨its, rv, p, hz⟩ := I.list hq
   obtain ⟨f0, f1, f2, f3, f4, f5⟩ := hf it (by simp)
   have hl := rv.length
   exact wpAny_pyNext_list_end (I.ok.hd hc) st p.isList (by simp; omega) fun h' eb => ⟨rfl, I.turned (t' := s.toks) (fun b o hb e => eb b o hb e) f0 f1 f3 f4 f5⟩
 self := fun _ _ _ _ _ st h => wpAny_pyIter_listiter st h
theorem turn_tuple {P : Program} {w : World} {K : PySem.W.Frag} {tg : Expr} (a it : Addr) : Turn P w K tg (Itt K a) [it] it (fun i h => h.IsTupleIter it a i) where
 mem := by simp
 obj := fun i h st b hb => by
   have e : b = it := by simpa using hb
   subst e
   obtain ⟨o, e, c, d⟩ := st
   exact ⟨o, e, fun v z => by rw [d] at z; cases z⟩
 keep := fun i h h' st k => st.at fun o e => k it (by simp) o e
 item := by
   intro X hP hw hK hc i pins s σ H E I hf st hg
   subst hP hw hK
   obtain ⟨xs, x, hq, hx⟩ := hg
   obtain ⟨its, rv, p, hz⟩ := I.tuple hq
   obtain ⟨u, hu, ru⟩ := rv.get hx
   obtain ⟨f0, f1, f2, f3, f4, f5⟩ := hf it (by simp)
   refine wpAny_pyNext_tuple_item st (show s.heap.IsTuple a its.toArray from p) (x := u) (by simpa using hu) fun h' st' sb => ?_
   have I1 : Inv X pins σ H { s with heap := h' } := I.turned (t' := s.toks) (fun b o hb e => (sb.2 b hb).trans e) f0 f1 f3 f4 f5
   obtain ⟨o, e, c, d⟩ := id st'
   exact ⟨u, rfl, go_of (s := { s with heap := h' }) e c d (by decide) ⟨x, H, I1, ru, ⟨rfl, fun ys hy => by rw [I.tuple_inj hy hq]; exact hx⟩, st', fun b hb => (hf b hb).1⟩⟩
 done := by
   intro X hP hw hK hc i pins s σ H E I hf st hg
   subst hP hw hK
   obtain ⟨xs, hq, hx⟩ := hg
   obtain ⟨its, rv, p, hz⟩ := I.tuple hq
   obtain ⟨f0, f1, f2, f3, f4, f5⟩ := hf it (by simp)
   have hl := rv.length
   exact wpAny_pyNext_tuple_end (I.ok.hd hc) st (show s.heap.IsTuple a its.toArray from p) (by simp; omega) fun h' eb => ⟨rfl, I.turned (t' := s.toks) (fun b o hb e => eb b o hb e) f0 f1 f3 f4 f5⟩
 self := fun _ _ _ _ _ st h => wpAny_pyIter_tupleiter st h
theorem turn_range {P : Program} {w : World} {K : PySem.W.Frag} {tg : Expr} (it : Addr) (lo : Int) (n : Nat) : Turn P w K tg (Itr lo n) [it] it (fun i h => IsRangeIter h it (lo + (i : Nat) * 1) ((n : Int) - (i : Nat)) 1) where
 mem := by simp
 obj := fun i h st b hb => by
   have e : b = it := by simpa using hb
   subst e
   exact ⟨_, st, fun v z => by
     have z' : Data.fields _ = Data.cell v := z
     cases z'⟩
 keep := fun i h h' st k => k it (by simp) _ st
 item := by
   intro X hP hw hK hc i pins s σ H E I hf st hg
   subst hP hw hK
   obtain ⟨f0, f1, f2, f3, f4, f5⟩ := hf it (by simp)
   have W := Walks.range (prog := X.prog) (w := X.w) (I.ok.hd hc) it lo 1 n
   refine W.item i s _ _ hg st fun v h' tk hv st' kk => ?_
   obtain ⟨t, rfl⟩ := hv
   have I1 : Inv X pins σ H { s with heap := h', toks := tk } := I.turned (fun b o hb e => kk b o (by simpa using hb) e) f0 f1 f3 f4 f5
   refine ⟨_, rfl, go_of (s := { s with heap := h', toks := tk }) (n := "range_iterator") st' rfl rfl (by decide) ⟨.int (lo + i), H, I1, ⟨t, ?_⟩, ⟨rfl, rfl⟩, st', fun b hb => (hf b hb).1⟩⟩
   rw [Int.mul_one]
 done := by
   intro X hP hw hK hc i pins s σ H E I hf st hg
   subst hP hw hK
   obtain ⟨f0, f1, f2, f3, f4, f5⟩ := hf it (by simp)
   exact wpAny_pyNext_range_end (I.ok.hd hc) st (by have : n ≤ i := hg; omega) fun h' eb => ⟨rfl, I.turned (t' := s.toks) (fun b o hb e => eb b o hb e) f0 f1 f3 f4 f5⟩
 self := fun _ _ _ _ _ st h => wpAny_pyIter_rangeiter st h
end L2
namespace L2
open PySem PySem.Spec PyProof.Rows
section
variable {X : Cx} {tg : Expr}
theorem range_it {pins : List (Addr × Obj)} {σ : St} {H : Hp} {s : Shared} {R : It → Hp → Prop} {E : Value → Shared → Prop} {lo hi : Int} {t u v : Tok} {tk : Nat} (I : Inv X pins σ H s) (h1 : -(2 ^ 62) ≤ lo) (h2 : lo < 2 ^ 62) (h3 : -(2 ^ 62) ≤ hi) (h4 : hi < 2 ^ 62)
   (q : R (Itr lo (hi - lo).toNat) H) : wpAny (model X.prog X.w) X.A (pyIter (.ref s.heap.objs.size)) (PIE X pins σ tg R) E { s with heap := s.heap.push { cls := .type "range", data := .fields #[.int lo t, .int hi u, .int 1 v] }, toks := tk } := by
 refine wpAny_pyIter_range (IsRange.new ..) (small_one h1 h2 h3 h4) ?_
 have I1 : Inv X pins σ H { s with heap := s.heap.push { cls := .type "range", data := .fields #[.int lo t, .int hi u, .int 1 v] }, toks := tk } := I.kept fun b o e => Heap.get?_push_of_some _ e
 refine ⟨(s.heap.push { cls := .type "range", data := .fields #[.int lo t, .int hi u, .int 1 v] }).objs.size, [(s.heap.push { cls := .type "range", data := .fields #[.int lo t, .int hi u, .int 1 v] }).objs.size], _, _, H, rfl,
   I1.kept (t' := tk) fun b o e => Heap.get?_push_of_some _ e, turn_range _ lo (hi - lo).toNat, ?_, fun b hb => ?_, q⟩
 · have e1 : lo + ((0 : Nat) : Int) * 1 = lo := by simp
   have e2 : (((hi - lo).toNat : Nat) : Int) - ((0 : Nat) : Int) = Builtin.Range.rangeSize lo hi 1 := by rw [rangeSize_one]; split <;> omega
   show IsRangeIter _ _ (lo + ((0 : Nat) : Int) * 1) ((((hi - lo).toNat : Nat) : Int) - ((0 : Nat) : Int)) 1
   rw [e1, e2]
   exact Heap.get?_push_size _ rfl
 · have e : b = (s.heap.push { cls := .type "range", data := .fields #[.int lo t, .int hi u, .int 1 v] }).objs.size := by simpa using hb
   subst e
   exact I1.fpOk (Nat.le_refl _) (I1.hok.fresh (Nat.le_refl _))
def iRng1 (ta : TA) : TI := fun σ H R => ta σ H fun vs H1 => ∃ j : Int, vs = [.int j] ∧ -(2 ^ 62) ≤ j ∧ j < 2 ^ 62 ∧ R (Itr 0 j.toNat) H1
def iRng2 (ta : TA) : TI := fun σ H R => ta σ H fun vs H1 => ∃ i j : Int, vs = [.int i, .int j] ∧ (-(2 ^ 62) ≤ i ∧ i < 2 ^ 62 ∧ -(2 ^ 62) ≤ j ∧ j < 2 ^ 62) ∧ R (Itr i (j - i).toNat) H1
theorem pi_range1 {a : Expr} {ta : TA} {p pos : Pos} (hg : Gl X "range") (hm : X.mg "range" = none) (ha : PA X [a] ta) (hs : starEach [a] X.env = [(false, eval a X.env)] := by rfl) : PI X tg (.Call (.Name "range" p) [a] [] pos) (iRng1 ta) := by
 intro pins s σ H R I h
 refine Call_ (ld_blt I hg hm boot_range (PyProof.Rows.callWith_type1 (thn (ha pos pins s σ H _ I h) fun us s1 ⟨vs, H1, I1, r1, q1⟩ => ?_) hs rfl))
 obtain ⟨j, e, q1, q2, q⟩ := q1
 subst e
 cases r1 with
 | cons r rr =>
   cases rr
   obtain ⟨t, rfl⟩ := r
   exact call_range_1 (range_it I1 (by omega) (by omega) q1 q2 (by simpa using q))
theorem pi_range2 {a b : Expr} {ta : TA} {p pos : Pos} (hg : Gl X "range") (hm : X.mg "range" = none) (ha : PA X [a, b] ta) (hs : starEach [a, b] X.env = [(false, eval a X.env), (false, eval b X.env)] := by rfl) (hs2 : starEach [b] X.env = [(false, eval b X.env)] := by rfl) :
   PI X tg (.Call (.Name "range" p) [a, b] [] pos) (iRng2 ta) := by
 intro pins s σ H R I h
 refine Call_ (ld_blt I hg hm boot_range (PyProof.Rows.callWith_type1 (thn (ha pos pins s σ H _ I h) fun us s1 ⟨vs, H1, I1, r1, q1⟩ => ?_) (by rw [hs, hs2]) (by rw [hs2]; rfl)))
 obtain ⟨i, j, e, ⟨q1, q2, q3, q4⟩, q⟩ := q1
 subst e
 cases r1 with
 | cons r rr =>
   cases rr with
   | cons r' rr =>
     cases rr
     obtain ⟨t, rfl⟩ := r
     obtain ⟨t', rfl⟩ := r'
     exact call_range_2 (range_it I1 q1 q2 q3 q4 q)
def tFor (wi : TI) (g : TG) (tb : TS) : TS := fun D σ H => wi σ H fun J H1 => ∃ W : Nat → Nat → St → Hp → Prop, (∃ m, W 0 m σ H1) ∧ ∀ i m σ H, W i m σ H →
 (J.stop i H ∧ D.nx σ H) ∨ (J.go i H ∧ ∃ N : St → Hp → Prop, (∀ σ' H', N σ' H' → ∃ m', m' < m ∧ W (i + 1) m' σ' H') ∧ ∀ x H', J.yld i H x H' → g x σ H' fun σ2 H2 => tb { D with nx := N, ct := N, bk := D.nx } σ2 H2)
def pinsAt (fp : List Addr) (h : Heap) : List (Addr × Obj) := fp.filterMap fun b => (h.get? b).map fun o => (b, o)
theorem mem_pinsAt {fp : List Addr} {h : Heap} {b : Addr} {o : Obj} (hb : b ∈ fp) (e : h.get? b = some o) : (b, o) ∈ pinsAt fp h := List.mem_filterMap.mpr ⟨b, hb, by rw [e]; rfl⟩
theorem of_pinsAt {fp : List Addr} {h : Heap} {p : Addr × Obj} (hp : p ∈ pinsAt fp h) : p.1 ∈ fp ∧ h.get? p.1 = some p.2 := by
 obtain ⟨b, hb, e⟩ := List.mem_filterMap.mp hp
 cases q : h.get? b with
 | none => rw [q] at e; cases e
 | some o =>
   rw [q] at e
   have e' : (b, o) = p := Option.some.inj e
   subst e'
   exact ⟨hb, q⟩
theorem Inv.pinned {pins : List (Addr × Obj)} {σ : St} {H : Hp} {s : Shared} {fp : List Addr} (I : Inv X pins σ H s) (hf : ∀ b ∈ fp, FpOk X pins H b) (ho : ∀ b ∈ fp, ∃ o, s.heap.get? b = some o ∧ ∀ v, o.data ≠ .cell v) : Inv X (pins ++ pinsAt fp s.heap) σ H s :=
 I.pins_of fun p hp => (List.mem_append.mp hp).elim (fun z => I.pin p (List.mem_append_right _ z)) fun z => by
   obtain ⟨hb, e⟩ := of_pinsAt z
   obtain ⟨f0, f1, f2, _⟩ := hf p.1 hb
   obtain ⟨o, e', d⟩ := ho p.1 hb
   rw [e] at e'; cases e'
   exact ⟨e, f0, f1, f2, d⟩
theorem Inv.unpinned {pins pl : List (Addr × Obj)} {σ : St} {H : Hp} {s : Shared} (I : Inv X (pins ++ pl) σ H s) : Inv X pins σ H s := I.pins_of fun p hp => I.pin p (List.mem_append_right _ (List.mem_append_left _ hp))
theorem ps_for {iter : Expr} {body : List Stmt} {wi : TI} {g : TG} {tb : TS} {pos : Pos} (hp : PassesOwn (model X.prog X.w) X.A X.env X.xe) (hc : X.calm = true) (hi : PI X tg iter wi) (hg : PG X tg g) (hb : PSs X body tb)
   (hs : ∀ x, foldedSetIterable iter X.env x = pure x := by intro _; rfl) : PS X (.For tg iter body [] pos) (tFor wi g tb) := by
 intro pins s σ H D I h
 refine wpAny_For (thn (hi pins s σ H _ I h) fun v s1 h1 => thn h1 fun itv s2 h2 => ?_) hs
 obtain ⟨it, fp, tn, J, H2, e, I2, T, st2, f2, W, ⟨m0, w0⟩, turn⟩ := h2
 subst e
 -- what stays true of the iterator's objects through the loop
 have stat : ∀ {H' : Hp}, (∀ b ∈ fp, H' b = none) → ∀ b ∈ fp, FpOk X pins H' b := fun hn b hb => ⟨hn b hb, (f2 b hb).2⟩
 refine codeAny_forLoop_any (fun n s' => ∃ i σ' H', Inv X pins σ' H' s' ∧ tn i s'.heap ∧ (∀ b ∈ fp, H' b = none) ∧ W i n σ' H') ?_ m0 ⟨0, σ, H2, I2, st2, fun b hb => (f2 b hb).1, w0⟩
 rintro n s3 ⟨i, σ3, H3, I3, st3, fr3, w3⟩
 rcases turn i n σ3 H3 w3 with ⟨stop, qn⟩ | ⟨go, N, hN, step⟩
 · refine wpAny_passesOwn hp (thn (T.done X rfl rfl rfl hc i pins s3 σ3 H3 X.xe I3 (stat fr3) st3 stop) fun r s4 ⟨hr, I4⟩ => ?_)
   subst hr
   exact wpAny_execs_nil ⟨σ3, H3, I4, qn⟩
 · refine wpAny_passesOwn hp (thn (T.item X rfl rfl rfl hc i pins s3 σ3 H3 X.xe I3 (stat fr3) st3 go) fun r s4 ⟨u, hr, h4⟩ => ?_)
   subst hr
   refine wpAny_passesOwn hp (thn h4 fun _ s5 ⟨x, H5, I5, r5, y5, st5, fr5⟩ => ?_)
   have I5' := I5.pinned (stat fr5) (T.obj _ _ st5)
   refine wpAny_passesOwn hp (thn (hg _ s5 σ3 H5 x u _ I5' r5 (step x H5 y5)) fun _ s6 ⟨σ6, H6, I6, q6⟩ => ?_)
   refine wpAny_passesOwn hp (thn (hb _ s6 σ6 H6 _ I6 q6) fun f s7 q7 => ?_)
   have again : ∀ {σ7 : St} {H7 : Hp}, Inv X (pins ++ pinsAt fp s5.heap) σ7 H7 s7 → N σ7 H7 → ∃ m, m < n ∧ ∃ i σ' H', Inv X pins σ' H' s7 ∧ tn i s7.heap ∧ (∀ b ∈ fp, H' b = none) ∧ W i m σ' H' := fun {σ7 H7} I7 n7 => by
     obtain ⟨m', hm, w7⟩ := hN σ7 H7 n7
     refine ⟨m', hm, i + 1, σ7, H7, I7.unpinned, T.keep _ _ _ st5 fun b hb o e => (I7.pin (b, o) (List.mem_append_right _ (List.mem_append_right _ (mem_pinsAt hb e)))).1, fun b hb => ?_, w7⟩
     obtain ⟨o, e, d⟩ := T.obj _ _ st5 b hb
     exact (I7.pin (b, o) (List.mem_append_right _ (List.mem_append_right _ (mem_pinsAt hb e)))).2.1
   cases f with
   | next => obtain ⟨σ7, H7, I7, n7⟩ := q7; exact again I7 n7
   | cont => obtain ⟨σ7, H7, I7, n7⟩ := q7; exact again I7 n7
   | brk => obtain ⟨σ7, H7, I7, q7⟩ := q7; exact ⟨σ7, H7, I7.unpinned, q7⟩
   | ret v => obtain ⟨x7, σ7, H7, I7, r7, q7⟩ := q7; exact ⟨x7, σ7, H7, I7.unpinned, r7, q7⟩
end
theorem for_list {K : PySem.W.Frag} {a : Addr} {xs : List V} {g : TG} {tb : TS} {D : Ends} {σ : St} {H : Hp} (Pv : Nat → St → Hp → Prop) (h0 : Pv 0 σ H) (hl : ∀ i σ H, i ≤ xs.length → Pv i σ H → SqL K H a xs)
   (hs : ∀ i x σ H, xs[i]? = some x → Pv i σ H → g x σ H fun σ2 H2 => tb { D with nx := Pv (i + 1), ct := Pv (i + 1), bk := D.nx } σ2 H2) (hd : ∀ σ H, Pv xs.length σ H → D.nx σ H) :
   ∃ W : Nat → Nat → St → Hp → Prop, (∃ m, W 0 m σ H) ∧ ∀ i m σ H, W i m σ H →
     ((Itl K a).stop i H ∧ D.nx σ H) ∨ ((Itl K a).go i H ∧ ∃ N : St → Hp → Prop, (∀ σ' H', N σ' H' → ∃ m', m' < m ∧ W (i + 1) m' σ' H') ∧ ∀ x H', (Itl K a).yld i H x H' → g x σ H' fun σ2 H2 => tb { D with nx := N, ct := N, bk := D.nx } σ2 H2) := by
 refine ⟨fun i m σ H => m = xs.length - i ∧ i ≤ xs.length ∧ Pv i σ H, ⟨xs.length, by simp, Nat.zero_le _, h0⟩, ?_⟩
 rintro i m σ H ⟨rfl, hi, p⟩
 have q := hl i σ H hi p
 by_cases hlt : i < xs.length
 · refine .inr ⟨⟨xs, xs[i], q, by simp [hlt]⟩, Pv (i + 1), fun σ' H' p' => ⟨xs.length - (i + 1), by omega, rfl, hlt, p'⟩, fun x H' y => ?_⟩
   obtain ⟨e, y⟩ := y
   subst e
   exact hs i x σ _ (y xs q) p
 · have e : i = xs.length := by omega
   subst e
   exact .inl ⟨⟨xs, q, Nat.le_refl _⟩, hd σ H p⟩
theorem for_range {lo : Int} {n : Nat} {g : TG} {tb : TS} {D : Ends} {σ : St} {H : Hp} (Pv : Nat → St → Hp → Prop) (h0 : Pv 0 σ H)
   (hs : ∀ i σ H, i < n → Pv i σ H → g (.int (lo + i)) σ H fun σ2 H2 => tb { D with nx := Pv (i + 1), ct := Pv (i + 1), bk := D.nx } σ2 H2) (hd : ∀ σ H, Pv n σ H → D.nx σ H) :
   ∃ W : Nat → Nat → St → Hp → Prop, (∃ m, W 0 m σ H) ∧ ∀ i m σ H, W i m σ H →
     ((Itr lo n).stop i H ∧ D.nx σ H) ∨ ((Itr lo n).go i H ∧ ∃ N : St → Hp → Prop, (∀ σ' H', N σ' H' → ∃ m', m' < m ∧ W (i + 1) m' σ' H') ∧ ∀ x H', (Itr lo n).yld i H x H' → g x σ H' fun σ2 H2 => tb { D with nx := N, ct := N, bk := D.nx } σ2 H2) := by
 refine ⟨fun i m σ H => m = n - i ∧ i ≤ n ∧ Pv i σ H, ⟨n, by simp, Nat.zero_le _, h0⟩, ?_⟩
 rintro i m σ H ⟨rfl, hi, p⟩
 by_cases hlt : i < n
 · refine .inr ⟨hlt, Pv (i + 1), fun σ' H' p' => ⟨n - (i + 1), by omega, rfl, hlt, p'⟩, fun x H' y => ?_⟩
   obtain ⟨e, y⟩ := y
   subst e y
   exact hs i σ _ hlt p
 · have e : i = n := by omega
   subst e
   exact .inl ⟨Nat.le_refl _, hd σ H p⟩
end L2
namespace L2
open PySem PySem.Spec PyProof.Rows
abbrev R2 := V → V → Hp → VK → Prop
def OpR (X : Cx) (f : Value → Value → Sem Value) (r : R2) : Prop :=
 ∀ (pins : List (Addr × Obj)) (s : Shared) (σ : St) (H : Hp) (x y : V) (v u : Value) (Q : VK), Inv X pins σ H s → RelV x v → RelV y u → r x y H Q →
   wpAny (model X.prog X.w) X.A (f v u) (EP X pins σ Q) X.xe s
def UnR (X : Cx) (f : Value → Sem Value) (r : V → Hp → VK → Prop) : Prop :=
 ∀ (pins : List (Addr × Obj)) (s : Shared) (σ : St) (H : Hp) (x : V) (v : Value) (Q : VK), Inv X pins σ H s → RelV x v → r x H Q →
   wpAny (model X.prog X.w) X.A (f v) (EP X pins σ Q) X.xe s
def CallR (X : Cx) (f : Value) (r : List V → Hp → VK → Prop) : Prop :=
 ∀ (pins : List (Addr × Obj)) (s : Shared) (σ : St) (H : Hp) (xs : List V) (us : List Value) (Q : VK), Inv X pins σ H s → Vals xs us → r xs H Q →
   wpAny (model X.prog X.w) X.A (call f us) (EP X pins σ Q) X.xe s
def TruR (X : Cx) (r : V → Hp → (Bool → Hp → Prop) → Prop) : Prop :=
 ∀ (pins : List (Addr × Obj)) (s : Shared) (σ : St) (H : Hp) (x : V) (v : Value) (Q : Bool → Hp → Prop), Inv X pins σ H s → RelV x v → r x H Q →
   wpAny (model X.prog X.w) X.A (truthy v) (TP X pins σ Q) X.xe s
def tOp (r : R2) (ta tb : TE) : TE := fun σ H Q => ta σ H fun x H1 => tb σ H1 fun y H2 => r x y H2 Q
def tUn (r : V → Hp → VK → Prop) (ta : TE) : TE := fun σ H Q => ta σ H fun x H1 => r x H1 Q
def rI (C : Int → Int → Prop) (g : Int → Int → V) : R2 := fun x y H Q => ∃ i j, x = .int i ∧ y = .int j ∧ C i j ∧ Q (g i j) H
def rI0 (g : Int → Int → V) : R2 := fun x y H Q => ∃ i j, x = .int i ∧ y = .int j ∧ Q (g i j) H
def rU (g : Int → V) : V → Hp → VK → Prop := fun x H Q => ∃ i, x = .int i ∧ Q (g i) H
section
variable {X : Cx} {a b c : Expr} {ta tb tc : TE} {pos : Pos}
theorem binT (ha : PE X a ta) (hb : PE X b tb) {pins : List (Addr × Obj)} {s : Shared} {σ : St} {H : Hp} {R : V → V → Hp → Prop} (I : Inv X pins σ H s)
   (h : ta σ H fun x H1 => tb σ H1 fun y H2 => R x y H2) {Q : Value → Shared → Prop} {f : Value → Value → Sem Value}
   (hf : ∀ v u s2 x y H2, Inv X pins σ H2 s2 → RelV x v → RelV y u → R x y H2 → wpAny (model X.prog X.w) X.A (f v u) Q X.xe s2) :
   wpAny (model X.prog X.w) X.A (eval a X.env) (fun v s₁ => wpAny (model X.prog X.w) X.A (eval b X.env) (fun u s₂ => wpAny (model X.prog X.w) X.A (f v u) Q X.xe s₂) X.xe s₁) X.xe s := by
 refine thn (ha pins s σ H _ I h) fun v s1 ⟨x, H1, I1, r1, q1⟩ => ?_
 refine thn (hb pins s1 σ H1 _ I1 q1) fun u s2 ⟨y, H2, I2, r2, q2⟩ => ?_
 exact hf v u s2 x y H2 I2 r1 r2 q2
theorem pe_op {op : Operator} {r : R2} (ho : OpR X (binaryOp op) r) (ha : PE X a ta) (hb : PE X b tb) : PE X (.BinOp a op b pos) (tOp r ta tb) := by
 intro pins s σ H Q I h
 exact wpAny_BinOp (binT ha hb I h fun v u s2 x y H2 I2 rx ry q => ho pins s2 σ H2 x y v u Q I2 rx ry q)
theorem pe_un {op : UnaryOp} {r : V → Hp → VK → Prop} (ho : UnR X (unaryOp op) r) (ha : PE X a ta) : PE X (.UnaryOp op a pos) (tUn r ta) := by
 intro pins s σ H Q I h
 exact UnaryOp_ (thn (ha pins s σ H _ I h) fun v s1 ⟨x, H1, I1, r1, q1⟩ => ho pins s1 σ H1 x v Q I1 r1 q1)
theorem opI {f : Value → Value → Sem Value} {C : Int → Int → Prop} {g : Int → Int → Int}
   (rule : ∀ (i j : Int) (t u : Tok) (s : Shared) (Q : Value → Shared → Prop) (E : Value → Shared → Prop), C i j → Q (.int (g i j) s.toks) { s with toks := s.toks + 1 } → wpAny (model X.prog X.w) X.A (f (.int i t) (.int j u)) Q E s) :
   OpR X f (rI C fun i j => .int (g i j)) := by
 intro pins s σ H x y v u Q I rx ry h
 obtain ⟨i, j, rfl, rfl, hc, q⟩ := h
 obtain ⟨t, rfl⟩ := rx
 obtain ⟨t', rfl⟩ := ry
 exact rule i j t t' s _ _ hc ⟨.int (g i j), H, I.tok _, ⟨_, rfl⟩, q⟩
theorem opI0 {f : Value → Value → Sem Value} {g : Int → Int → Int}
   (rule : ∀ (i j : Int) (t u : Tok) (s : Shared) (Q : Value → Shared → Prop) (E : Value → Shared → Prop), Q (.int (g i j) s.toks) { s with toks := s.toks + 1 } → wpAny (model X.prog X.w) X.A (f (.int i t) (.int j u)) Q E s) :
   OpR X f (rI0 fun i j => .int (g i j)) := by
 intro pins s σ H x y v u Q I rx ry h
 obtain ⟨i, j, rfl, rfl, q⟩ := h
 obtain ⟨t, rfl⟩ := rx
 obtain ⟨t', rfl⟩ := ry
 exact rule i j t t' s _ _ ⟨.int (g i j), H, I.tok _, ⟨_, rfl⟩, q⟩
theorem opB0 {f : Value → Value → Sem Value} {g : Int → Int → Bool}
   (rule : ∀ (i j : Int) (t u : Tok) (s : Shared) (Q : Value → Shared → Prop) (E : Value → Shared → Prop), Q (.bool (g i j)) s → wpAny (model X.prog X.w) X.A (f (.int i t) (.int j u)) Q E s) :
   OpR X f (rI0 fun i j => .bl (g i j)) := by
 intro pins s σ H x y v u Q I rx ry h
 obtain ⟨i, j, rfl, rfl, q⟩ := h
 obtain ⟨t, rfl⟩ := rx
 obtain ⟨t', rfl⟩ := ry
 exact rule i j t t' s _ _ ⟨.bl (g i j), H, I, rfl, q⟩
def CDiv (i j : Int) : Prop := 0 < j ∧ j < 1073741824
def CPow (i j : Int) : Prop := 0 ≤ j ∧ j ≤ 1000000 ∧ i.natAbs < 2 ^ 64
def CMul (i j : Int) : Prop := (-(2 ^ 64) < i ∧ i < 2 ^ 64) ∨ (-(2 ^ 64) < j ∧ j < 2 ^ 64)
theorem CMul.ok {i j : Int} (h : CMul i j) : IntMulOk i j := by
 rcases h with ⟨h1, h2⟩ | ⟨h1, h2⟩
 · exact .of_left (intBits_le_64 h1 h2)
 · exact .of_right (intBits_le_64 h1 h2)
theorem op_add : OpR X (binaryOp .Add) (rI0 fun i j => .int (i + j)) := opI0 fun _ _ _ _ _ _ _ q => add_int q
theorem op_sub : OpR X (binaryOp .Sub) (rI0 fun i j => .int (i - j)) := opI0 fun _ _ _ _ _ _ _ q => sub_int q
theorem op_mul : OpR X (binaryOp .Mult) (rI CMul fun i j => .int (i * j)) := opI fun _ _ _ _ _ _ _ hc q => mul_int q hc.ok
theorem op_fdiv : OpR X (binaryOp .FloorDiv) (rI CDiv fun i j => .int (i / j)) := opI fun i j _ _ _ _ _ hc q => by
 have h1 : (0 : Int) < j := hc.1
 have h2 : j < 1073741824 := hc.2
 exact floordiv_int (by omega) (by rw [Int.fdiv_eq_ediv_of_nonneg i (by omega)]; exact q) (.inl (PyProof.noPylong_small (by omega)))
theorem op_mod : OpR X (binaryOp .Mod) (rI (fun _ j => 0 < j) fun i j => .int (i % j)) := opI fun i j _ _ _ _ _ hc q => by
 have h1 : (0 : Int) < j := hc
 exact mod_int' (by omega) (by rw [Int.fmod_eq_emod_of_nonneg i (by omega)]; exact q)
theorem op_pow : OpR X (binaryOp .Pow) (rI CPow fun i j => .int (i ^ j.toNat)) := opI fun _ _ _ _ _ _ _ hc q => pow_int_small hc.1 hc.2.1 hc.2.2 q
theorem unI {f : Value → Sem Value} {g : Int → Int}
   (rule : ∀ (i : Int) (t : Tok) (s : Shared) (Q : Value → Shared → Prop) (E : Value → Shared → Prop), Q (.int (g i) s.toks) { s with toks := s.toks + 1 } → wpAny (model X.prog X.w) X.A (f (.int i t)) Q E s) :
   UnR X f (rU fun i => .int (g i)) := by
 intro pins s σ H x v Q I rx h
 obtain ⟨i, rfl, q⟩ := h
 obtain ⟨t, rfl⟩ := rx
 exact rule i t s _ _ ⟨.int (g i), H, I.tok _, ⟨_, rfl⟩, q⟩
theorem un_neg : UnR X (unaryOp .USub) (rU fun i => .int (-i)) := unI fun _ _ _ _ _ q => neg_int q
end
def scal : V → V → Bool
 | .non, .non => true | .non, .int _ => true | .int _, .non => true | .non, .bl _ => true | .bl _, .non => true | .non, .str _ => true | .str _, .non => true
 | .int _, .int _ => true | .bl _, .bl _ => true | .str _, .str _ => true | .byt _, .byt _ => true
 | .int _, .str _ => true | .str _, .int _ => true | .bl _, .str _ => true | .str _, .bl _ => true
 | _, _ => false
def rEq : R2 := fun x y H Q => scal x y = true ∧ Q (.bl (decide (x = y))) H
def rNe : R2 := fun x y H Q => scal x y = true ∧ Q (.bl (!decide (x = y))) H
theorem dec_int {i j : Int} : decide (V.int i = V.int j) = (i == j) := by
 rw [Bool.eq_iff_iff]
 simp
theorem dec_bl {i j : Bool} : decide (V.bl i = V.bl j) = (i == j) := by
 rw [Bool.eq_iff_iff]
 simp
theorem dec_str {i j : Str} : decide (V.str i = V.str j) = (i == j) := by
 rw [Bool.eq_iff_iff]
 simp
theorem dec_byt {i j : Array UInt8} : decide (V.byt i = V.byt j) = (i.toList == j.toList) := by
 rw [Bool.eq_iff_iff]
 cases i
 cases j
 simp
section
variable {X : Cx} {a b c : Expr} {ta tb tc : TE} {pos : Pos}
theorem fin_bl {pins : List (Addr × Obj)} {σ : St} {H : Hp} {s : Shared} {Q : VK} {k k' : Bool} (I : Inv X pins σ H s) (q : Q (.bl k) H) (e : k = k') : EP X pins σ Q (.bool k') s := by
 subst e
 exact ⟨.bl k, H, I, rfl, q⟩
theorem op_eq : OpR X (compareOp .Eq) rEq := by
 intro pins s σ H x y v u Q I rx ry h
 obtain ⟨hs, q⟩ := h
 cases x with
 | non =>
   cases rx
   cases y with
   | non => cases ry; exact PySem.EqNone.eq_none_none (fin_bl I q (by simp))
   | bl j => cases ry; exact PySem.EqNone.eq_none_bool (fin_bl I q (by simp))
   | int j => obtain ⟨t', rfl⟩ := ry; exact PySem.EqNone.eq_none_int (fin_bl I q (by simp))
   | str j => obtain ⟨t', rfl⟩ := ry; exact PySem.EqNone.eq_none_str (fin_bl I q (by simp))
   | _ => exact absurd (show false = true from hs) Bool.false_ne_true
 | bl i =>
   cases rx
   cases y with
   | non => cases ry; exact PySem.EqNone.eq_bool_none (fin_bl I q (by simp))
   | bl j => cases ry; exact eq_bool (fin_bl I q dec_bl)
   | str j => obtain ⟨t', rfl⟩ := ry; exact PySem.EqMixed.eq_bool_str (fin_bl I q (by simp))
   | _ => exact absurd (show false = true from hs) Bool.false_ne_true
 | int i =>
   obtain ⟨t, rfl⟩ := rx
   cases y with
   | non => cases ry; exact PySem.EqNone.eq_int_none (fin_bl I q (by simp))
   | int j => obtain ⟨t', rfl⟩ := ry; exact eq_int (fin_bl I q dec_int)
   | str j => obtain ⟨t', rfl⟩ := ry; exact PySem.EqMixed.eq_int_str (fin_bl I q (by simp))
   | _ => exact absurd (show false = true from hs) Bool.false_ne_true
 | str i =>
   obtain ⟨t, rfl⟩ := rx
   cases y with
   | non => cases ry; exact PySem.EqNone.eq_str_none (fin_bl I q (by simp))
   | bl j => cases ry; exact PySem.EqMixed.eq_str_bool (fin_bl I q (by simp))
   | int j => obtain ⟨t', rfl⟩ := ry; exact PySem.EqMixed.eq_str_int (fin_bl I q (by simp))
   | str j => obtain ⟨t', rfl⟩ := ry; exact eq_str (fin_bl I q dec_str)
   | _ => exact absurd (show false = true from hs) Bool.false_ne_true
 | byt i =>
   obtain ⟨t, rfl⟩ := rx
   cases y with
   | byt j => obtain ⟨t', rfl⟩ := ry; exact PySem.W.eq_bytes (fin_bl I q dec_byt)
   | _ => exact absurd (show false = true from hs) Bool.false_ne_true
 | _ => cases y <;> exact absurd (show false = true from hs) Bool.false_ne_true
theorem op_ne : OpR X (compareOp .NotEq) rNe := by
 intro pins s σ H x y v u Q I rx ry h
 obtain ⟨hs, q⟩ := h
 cases x with
 | non =>
   cases rx
   cases y with
   | non => cases ry; exact PySem.EqNone.ne_none_none (fin_bl I q (by simp))
   | bl j => cases ry; exact PySem.EqNone.ne_none_bool (fin_bl I q (by simp))
   | int j => obtain ⟨t', rfl⟩ := ry; exact PySem.EqNone.ne_none_int (fin_bl I q (by simp))
   | str j => obtain ⟨t', rfl⟩ := ry; exact PySem.EqNone.ne_none_str (fin_bl I q (by simp))
   | _ => exact absurd (show false = true from hs) Bool.false_ne_true
 | bl i =>
   cases rx
   cases y with
   | non => cases ry; exact PySem.EqNone.ne_bool_none (fin_bl I q (by simp))
   | bl j => cases ry; exact ne_bool (fin_bl I q (congrArg not dec_bl))
   | str j => obtain ⟨t', rfl⟩ := ry; exact PySem.EqMixed.ne_bool_str (fin_bl I q (by simp))
   | _ => exact absurd (show false = true from hs) Bool.false_ne_true
 | int i =>
   obtain ⟨t, rfl⟩ := rx
   cases y with
   | non => cases ry; exact PySem.EqNone.ne_int_none (fin_bl I q (by simp))
   | int j => obtain ⟨t', rfl⟩ := ry; exact ne_int (fin_bl I q (congrArg not dec_int))
   | str j => obtain ⟨t', rfl⟩ := ry; exact PySem.EqMixed.ne_int_str (fin_bl I q (by simp))
   | _ => exact absurd (show false = true from hs) Bool.false_ne_true
 | str i =>
   obtain ⟨t, rfl⟩ := rx
   cases y with
   | non => cases ry; exact PySem.EqNone.ne_str_none (fin_bl I q (by simp))
   | bl j => cases ry; exact PySem.EqMixed.ne_str_bool (fin_bl I q (by simp))
   | int j => obtain ⟨t', rfl⟩ := ry; exact PySem.EqMixed.ne_str_int (fin_bl I q (by simp))
   | str j => obtain ⟨t', rfl⟩ := ry; exact ne_str (fin_bl I q (congrArg not dec_str))
   | _ => exact absurd (show false = true from hs) Bool.false_ne_true
 | byt i =>
   obtain ⟨t, rfl⟩ := rx
   cases y with
   | byt j => obtain ⟨t', rfl⟩ := ry; exact PySem.W.ne_bytes (fin_bl I q (congrArg not dec_byt))
   | _ => exact absurd (show false = true from hs) Bool.false_ne_true
 | _ => cases y <;> exact absurd (show false = true from hs) Bool.false_ne_true
theorem op_lt : OpR X (compareOp .Lt) (rI0 fun i j => .bl (decide (i < j))) := opB0 fun _ _ _ _ _ _ _ q => lt_int q
theorem op_le : OpR X (compareOp .LtE) (rI0 fun i j => .bl (decide (i ≤ j))) := opB0 fun _ _ _ _ _ _ _ q => le_int q
theorem op_gt : OpR X (compareOp .Gt) (rI0 fun i j => .bl (decide (j < i))) := opB0 fun _ _ _ _ _ _ _ q => gt_int q
theorem op_ge : OpR X (compareOp .GtE) (rI0 fun i j => .bl (decide (j ≤ i))) := opB0 fun _ _ _ _ _ _ _ q => ge_int q
theorem op_in_str : OpR X (compareOp .In) (fun x y H Q => ∃ i j, x = .str i ∧ y = .str j ∧ Q (.bl (!(Builtin.Str.occurrences j i 0 j.length 1).isEmpty)) H) := by
 intro pins s σ H x y v u Q I rx ry h
 obtain ⟨i, j, rfl, rfl, q⟩ := h
 obtain ⟨t, rfl⟩ := rx
 obtain ⟨t', rfl⟩ := ry
 exact in_str (fin_bl I q rfl)
theorem op_isN : OpR X (compareOp .Is) (fun x y H Q => y = .non ∧ Q (.bl (decide (x = .non))) H) := by
 intro pins s σ H x y v u Q I rx ry h
 obtain ⟨rfl, q⟩ := h
 cases ry
 refine is_none_gen (fin_bl I q ?_)
 cases x <;> first
   | (cases rx; rfl)
   | (obtain ⟨t, rfl⟩ := rx; rfl)
theorem OpR.or {f : Value → Value → Sem Value} {r r' : R2} (h : OpR X f r) (h' : OpR X f r') : OpR X f (fun x y H Q => r x y H Q ∨ r' x y H Q) := by
 intro pins s σ H x y v u Q I rx ry q
 rcases q with q | q
 · exact h pins s σ H x y v u Q I rx ry q
 · exact h' pins s σ H x y v u Q I rx ry q
theorem nomark (b : Expr) {op : CmpOp} (h : op ≠ .In := by decide) (h2 : op ≠ .NotIn := by decide) : behindInMarks op b = false := by
 have e1 : (op == CmpOp.In) = false := by cases op <;> first | rfl | exact absurd rfl h
 have e2 : (op == CmpOp.NotIn) = false := by cases op <;> first | rfl | exact absurd rfl h2
 cases b <;> simp [behindInMarks, e1, e2]
theorem pe_cmpR {op : CmpOp} {r : R2} (ho : OpR X (compareOp op) r) (ha : PE X a ta) (hb : PE X b tb) (hm : behindInMarks op b = false) : PE X (.Compare a [op] [b] pos) (tOp r ta tb) := by
 intro pins s σ H Q I h
 exact wpAny_Compare1 (binT ha hb I h fun v u s2 x y H2 I2 rx ry q => ho pins s2 σ H2 x y v u Q I2 rx ry q) hm
def tTest (t : TE) : TT := fun σ H Q => t σ H fun x H' => ∃ k, x = .bl k ∧ Q k H'
theorem pt_cmpR {op : CmpOp} {r : R2} (ho : OpR X (compareOp op) r) (ha : PE X a ta) (hb : PE X b tb) (hm : behindInMarks op b = false) : PT X (.Compare a [op] [b] pos) (tTest (tOp r ta tb)) := by
 intro pins s σ H Q I h
 refine wpAny_isTrue_Compare1 (thn (ha pins s σ H _ I h) fun v s1 ⟨x, H1, I1, r1, q1⟩ => thn (hb pins s1 σ H1 _ I1 q1) fun u s2 ⟨y, H2, I2, r2, q2⟩ =>
   thn (ho pins s2 σ H2 x y v u _ I2 r1 r2 q2) fun c s3 ⟨z, H3, I3, r3, k, e, q3⟩ => ?_) hm
 subst e
 cases r3
 exact wpAny_truthy_bool ⟨H3, I3, q3⟩
def tChain (r r' : R2) (ta tb tc : TE) : TE := fun σ H Q => ta σ H fun x H1 => tb σ H1 fun y H2 => r x y H2 fun z H3 => ∃ k, z = .bl k ∧
 (if k = true then tc σ H3 fun w' H4 => r' y w' H4 Q else Q (.bl false) H3)
theorem pt_chain {op op' : CmpOp} {r r' : R2} (ho : OpR X (compareOp op) r) (ho' : OpR X (compareOp op') r') (ha : PE X a ta) (hb : PE X b tb) (hc : PE X c tc)
   (hm : lastMarks [op, op'] [b, c] = false := by with_unfolding_all rfl) : PT X (.Compare a [op, op'] [b, c] pos) (tTest (tChain r r' ta tb tc)) := by
 intro pins s σ H Q I h
 refine isTrue_chain (thn (ha pins s σ H _ I h) fun v s1 ⟨x, H1, I1, r1, q1⟩ => test_link (thn (hb pins s1 σ H1 _ I1 q1) fun u s2 ⟨y, H2, I2, r2, q2⟩ =>
   thn (ho pins s2 σ H2 x y v u _ I2 r1 r2 q2) fun d s3 ⟨z, H3, I3, r3, k, e, q3⟩ => ?_)) hm
 subst e
 cases r3
 refine wpAny_truthy_bool ?_
 cases k with
 | false =>
   obtain ⟨k', e', q'⟩ := q3
   cases e'
   exact ite_ff ⟨H3, I3, q'⟩
 | true =>
   refine ite_tt (test_last (thn (hc pins s3 σ H3 _ I3 q3) fun w' s4 ⟨z', H4, I4, r4, q4⟩ => thn (ho' pins s4 σ H4 y z' u w' _ I4 r2 r4 q4) fun d' s5 ⟨z2, H5, I5, r5, k2, e2, q5⟩ => ?_))
   subst e2
   cases r5
   exact wpAny_truthy_bool ⟨H5, I5, q5⟩
def TruV (K : PySem.W.Frag) (x : V) (H : Hp) (k : Bool) : Prop :=
 match x with
 | .non => k = false
 | .bl b => k = b
 | .int i => k = (i != 0)
 | .str y => y.length ≤ sizeLine ∧ k = ((y.length : Int) != 0)
 | .byt y => y.size ≤ sizeLine ∧ k = ((y.size : Int) != 0)
 | .ref p => (∃ xs, SqL K H p xs ∧ k = !xs.isEmpty) ∨ (∃ xs, SqT K H p xs ∧ k = !xs.isEmpty) ∨ ∃ kvs, H p = some (.dK kvs) ∧ k = !kvs.isEmpty
 | _ => False
theorem isEmpty_kv {κ : Type} {kvs : List (κ × V)} {vs : List (κ × Value)} (r : KV kvs vs) : (!vs.isEmpty) = !kvs.isEmpty := by
 cases r <;> rfl
theorem isEmpty_of {xs : List V} {its : List Value} (r : Vals xs its) : (!its.toArray.isEmpty) = !xs.isEmpty := by
 cases r <;> simp
theorem line63 : (sizeLine : Nat) < 2 ^ 63 := by rw [sizeLine_eq]; decide
theorem tru_ok : TruR X (fun x H Q => ∃ k, TruV X.K x H k ∧ Q k H) := by
 intro pins s σ H x v Q I rx h
 obtain ⟨k, e, q⟩ := h
 have hl := line63
 have hs : sizeLine = 16777216 := sizeLine_eq
 cases x with
 | non =>
   cases rx
   have e' : k = false := e
   subst e'
   exact truthy_none ⟨H, I, q⟩
 | bl b =>
   cases rx
   have e' : k = b := e
   subst e'
   exact wpAny_truthy_bool ⟨H, I, q⟩
 | int i =>
   obtain ⟨t, rfl⟩ := rx
   have e' : k = (i != 0) := e
   subst e'
   exact PySem.P.truthy_int ⟨H, I, q⟩
 | str y =>
   obtain ⟨t, rfl⟩ := rx
   obtain ⟨hy, e'⟩ : y.length ≤ sizeLine ∧ k = ((y.length : Int) != 0) := e
   subst e'
   exact PySem.P.truthy_str (by omega) ⟨H, I.tok _, q⟩
 | byt y =>
   obtain ⟨t, rfl⟩ := rx
   obtain ⟨hy, e'⟩ : y.size ≤ sizeLine ∧ k = ((y.size : Int) != 0) := e
   subst e'
   exact PySem.W.truthy_bytes (by omega) ⟨H, I.tok _, q⟩
 | ref p =>
   cases rx
   have e' : (∃ xs, SqL X.K H p xs ∧ k = !xs.isEmpty) ∨ (∃ xs, SqT X.K H p xs ∧ k = !xs.isEmpty) ∨ ∃ kvs, H p = some (.dK kvs) ∧ k = !kvs.isEmpty := e
   rcases e' with ⟨xs, hx, e'⟩ | ⟨xs, hx, e'⟩ | ⟨kvs, hx, e'⟩
   · subst e'
     obtain ⟨its, r, pl, hz⟩ := I.list hx
     have hlen := r.length
     exact wpAny_truthy_list pl.isList (by simp only [List.size_toArray]; omega) ⟨H, I.tok _, by rw [isEmpty_of r]; exact q⟩
   · subst e'
     obtain ⟨its, r, pl, hz⟩ := I.tuple hx
     have hlen := r.length
     exact truthy_tuple pl (by simp only [List.size_toArray]; omega) ⟨H, I.tok _, by rw [isEmpty_of r]; exact q⟩
   · subst e'
     obtain ⟨hz, hS, vs, r, m⟩ : kvs.length ≤ sizeLine ∧ (p == sysModules) = false ∧ ∃ vs, KV kvs vs ∧ s.heap.DictOf (mixKind X.prog X.w) p vs := I.hok p _ hx
     have hlen : kvs.length = vs.length := Paired.length r
     exact wpAny_truthy_dict hS m (by omega) ⟨H, I.tok _, by rw [isEmpty_kv r]; exact q⟩
 | _ => exact (show False from e).elim
theorem pt_truth (ha : PE X a ta) (he : ∀ whole, isTrue a X.env whole = (do let v ← whole; standAt a.pos; holding [v] (truthy v))) :
   PT X a (fun σ H Q => ta σ H fun x H' => ∃ k, TruV X.K x H' k ∧ Q k H') := by
 intro pins s σ H Q I h
 exact isTrue_plain (thn (ha pins s σ H _ I h) fun v s1 ⟨x, H1, I1, r1, q1⟩ => tru_ok pins s1 σ H1 x v Q I1 r1 q1) (he _)
theorem op_add_str : OpR X (binaryOp .Add) (fun x y H Q => ∃ i j, x = .str i ∧ y = .str j ∧ i.length + j.length ≤ sizeLine ∧ Q (.str (i ++ j)) H) := by
 intro pins s σ H x y v u Q I rx ry h
 obtain ⟨i, j, rfl, rfl, hz, q⟩ := h
 obtain ⟨t, rfl⟩ := rx
 obtain ⟨t', rfl⟩ := ry
 exact add_str (fun t' tk => ⟨.str (i ++ j), H, I.tok _, ⟨_, rfl⟩, q⟩) hz
theorem vals1 {x : V} {us : List Value} (r : Vals [x] us) : ∃ u, us = [u] ∧ RelV x u := by
 cases r with
 | cons r1 r2 => cases r2; exact ⟨_, rfl, r1⟩
theorem vals2 {x y : V} {us : List Value} (r : Vals [x, y] us) : ∃ u w', us = [u, w'] ∧ RelV x u ∧ RelV y w' := by
 cases r with
 | cons r1 r2 =>
   cases r2 with
   | cons r3 r4 => cases r4; exact ⟨_, _, rfl, r1, r3⟩
theorem call_str_int : CallR X (.type "str") (fun xs H Q => ∃ i, xs = [.int i] ∧ i.natAbs.log2 < 1920 ∧ Q (.str (toString i)) H) := by
 intro pins s σ H xs us Q I r h
 obtain ⟨i, rfl, hz, q⟩ := h
 obtain ⟨u, rfl, t, rfl⟩ := vals1 r
 exact PySem.P.str_of_int hz ⟨.str _, H, I.tok _, ⟨_, rfl⟩, q⟩
def LenV (K : PySem.W.Frag) (x : V) (H : Hp) (n : Nat) : Prop :=
 match x with
 | .str y => y.length ≤ sizeLine ∧ n = y.length
 | .byt y => y.size ≤ sizeLine ∧ n = y.size
 | .ref p => (∃ xs, SqL K H p xs ∧ n = xs.length) ∨ ∃ xs, SqT K H p xs ∧ n = xs.length
 | _ => False
theorem call_len : CallR X (.builtin "len") (fun xs H Q => ∃ x n, xs = [x] ∧ LenV X.K x H n ∧ Q (.int n) H) := by
 intro pins s σ H xs us Q I r h
 obtain ⟨x, n, rfl, e, q⟩ := h
 obtain ⟨u, rfl, rx⟩ := vals1 r
 have hl := line63
 have hs : sizeLine = 16777216 := sizeLine_eq
 cases x with
 | str y =>
   obtain ⟨t, rfl⟩ := rx
   obtain ⟨hy, e'⟩ : y.length ≤ sizeLine ∧ n = y.length := e
   subst e'
   exact len_str (by omega) ⟨.int _, H, I.tok _, ⟨_, rfl⟩, q⟩
 | byt y =>
   obtain ⟨t, rfl⟩ := rx
   obtain ⟨hy, e'⟩ : y.size ≤ sizeLine ∧ n = y.size := e
   subst e'
   exact PySem.W.len_bytes (by omega) ⟨.int _, H, I.tok _, ⟨_, rfl⟩, q⟩
 | ref p =>
   cases rx
   have e' : (∃ xs, SqL X.K H p xs ∧ n = xs.length) ∨ ∃ xs, SqT X.K H p xs ∧ n = xs.length := e
   rcases e' with ⟨xs, hx, e'⟩ | ⟨xs, hx, e'⟩
   · subst e'
     obtain ⟨its, r', pl, hz⟩ := I.list hx
     have hlen := r'.length
     exact Calls.call_len_list pl.isList (by simp only [List.size_toArray]; omega) ⟨.int xs.length, H, I.tok _, ⟨_, by simp only [List.size_toArray]; rw [hlen]⟩, q⟩
   · subst e'
     obtain ⟨its, r', pl, hz⟩ := I.tuple hx
     have hlen := r'.length
     exact len_tuple pl (by simp only [List.size_toArray]; omega) ⟨.int xs.length, H, I.tok _, ⟨_, by simp only [List.size_toArray]; rw [hlen]⟩, q⟩
 | _ => exact (show False from e).elim
end
end L2
namespace L2
open PySem PySem.Spec PyProof.Rows
structure ObjM (h : Heap) (x dx C : Addr) (mA : Str → Option Value) : Prop where
 obj : h.get? x = some (PySem.W.instObj C dx)
 ns : h.Ns1 dx mA
 ne : dx ≠ x
theorem lookIn_ns {h : Heap} {dx : Addr} {mA : Str → Option Value} (n : h.Ns1 dx mA) : ∃ od, h.get? dx = some od ∧ ∀ name, PySem.W.lookIn name od = some (mA name) := by
 obtain ⟨o, es, ep, ho, hd, hk, _, hm⟩ := n
 refine ⟨o, ho, fun name => ?_⟩
 have e := hm name
 unfold nsFind findBy at e
 rw [← Array.find?_toList] at e
 unfold PySem.W.lookIn
 rw [hd]
 dsimp only
 split
 · rename_i y q
   rw [q] at e
   exact congrArg some e
 · rename_i q
   rw [q] at e
   have a : es.toList.any (·.refKey) = false := by
     rw [List.any_eq_false]
     intro y hy
     obtain ⟨z, t, hkey⟩ := hk y (Array.mem_toList_iff.mp hy)
     simp [DictEntry.refKey, hkey]
   have a' : ¬ es.toList.any (·.refKey) = true := by rw [a]; exact Bool.false_ne_true
   rw [if_neg a']
   exact congrArg some e
theorem ObjM.look {h : Heap} {x dx C : Addr} {mA : Str → Option Value} (I : ObjM h x dx C mA) : ∃ od, PySem.W.InstAt h x (PySem.W.instObj C dx) C (some od) ∧ ∀ name, PySem.W.lookIn name od = some (mA name) :=
 let ⟨od, ho, hl⟩ := lookIn_ns I.ns
 ⟨od, ⟨I.obj, rfl, rfl, ho⟩, hl⟩
section
variable {prog : Program} {w : World} {A : Around} {E : Value → Shared → Prop} {s : Shared} {K : PySem.W.Frag} {x dx C f : Addr} {mA : Str → Option Value} {name : Str} {v : Value}
theorem get_map {expr : Bool} {Q : Value → Shared → Prop} (X : K.In s.heap) (I : ObjM s.heap x dx C mA) (hg : PySem.W.plainGet K C name = true) (hh : PySem.W.hasDictIn K C = true)
   (ha : PySem.W.findIn K (.ref C) name = some none) (hv : mA name = some v) (hv' : PySem.W.handedIn v = true) (h : Q v { s with toks := s.toks + 1 }) :
   wpAny (model prog w) A (getAttr (.ref x) name expr) Q E s := by
 obtain ⟨od, J, hl⟩ := I.look
 exact PySem.W.get_value X J (PySem.W.plainGet_of hg).1 (PySem.W.findObj_own hh ha rfl (by rw [hl, hv])) hv' h
theorem get_meth {pl : Sem Bool} {Q : Value × List Value → Shared → Prop} (X : K.In s.heap) (I : ObjM s.heap x dx C mA) (hg : PySem.W.plainGet K C name = true)
   (hf : PySem.W.findIn K (.ref C) name = some (some (.ref f))) (ht : PySem.W.isFn K (.ref f) = true) (hv : mA name = none) (h : Q (.ref f, [.ref x]) s) :
   wpAny (model prog w) A (getMethod (.ref x) name pl) Q E s := by
 obtain ⟨od, J, hl⟩ := I.look
 exact PySem.W.method_fn X J (PySem.W.plainGet_of hg).1 (PySem.W.plainGet_of hg).2 hf (beq_iff_eq.mp ht) (by show (PySem.W.lookIn name od).map (·.isSome) = some false; rw [hl, hv]; rfl) h
theorem set_map {ns : List Str} {Q : Unit → Shared → Prop} (X : K.In s.heap) (I : ObjM s.heap x dx C mA)
   (hs : PySem.W.findIn K (.ref C) "__setattr__" = some (some (.builtin "object.__setattr__"))) (hp : PySem.W.plainOver K C = true) (ht : PySem.W.takerIn K C name = some none) (hh : PySem.W.hasDictIn K C = true)
   (hw : PySem.Within mA ns) (hsz : ns.length ≤ sizeLine)
   (h : ∀ h', ObjM h' x dx C (fun y => if y = name then some v else mA y) → Heap.SameBut dx s.heap h' → Q () { s with heap := h', toks := s.toks + 2 }) :
   wpAny (model prog w) A (setAttr (.ref x) name v) Q E s := by
 obtain ⟨od, J, hl⟩ := I.look
 refine PySem.W.set_plain X J hs (PySem.W.osa_open (s := { s with toks := s.toks + 1 }) (r := none) X J hp ht fun b => ?_)
 obtain ⟨cd, hc, hd'⟩ := PySem.W.any_some hh
 have hx : s.heap.get? x = some ⟨.ref C, some dx, .plain, #[]⟩ := I.obj
 refine wpAny_bind (wpAny_pure (wpAny_bind (wpAny_bind (wpAny_loadPart hx (wpAny_bind (PySem.W.Looks.here (s := { s with toks := s.toks + 1 }) (PySem.W.looks_clsIn X hc) ?_))))))
 rw [hd']
 refine wpAny_pure (a := some dx) (wpAny_bind (wpAny_pure (wpAny_bind ?_)))
 refine wpAny_nsSet1 (s := { s with toks := s.toks + 1 }) I.ns fun h' hn2 hs2 => ?_
 obtain ⟨oD, esD, epD, hoD, hdD, hcD⟩ := hn2.count (PySem.Within.cons name v hw)
 refine wpAny_bind (wpAny_lookBehind hoD (by rw [hdD]; exact pastItsLine_dict (Nat.le_trans hcD (by rw [List.length_cons]; omega))) ?_)
 exact wpAny_pure (h _ ⟨(hs2.2 _ (Ne.symm I.ne)).trans I.obj, hn2, I.ne⟩ hs2)
theorem make_map {R : Result → Shared → Prop} {vs : List Value} {kw : List (Str × Value)} (X : K.In s.heap) (hm : PySem.W.makesIn K C = true)
   (hi : PySem.W.findIn K (.ref C) "__init__" = some (some (.ref f))) (hf : PySem.W.typeIn K (.ref f) = some (.type "function"))
   (h : codeAny (model prog w) (A.under (.builtin "type.__call__" ⟨.ref C :: vs, kw⟩)) (.call (.ref f) ⟨.ref (s.heap.objs.size + 1) :: vs, kw⟩) (PySem.W.InitBack (s.heap.objs.size + 1) R)
     { s with heap := (s.heap.push PySem.W.emptyDict).push (PySem.W.instObj C s.heap.objs.size) }) :
   codeAny (model prog w) A (.call (.ref C) ⟨vs, kw⟩) R s := by
 obtain ⟨hh, g, d, t, os⟩ := s
 exact PySem.W.make_core (PySem.W.makes_of X hm) (PySem.W.looks_findIn X hi) (fun self => PySem.W.bind_fn X self hf) (.inl rfl) h
end
def putF (f : Str) (v : V) : List (Str × V) → List (Str × V)
 | [] => [(f, v)]
 | (g, x) :: r => if g = f then (g, v) :: r else (g, x) :: putF f v r
theorem lookup_putF (f g : Str) (v : V) : ∀ fs : List (Str × V), (putF f v fs).lookup g = if g = f then some v else fs.lookup g
 | [] => by
   show List.lookup g [(f, v)] = _
   by_cases h : g = f
   · have hb : (g == f) = true := beq_iff_eq.mpr h
     simp only [List.lookup, hb, if_pos h]
   · have hb : (g == f) = false := beq_eq_false_iff_ne.mpr h
     simp only [List.lookup, hb, if_neg h]
 | (k, x) :: r => by
   have ih := lookup_putF f g v r
   rw [show putF f v ((k, x) :: r) = (if k = f then (k, v) :: r else (k, x) :: putF f v r) from rfl]
   by_cases hk : k = f
   · rw [if_pos hk]
     by_cases h : g = k
     · have hb : (g == k) = true := beq_iff_eq.mpr h
       simp only [List.lookup, hb, if_pos (h.trans hk)]
     · have hb : (g == k) = false := beq_eq_false_iff_ne.mpr h
       simp only [List.lookup, hb, if_neg (fun e : g = f => h (e.trans hk.symm))]
   · rw [if_neg hk]
     by_cases h : g = k
     · have hb : (g == k) = true := beq_iff_eq.mpr h
       simp only [List.lookup, hb, if_neg (fun e : g = f => hk (h.symm.trans e))]
     · have hb : (g == k) = false := beq_eq_false_iff_ne.mpr h
       simp only [List.lookup, hb]
       exact ih
theorem keys_putF (f : Str) (v : V) : ∀ fs : List (Str × V), f ∈ (putF f v fs).map (·.1) ∧ ∀ g, g ∈ fs.map (·.1) → g ∈ (putF f v fs).map (·.1)
 | [] => ⟨by simp [putF], fun g h => by simp at h⟩
 | (k, x) :: r => by
   obtain ⟨i1, i2⟩ := keys_putF f v r
   rw [show putF f v ((k, x) :: r) = (if k = f then (k, v) :: r else (k, x) :: putF f v r) from rfl]
   by_cases hk : k = f
   · rw [if_pos hk]
     subst hk
     exact ⟨by simp, fun g h => by simpa using h⟩
   · rw [if_neg hk]
     refine ⟨?_, fun g h => ?_⟩
     · rw [List.map_cons]
       exact List.mem_cons_of_mem _ i1
     · rw [List.map_cons] at h ⊢
       rcases List.mem_cons.mp h with e | e
       · exact List.mem_cons.mpr (.inl e)
       · exact List.mem_cons_of_mem _ (i2 g e)
theorem length_putF (f : Str) (v : V) : ∀ fs : List (Str × V), (putF f v fs).length ≤ fs.length + 1
 | [] => by simp [putF]
 | (k, x) :: r => by
   have ih := length_putF f v r
   rw [show putF f v ((k, x) :: r) = (if k = f then (k, v) :: r else (k, x) :: putF f v r) from rfl]
   by_cases hk : k = f
   · rw [if_pos hk, List.length_cons, List.length_cons]; omega
   · rw [if_neg hk, List.length_cons, List.length_cons]; omega
theorem RelO.some_of {v : V} {o : Option Value} (r : RelO (some v) o) : ∃ u, o = some u ∧ RelV v u := by
 cases o with
 | none => exact (show False from r).elim
 | some u => exact ⟨u, rfl, r⟩
theorem RelO.none_of {o : Option Value} (r : RelO none o) : o = none := by
 cases o with
 | none => rfl
 | some u => exact (show False from r).elim
theorem handed_of {v : V} {u : Value} (r : RelV v u) : PySem.W.handedIn u = true := by
 cases v with
 | non => cases (show u = Value.none from r); rfl
 | bl b => cases (show u = Value.bool b from r); rfl
 | int i => obtain ⟨t, e⟩ := (show ∃ t, u = Value.int i t from r); cases e; rfl
 | str x => obtain ⟨t, e⟩ := (show ∃ t, u = Value.str x t from r); cases e; rfl
 | byt b => obtain ⟨t, e⟩ := (show ∃ t, u = Value.bytes b t from r); cases e; rfl
 | flt b => obtain ⟨t, e⟩ := (show ∃ t, u = Value.float b t from r); cases e; rfl
 | ref a => cases (show u = Value.ref a from r); rfl
 | ty n => cases (show u = Value.type n from r); rfl
section
variable {P : Program} {w : World} {H H' : Hp} {h h' : Heap} {a C dx : Addr} {fs fs' : List (Str × V)}
theorem ins_get (hok : HOk P w H h) (e : H a = some (.ins C dx fs)) : ∃ mA, ObjM h a dx C mA ∧ (∀ f, RelO (fs.lookup f) (mA f)) ∧ PySem.Within mA (fs.map (·.1)) ∧ fs.length ≤ 1000 ∧ H dx = some (.own a) := by
 obtain ⟨d, z, ne, ob, mA, n, r, q⟩ := (show ObjOk P w H h a (.ins C dx fs) from hok a _ e)
 exact ⟨mA, ⟨ob, n, ne⟩, r, q, z, d⟩
end
structure Cls (K : PySem.W.Frag) (C : Addr) : Prop where
 pg : PySem.W.plainGet K C Str.empty = true
 hd : PySem.W.hasDictIn K C = true
 po : PySem.W.plainOver K C = true
 sa : PySem.W.findIn K (.ref C) "__setattr__" = some (some (.builtin "object.__setattr__"))
theorem Cls.get {K : PySem.W.Frag} {C : Addr} (c : Cls K C) (f : Str) : PySem.W.plainGet K C f = true := c.pg
def NoAttr (K : PySem.W.Frag) (C : Addr) (f : Str) : Prop := PySem.W.findIn K (.ref C) f = some none
theorem NoAttr.taker {K : PySem.W.Frag} {C : Addr} {f : Str} (n : NoAttr K C f) : PySem.W.takerIn K C f = some none := by
 unfold PySem.W.takerIn
 rw [show PySem.W.findIn K (.ref C) f = some none from n]
 rfl
structure Meth (K : PySem.W.Frag) (C : Addr) (m : Str) (f : Addr) : Prop where
 at_ : PySem.W.findIn K (.ref C) m = some (some (.ref f))
 fn : PySem.W.isFn K (.ref f) = true
 kp : PySem.W.keepIn K (.ref f) = true
section
variable {X : Cx} {pins : List (Addr × Obj)} {σ : St} {H : Hp} {s : Shared} {a C dx : Addr} {fs : List (Str × V)} {f : Str} {v : V} {A : Around} {E : Value → Shared → Prop}
theorem getattr_ok {b : Bool} {Q : Value → Shared → Prop} (I : Inv X pins σ H s) (e : H a = some (.ins C dx fs)) (c : Cls X.K C) (n : NoAttr X.K C f) (l : fs.lookup f = some v)
   (h : ∀ u s', Inv X pins σ H s' → RelV v u → Q u s') : wpAny (model X.prog X.w) A (getAttr (.ref a) f b) Q E s := by
 obtain ⟨mA, O, r, _, _, _⟩ := ins_get I.hok e
 obtain ⟨u, hu, ru⟩ := RelO.some_of (v := v) (o := mA f) (by rw [← l]; exact r f)
 exact get_map I.kIn O (c.get f) c.hd n hu (handed_of ru) (h u _ (I.tok _) ru)
theorem getmeth_ok {m : Str} {g : Addr} {pl : Sem Bool} {Q : Value × List Value → Shared → Prop} (I : Inv X pins σ H s) (e : H a = some (.ins C dx fs)) (c : Cls X.K C) (k : Meth X.K C m g) (l : fs.lookup m = none)
   (h : Q (.ref g, [.ref a]) s) : wpAny (model X.prog X.w) A (getMethod (.ref a) m pl) Q E s := by
 obtain ⟨mA, O, r, _, _, _⟩ := ins_get I.hok e
 have hn : mA m = none := RelO.none_of (by rw [← l]; exact r m)
 exact get_meth I.kIn O (c.get m) k.at_ k.fn hn h
theorem setattr_ok {y : V} {u : Value} {Q : Unit → Shared → Prop} (I : Inv X pins σ H s) (e : H a = some (.ins C dx fs)) (c : Cls X.K C) (n : NoAttr X.K C f) (hl : fs.length < 1000) (ry : RelV y u)
   (h : ∀ s', Inv X pins σ (upd H a (.ins C dx (putF f y fs))) s' → Q () s') : wpAny (model X.prog X.w) A (setAttr (.ref a) f u) Q E s := by
 obtain ⟨mA, O, r, wi, _, ho⟩ := ins_get I.hok e
 have hz : (fs.map (·.1)).length ≤ sizeLine := by rw [List.length_map, sizeLine_eq]; omega
 refine set_map I.kIn O c.sa c.po n.taker c.hd wi hz fun h' O' sb => h _ ?_
 have hd : ∃ o, h'.get? dx = some o := let ⟨o, _, _, e', _⟩ := O'.ns; ⟨o, e'⟩
 refine I.write (x := a) (e := dx) (by rw [e]; exact True.intro) (.inr ho) (fun b q hb z => (sb.2 b hb).trans z) hd ?_
 refine ⟨by rw [upd_ne O.ne]; exact ho, ?_, O.ne, O'.obj, _, O'.ns, fun g => ?_, fun g hg => ?_⟩
 · have := length_putF f y fs; omega
 · show RelO ((putF f y fs).lookup g) (if g = f then some u else mA g)
   rw [lookup_putF]
   by_cases q : g = f
   · rw [if_pos q, if_pos q]; exact ry
   · rw [if_neg q, if_neg q]; exact r g
 · by_cases q : g = f
   · rw [q]; exact (keys_putF f y fs).1
   · refine (keys_putF f y fs).2 g (wi g fun z => hg ?_)
     show (if g = f then some u else mA g) = none
     rw [if_neg q]; exact z
theorem Inv.made (I : Inv X pins σ H s) : Inv X pins σ (upd (upd H s.heap.objs.size (.own (s.heap.objs.size + 1))) (s.heap.objs.size + 1) (.ins C s.heap.objs.size []))
   { s with heap := (s.heap.push PySem.W.emptyDict).push (PySem.W.instObj C s.heap.objs.size) } := by
 have e1 : (s.heap.push PySem.W.emptyDict).get? s.heap.objs.size = some PySem.W.emptyDict := Heap.get?_push_size s.heap rfl
 have e2 : ((s.heap.push PySem.W.emptyDict).push (PySem.W.instObj C s.heap.objs.size)).get? (s.heap.objs.size + 1) = some (PySem.W.instObj C s.heap.objs.size) := by
   have := Heap.get?_push_size (s.heap.push PySem.W.emptyDict) (o := PySem.W.instObj C s.heap.objs.size) rfl
   rwa [Heap.size_push] at this
 have e3 : (s.heap.push PySem.W.emptyDict).Ns s.heap.objs.size (fun _ => none) := ⟨PySem.W.emptyDict, #[], _, e1, rfl, (fun e he => absurd he (by simp)), fun _ => rfl⟩
 have I1 := I.laid (a := s.heap.objs.size) (o := .own (s.heap.objs.size + 1)) (h' := s.heap.push PySem.W.emptyDict) (t' := s.toks) (fun b u q => Heap.get?_push_of_some _ q) (Nat.le_refl _) ⟨_, e1⟩
 refine I1.laid (a := s.heap.objs.size + 1) (o := .ins C s.heap.objs.size []) (t' := s.toks) (fun b u q => Heap.get?_push_of_some _ q) (Nat.le_of_eq (Heap.size_push _ _)) ?_
 have ne : s.heap.objs.size ≠ s.heap.objs.size + 1 := Nat.ne_of_lt (Nat.lt_succ_self _)
 refine ⟨by rw [upd_ne ne, upd_same], Nat.zero_le _, ne, e2, fun _ => none, (Heap.Ns1.of_empty e3).at fun o q => Heap.get?_push_of_some _ q, fun _ => True.intro, fun y hy => absurd rfl hy⟩
theorem attr_of {prog : Program} {w : World} {env : Env} {e : Expr} {f : Str} {pos : Pos} {s : Shared} {Q : Value → Shared → Prop} (hb : attributeBase e f env (eval e env) = eval e env)
   (h : wpAny (model prog w) A (eval e env) (fun o s₁ => wpAny (model prog w) A (getAttr o f true) Q E s₁) E s) : wpAny (model prog w) A (eval (.Attribute e f pos) env) Q E s :=
 Attribute_any_ h (by rw [arm_eval_Attribute, hb])
end
def tFld (K : PySem.W.Frag) (ta : TE) (f : Str) : TE := fun σ H Q => ta σ H fun x H1 => ∃ a C dx fs v, x = .ref a ∧ H1 a = some (.ins C dx fs) ∧ Cls K C ∧ NoAttr K C f ∧ fs.lookup f = some v ∧ Q v H1
def sFld (K : PySem.W.Frag) (ta tv : TE) (f : Str) : TS := fun D σ H => tv σ H fun y H1 => ta σ H1 fun x H2 => ∃ a C dx fs, x = .ref a ∧ H2 a = some (.ins C dx fs) ∧ Cls K C ∧ NoAttr K C f ∧ fs.length < 1000 ∧
 D.nx σ (upd H2 a (.ins C dx (putF f y fs)))
section
variable {X : Cx} {o e value : Expr} {f : Str} {pos pos' tpos : Pos} {ta tv : TE}
theorem pe_fld (he : PE X e ta) (hb : attributeBase e f X.env (eval e X.env) = eval e X.env) : PE X (.Attribute e f pos) (tFld X.K ta f) := by
 intro pins s σ H Q I h
 refine attr_of hb (thn (he pins s σ H _ I h) fun u s1 ⟨x, H1, I1, rx, a, C, dx, fs, v, ex, ea, c, n, l, q⟩ => ?_)
 subst ex
 obtain rfl : u = Value.ref a := rx
 exact getattr_ok I1 ea c n l fun u' s2 I2 ru => ⟨v, H1, I2, ru, q⟩
theorem ps_fld (ha : PE X o ta) (hv : PE X value tv) (hs : swapsWith value (some (.Attribute o f pos')) pos.line X.env = pure false) : PS X (.Assign [.Attribute o f pos'] value pos) (sFld X.K ta tv f) := by
 intro pins s σ H D I h
 refine plainObj_wpAny_Assign_Attribute (thn (hv pins s σ H _ I h) fun u s1 ⟨y, H1, I1, ry, q⟩ => thn (ha pins s1 σ H1 _ I1 q) fun ov s2 ⟨x, H2, I2, rx, a, C, dx, fs, ex, ea, c, n, l, q2⟩ => ?_) hs
 subst ex
 obtain rfl : ov = Value.ref a := rx
 exact setattr_ok I2 ea c n l ry fun s3 I3 => ⟨σ, _, I3, q2⟩
end
section
variable {X : Cx} {pins : List (Addr × Obj)} {σ : St} {H : Hp} {s : Shared} {A : Around} {E : Value → Shared → Prop} {Q : Value → Shared → Prop} {c : Value} {b : Bool}
inductive TyOf (K : PySem.W.Frag) (H : Hp) : V → Value → Prop where
 | non : TyOf K H .non (.type "NoneType")
 | bl (x : Bool) : TyOf K H (.bl x) (.type "bool")
 | int (i : Int) : TyOf K H (.int i) (.type "int")
 | str (x : Str) : TyOf K H (.str x) (.type "str")
 | flt (x : UInt64) : TyOf K H (.flt x) (.type "float")
 | lst {a : Addr} {xs : List V} (e : H a = some (.lst xs)) : TyOf K H (.ref a) (.type "list")
 | frz {a : Addr} {o : Obj} {xs : List V} (e : H a = some (.frz o (.lst xs))) : TyOf K H (.ref a) (.type "list")
 | tup {a : Addr} {xs : List V} (e : H a = some (.tup xs)) : TyOf K H (.ref a) (.type "tuple")
 | dK {a : Addr} {kvs : List (Key × V)} (e : H a = some (.dK kvs)) : TyOf K H (.ref a) (.type "dict")
 | dT {a : Addr} {kvs : List (List Key × V)} (e : H a = some (.dT kvs)) : TyOf K H (.ref a) (.type "dict")
 | ins {a C dx : Addr} {fs : List (Str × V)} (e : H a = some (.ins C dx fs)) (cl : Cls K C) (ha : PySem.W.findIn K (.ref C) "__class__" = some (some (.builtin "object.__class__")))
     (hn : PySem.W.specialIn K (.builtin "object.__class__") "__get__" = some (some (.builtin "getset_descriptor.__get__"))) (htk : PySem.W.takesIn K (.builtin "object.__class__") = some true)
     (hm : PySem.W.mroIn K C (.type "object") = some true) : TyOf K H (.ref a) (.ref C)
theorem isinst_ok {x : V} {u t : Value} (I : Inv X pins σ H s) (rx : RelV x u) (ty : TyOf X.K H x t) (e : PySem.W.kitOne X.K t c = some b) (h : ∀ tk, Q (.bool b) { s with toks := tk }) :
   wpAny (model X.prog X.w) A (call (.builtin "isinstance") [u, c]) Q E s := by
 cases ty with
 | non => cases (show u = Value.none from rx); exact PySem.W.kia_one PySem.W.kitx_none I.kIn True.intro e (fun z => nomatch z) h
 | bl y => cases (show u = Value.bool y from rx); exact PySem.W.kia_one PySem.W.kitx_bool I.kIn True.intro e (fun z => nomatch z) h
 | int i => obtain ⟨t, q⟩ := (show ∃ t, u = Value.int i t from rx); cases q; exact PySem.W.kia_one PySem.W.kitx_int I.kIn True.intro e (fun z => nomatch z) h
 | str y => obtain ⟨t, q⟩ := (show ∃ t, u = Value.str y t from rx); cases q; exact PySem.W.kia_one PySem.W.kitx_str I.kIn True.intro e (fun z => nomatch z) h
 | flt y => obtain ⟨t, q⟩ := (show ∃ t, u = Value.float y t from rx); cases q; exact PySem.W.kia_one PySem.W.kitx_float I.kIn True.intro e (fun z => nomatch z) h
 | @lst a xs ea =>
   cases (show u = Value.ref a from rx)
   obtain ⟨_, _, n, _, h1⟩ := (show ObjOk X.prog X.w H s.heap a (.lst xs) from I.hok a _ ea)
   exact PySem.W.kia_one PySem.W.kitx_list I.kIn ⟨_, h1, rfl⟩ e (fun z => nomatch z) h
 | @frz a ob xs ea =>
   cases (show u = Value.ref a from rx)
   obtain ⟨_, _, _, n, _, h1⟩ := (show ObjOk X.prog X.w H s.heap a (.frz ob (.lst xs)) from I.hok a _ ea)
   exact PySem.W.kia_one PySem.W.kitx_list I.kIn ⟨_, h1, rfl⟩ e (fun z => nomatch z) h
 | @tup a xs ea =>
   cases (show u = Value.ref a from rx)
   obtain ⟨_, _, _, p⟩ := (show ObjOk X.prog X.w H s.heap a (.tup xs) from I.hok a _ ea)
   obtain ⟨o, h1, h2, _⟩ := p
   exact PySem.W.kia_one PySem.W.kitx_tuple I.kIn ⟨o, h1, h2⟩ e (fun z => nomatch z) h
 | @dK a kvs ea =>
   cases (show u = Value.ref a from rx)
   obtain ⟨_, _, vs, _, p⟩ := (show ObjOk X.prog X.w H s.heap a (.dK kvs) from I.hok a _ ea)
   obtain ⟨o, es, ep, h1, h2, _⟩ := p
   exact PySem.W.kia_one PySem.W.kitx_dict I.kIn ⟨o, h1, h2.1⟩ e (fun z => nomatch z) h
 | @dT a kvs ea =>
   cases (show u = Value.ref a from rx)
   obtain ⟨_, _, xs, _, o, es, ep, h1, h2, _⟩ := (show ObjOk X.prog X.w H s.heap a (.dT kvs) from I.hok a _ ea)
   exact PySem.W.kia_one PySem.W.kitx_dict I.kIn ⟨o, h1, h2.1⟩ e (fun z => nomatch z) h
 | @ins a C dx fs ea cl ha hn htk hm =>
   cases (show u = Value.ref a from rx)
   obtain ⟨mA, O, _⟩ := ins_get I.hok ea
   obtain ⟨od, J, _⟩ := O.look
   exact PySem.W.kia_one (PySem.W.kitx_own (cl.get _) cl.hd ha hn htk hm) I.kIn J e (fun z => nomatch z) h
end
end L2
namespace L2
open PySem PySem.Spec PyProof.Rows
structure Room (k : Nat) (A : Around) : Prop where
 hd : A.handled = none
 dp : A.depth + 1 * k + 5 < recursionLimit
 un : A.units + 16 * k + 200 < cLine
 gd : A.guards = some []
theorem Room.mono {j k : Nat} {A : Around} (r : Room k A) (h : j ≤ k) : Room j A := ⟨r.hd, by have := r.dp; omega, by have := r.un; omega, r.gd⟩
theorem Room.deeper {k : Nat} {A : Around} (r : Room (k + 1) A) (env : Env) : Room k (A.deeper env) :=
 ⟨r.hd, by have := r.dp; show A.depth + 1 + 1 * k + 5 < _; omega, by have := r.un; show A.units + 3 + 16 * k + 200 < _; omega, r.gd⟩
theorem make_depth {A : Around} {C : Addr} {us : List Value} {kw : List (Str × Value)} : (A.under (.builtin "type.__call__" ⟨.ref C :: us, kw⟩)).depth = A.depth + 1 := by
 first | rfl | simp [Around.under, Code.weight, Code.isCreation, Code.isGuard, Code.isCaller, Code.frames, Code.isFrame, guardIds]
theorem make_units {A : Around} {C : Addr} {us : List Value} {kw : List (Str × Value)} : (A.under (.builtin "type.__call__" ⟨.ref C :: us, kw⟩)).units = A.units + 1 := by
 first | rfl | simp [Around.under, Code.cUnits, Code.frames, Code.isFrame]
theorem make_guards {A : Around} {C : Addr} {us : List Value} {kw : List (Str × Value)} : (A.under (.builtin "type.__call__" ⟨.ref C :: us, kw⟩)).guards = A.guards := by
 have e : (Code.builtin "type.__call__" ⟨.ref C :: us, kw⟩).guards = [] := by first | rfl | simp [Code.guards, Code.isGuard, guardIds]
 simp only [Around.under, e, pushGuards]
theorem Room.make {k : Nat} {A : Around} (r : Room (k + 1) A) (C : Addr) (us : List Value) (kw : List (Str × Value)) : Room k (A.under (.builtin "type.__call__" ⟨.ref C :: us, kw⟩)) :=
 ⟨r.hd, by have := r.dp; rw [make_depth]; omega, by have := r.un; rw [make_units]; omega, by rw [make_guards]; exact r.gd⟩
theorem Room.depth {k : Nat} {A : Around} (r : Room k A) : A.depth < recursionLimit := by have := r.dp; omega
theorem Room.units {k : Nat} {A : Around} (r : Room k A) : A.units + 64 < cLine := by have := r.un; omega
def tNil : TA := fun _ H Q => Q [] H
def tCons (ta : TE) (tr : TA) : TA := fun σ H Q => ta σ H fun x H1 => tr σ H1 fun xs H2 => Q (x :: xs) H2
section
variable {X : Cx} {e : Expr} {es : List Expr} {te : TE} {t : TA} {pos : Pos}
theorem pa_nil : PA X [] tNil := fun _ _ _ _ H Q I h => Calls.spliced_nil ⟨[], H, I, .nil, h⟩
theorem pa_cons (ha : PE X e te) (hr : PA X es t) (hs : starEach (e :: es) X.env = (false, eval e X.env) :: starEach es X.env := by rfl) : PA X (e :: es) (tCons te t) := by
 intro pos pins s σ H Q I h
 rw [hs]
 show wpAny _ _ (spliced ((false, eval e X.env) :: backTo pos (starEach es X.env))) _ _ s
 refine Calls.spliced_cons (thn (ha pins s σ H _ I h) fun u s1 ⟨x, H1, I1, r1, q1⟩ => ?_)
 exact thn (hr pos pins s1 σ H1 _ I1 q1) fun us s2 ⟨xs, H2, I2, r2, q2⟩ => ⟨x :: xs, H2, I2, .cons r1 r2, q2⟩
def tTup (t : TA) : TE := fun σ H Q => t σ H fun xs H1 => xs.length ≤ sizeLine ∧ ∀ p, H1 p = none → Q (.ref p) (upd H1 p (.tup xs))
def tLst (t : TA) : TE := fun σ H Q => t σ H fun xs H1 => xs.length ≤ sizeLine ∧ ∀ p, H1 p = none → Q (.ref p) (upd H1 p (.lst xs))
theorem pe_tup {x1} (h : PA X es t) : PE X (.Tuple es x1 pos) (tTup t) := by
 intro pins s σ H Q I hq
 refine wpAny_Tuple_spliced (thn (h pos pins s σ H _ I hq) fun us s1 ⟨xs, H1, I1, r, z, q⟩ => ⟨by rw [← r.length]; exact z, ?_⟩)
 have hf : H1 s1.heap.objs.size = none := I1.hok.fresh (Nat.le_refl _)
 refine ⟨.ref s1.heap.objs.size, upd H1 s1.heap.objs.size (.tup xs), I1.laid (t' := s1.toks) (fun b u e => Heap.get?_push_of_some _ e) (Nat.le_refl _) ?_, rfl, q _ hf⟩
 exact ⟨z, us, r, ⟨_, Heap.get?_push_size _ rfl, rfl, _, rfl⟩⟩
theorem pe_lst (h : PA X es t) : PE X (.List es pos) (tLst t) := by
 intro pins s σ H Q I hq
 refine wpAny_List_spliced (thn (h pos pins s σ H _ I hq) fun us s1 ⟨xs, H1, I1, r, z, q⟩ => ⟨by rw [← r.length]; exact z, ?_⟩)
 have hf : H1 s1.heap.objs.size = none := I1.hok.fresh (Nat.le_refl _)
 refine ⟨.ref s1.heap.objs.size, upd H1 s1.heap.objs.size (.lst xs), I1.laid (t' := s1.toks) (fun b u e => Heap.get?_push_of_some _ e) (Nat.le_refl _) ?_, rfl, q _ hf⟩
 exact ⟨z, us, 0, r, Heap.get?_push_size _ rfl⟩
end
abbrev Sp := List V → Hp → VK → XK → Prop
abbrev CXT := List Env → Hp → Shared → XK → Value → Shared → Prop
structure Env0 (P : Program) (w : World) (K : PySem.W.Frag) (mg : Str → Option Value) (base : Heap) (A : Around) (outer : List Env) (s : Shared) (H : Hp) : Prop where
 frames : A.frames = some outer
 mod : Mod K mg base
 bs : ∀ b o, base.get? b = some o → s.heap.get? b = some o ∧ H b = none
 bsz : base.objs.size ≤ s.heap.objs.size
 funs : s.heap.FunFrames base outer
 frf : ∀ b ∈ frs outer, H b = none
 hok : HOk P w H s.heap
 bare : AllBare s.gens
def CE (outer : List Env) (P : Program) (w : World) (H : Hp) (s : Shared) (Q : VK) (u : Value) (s' : Shared) : Prop :=
 ∃ v H', s'.os = s.os ∧ AllBare s'.gens ∧ Un (frs outer) [] H H' s.heap s'.heap ∧ HOk P w H' s'.heap ∧ RelV v u ∧ Q v H'
def CR (CX : CXT) (outer : List Env) (P : Program) (w : World) (H : Hp) (s : Shared) (Q : VK) (E : XK) (r : Result) (s' : Shared) : Prop :=
 match r with
 | .ok (.ret u) => CE outer P w H s Q u s'
 | .ok _ => False
 | .error e => CX outer H s E e s'
structure FnOk (P : Program) (w : World) (K : PySem.W.Frag) (mg : Str → Option Value) (base : Heap) (CX : CXT) (k : Nat) (f : Addr) (fd : FuncData) (ps : List Str) (sp : Sp) : Prop where
 len : ∀ vs H Q E, sp vs H Q E → vs.length = ps.length
 run : ∀ (A : Around) (outer : List Env) (s : Shared) (H : Hp) (args : Args) (us : List Value) (vs : List V) (Q : VK) (E : XK), Room k A → Env0 P w K mg base A outer s H → BindsTo s fd args (ps.zip us) → Vals vs us → sp vs H Q E →
   codeAny (model P w) A (.call (.ref f) args) (CR CX outer P w H s Q E) s
theorem FnOk.mono {P : Program} {w : World} {K : PySem.W.Frag} {mg : Str → Option Value} {base : Heap} {CX : CXT} {j k : Nat} {f : Addr} {fd : FuncData} {ps : List Str} {sp : Sp} (F : FnOk P w K mg base CX j f fd ps sp) (h : j ≤ k) :
   FnOk P w K mg base CX k f fd ps sp := ⟨F.len, fun A outer s H args us vs Q E hr => F.run A outer s H args us vs Q E (hr.mono h)⟩
theorem Env0.make {P : Program} {w : World} {K : PySem.W.Frag} {mg : Str → Option Value} {base : Heap} {A : Around} {outer : List Env} {s : Shared} {H : Hp} (e : Env0 P w K mg base A outer s H) (C : Addr) (us : List Value) (kw : List (Str × Value)) :
   Env0 P w K mg base (A.under (.builtin "type.__call__" ⟨.ref C :: us, kw⟩)) outer s H := ⟨by first | exact e.frames | (simpa [Around.under, Code.envs, Code.isFrame, pushEnvs] using e.frames), e.mod, e.bs, e.bsz, e.funs, e.frf, e.hok, e.bare⟩
section
variable {X : Cx} {pins : List (Addr × Obj)} {σ : St} {H : Hp} {s s' : Shared}
theorem Inv.env0 (I : Inv X pins σ H s) : Env0 X.prog X.w X.K X.mg X.base X.A X.stack s H :=
 ⟨I.ok.frames, I.ok.mod, I.bs, Nat.le_trans I.ok.bsz I.sz, I.stack, I.stkFree, I.hok, I.bare⟩
theorem Inv.after {Q : VK} {u : Value} (I : Inv X pins σ H s) (h : CE X.stack X.prog X.w H s Q u s') : EP X pins σ Q u s' := by
 obtain ⟨v, H', os, bare, un, hok, r, q⟩ := h
 obtain ⟨hh, g, d, t, os'⟩ := s'
 obtain rfl : os' = s.os := os
 exact ⟨v, H', I.call (h' := hh) (g' := g) (d' := d) (t' := t) (ch := []) un hok bare (fun b z => absurd z (by simp)), r, q⟩
end
def tCall (sp : Sp) (dvs : List V) (E : XK) (t : TA) : TE := fun σ H Q => t σ H fun vs H1 => sp (vs ++ dvs) H1 Q E
def tMake (C : Addr) (sp : Sp) (dvs : List V) (E : XK) (t : TA) : TE := fun σ H Q => t σ H fun vs H1 => ∀ x dx, H1 x = none → H1 dx = none → dx ≠ x →
 sp (.ref x :: (vs ++ dvs)) (upd (upd H1 dx (.own x)) x (.ins C dx [])) (fun v H2 => v = .non ∧ Q (.ref x) H2) E
def Binds (K : PySem.W.Frag) (fd : FuncData) (ps : List Str) (ds : List Value) : Prop :=
 ∀ (s : Shared) (us : List Value), K.In s.heap → (us ++ ds).length = ps.length → BindsTo s fd ⟨us, []⟩ (ps.zip (us ++ ds))
theorem Binds.all {K : PySem.W.Frag} {fd : FuncData} {ps : List Str} (h : ∀ us : List Value, us.length = ps.length → bindArgs fd ⟨us, []⟩ = pure (ps.zip us)) : Binds K fd ps [] := fun s us _ hl => by
 rw [List.append_nil] at hl ⊢
 exact .of_eq (h us hl)
def Passes (CX : CXT) (X : Cx) (E : XK) : Prop := ∀ (pins : List (Addr × Obj)) (σ : St) (H : Hp) (s : Shared) (e : Value) (s' : Shared), Inv X pins σ H s → CX X.stack H s E e s' → X.xe e s'
section
variable {X : Cx} {CX : CXT} {k : Nat} {f C : Addr} {fd : FuncData} {ps : List Str} {sp : Sp} {dvs : List V} {ds : List Value} {E : XK} {x m : Str} {p pos apos : Pos} {e o : Expr} {es : List Expr} {ta : TE} {t : TA}
theorem run_fn {pins : List (Addr × Obj)} {σ : St} {H : Hp} {s : Shared} {Q : VK} {us : List Value} {vs : List V} (F : FnOk X.prog X.w X.K X.mg X.base CX k f fd ps sp) (hr : Room k X.A) (hb : Binds X.K fd ps ds) (hd : Vals dvs ds) (hx : Passes CX X E)
   (I : Inv X pins σ H s) (r : Vals vs us) (h : sp (vs ++ dvs) H Q E) : wpAny (model X.prog X.w) X.A (call (.ref f) us) (EP X pins σ Q) X.xe s := by
 have r2 : Vals (vs ++ dvs) (us ++ ds) := r.append hd
 have hl : (us ++ ds).length = ps.length := by rw [← r2.length]; exact F.len _ _ _ _ h
 refine wpAny_call (codeAny_mono (F.run X.A X.stack s H ⟨us, []⟩ (us ++ ds) (vs ++ dvs) Q E hr I.env0 (hb s us I.kIn hl) r2 h) fun r s' hq => ?_)
 cases r with
 | error e => exact hx pins σ H s e s' I hq
 | ok fl =>
   cases fl with
   | ret u => exact I.after hq
   | next => exact False.elim hq
   | brk => exact False.elim hq
   | cont => exact False.elim hq
theorem pe_call (F : FnOk X.prog X.w X.K X.mg X.base CX k f fd ps sp) (hr : Room k X.A) (hg : Gl X x) (hm : X.mg x = some (.ref f)) (hk : PySem.W.keepIn X.K (.ref f) = true) (hb : Binds X.K fd ps ds) (hd : Vals dvs ds) (hx : Passes CX X E)
   (ha : PA X (e :: es) t) (hdb : (x == ("__debug__" : Str)) = false := by decide) (he : starEach (e :: es) X.env = (false, eval e X.env) :: starEach es X.env := by rfl) (hpl : (backTo pos (starEach es X.env)).any (·.1) = false := by rfl) :
   PE X (.Call (.Name x p) (e :: es) [] pos) (tCall sp dvs E t) := by
 intro pins s σ H Q I h
 refine wpAny_Call_Name_kw (ld_glob I hg hm ?_ hdb)
 refine PySem.W.callWith_K (h₀ := X.base) I.ok.mod.kin hk (thn (ha pos pins s σ H _ I h) fun us s1 ⟨vs, H1, I1, r, q⟩ => ⟨I1.kIn, ?_⟩) he hpl
 exact run_fn F hr hb hd hx I1 r q
structure Mk (K : PySem.W.Frag) (C f : Addr) : Prop where
 makes : PySem.W.makesIn K C = true
 init : PySem.W.findIn K (.ref C) "__init__" = some (some (.ref f))
 fn : PySem.W.isFn K (.ref f) = true
 kp : PySem.W.keepIn K (.ref C) = true
theorem run_make {pins : List (Addr × Obj)} {σ : St} {H : Hp} {s : Shared} {Q : VK} {us : List Value} {vs : List V} (M : Mk X.K C f) (F : FnOk X.prog X.w X.K X.mg X.base CX k f fd ps sp) (hr : Room (k + 1) X.A) (hb : Binds X.K fd ps ds) (hd : Vals dvs ds)
   (hx : Passes CX X E) (I : Inv X pins σ H s) (r : Vals vs us)
   (h : ∀ x dx, H x = none → H dx = none → dx ≠ x → sp (.ref x :: (vs ++ dvs)) (upd (upd H dx (.own x)) x (.ins C dx [])) (fun v H2 => v = .non ∧ Q (.ref x) H2) E) :
   wpAny (model X.prog X.w) X.A (call (.ref C) us) (EP X pins σ Q) X.xe s := by
 have hq := h (s.heap.objs.size + 1) s.heap.objs.size (I.hok.fresh (Nat.le_succ _)) (I.hok.fresh (Nat.le_refl _)) (Nat.ne_of_lt (Nat.lt_succ_self _))
 have I2 := Inv.made (C := C) I
 have r2 : Vals (V.ref (s.heap.objs.size + 1) :: (vs ++ dvs)) (Value.ref (s.heap.objs.size + 1) :: (us ++ ds)) := .cons rfl (r.append hd)
 have hl : (Value.ref (s.heap.objs.size + 1) :: us ++ ds).length = ps.length := by
   have e := r2.length
   rw [F.len _ _ _ _ hq] at e
   exact e.symm
 refine wpAny_call (make_map (f := f) I.kIn M.makes M.init (beq_iff_eq.mp M.fn) (codeAny_mono (F.run _ X.stack _ _ ⟨Value.ref (s.heap.objs.size + 1) :: us, []⟩ (Value.ref (s.heap.objs.size + 1) :: (us ++ ds)) _ _ E (hr.make C us [])
   (I2.env0.make C us []) (hb _ (Value.ref (s.heap.objs.size + 1) :: us) I2.kIn hl) r2 hq) fun r s' hq' => ?_))
 cases r with
 | error e => exact hx pins σ _ _ e s' I2 hq'
 | ok fl =>
   cases fl with
   | ret u =>
     obtain ⟨v, H', I3, rv, ev, q3⟩ := I2.after hq'
     subst ev
     exact ⟨rv, ⟨V.ref (s.heap.objs.size + 1), H', I3, rfl, q3⟩⟩
   | next => exact False.elim hq'
   | brk => exact False.elim hq'
   | cont => exact False.elim hq'
theorem pe_make (M : Mk X.K C f) (F : FnOk X.prog X.w X.K X.mg X.base CX k f fd ps sp) (hr : Room (k + 1) X.A) (hg : Gl X x) (hm : X.mg x = some (.ref C)) (hb : Binds X.K fd ps ds) (hd : Vals dvs ds) (hx : Passes CX X E)
   (ha : PA X (e :: es) t) (hdb : (x == ("__debug__" : Str)) = false := by decide) (he : starEach (e :: es) X.env = (false, eval e X.env) :: starEach es X.env := by rfl) (hpl : (backTo pos (starEach es X.env)).any (·.1) = false := by rfl) :
   PE X (.Call (.Name x p) (e :: es) [] pos) (tMake C sp dvs E t) := by
 intro pins s σ H Q I h
 refine wpAny_Call_Name_kw (ld_glob I hg hm ?_ hdb)
 refine PySem.W.callWith_K (h₀ := X.base) I.ok.mod.kin M.kp (thn (ha pos pins s σ H _ I h) fun us s1 ⟨vs, H1, I1, r, q⟩ => ⟨I1.kIn, ?_⟩) he hpl
 exact run_make M F hr hb hd hx I1 r q
end
section
variable {X : Cx} {CX : CXT} {k : Nat} {f C : Addr} {fd : FuncData} {ps ks : List Str} {sp : Sp} {E : XK} {x m : Str} {p pos apos kpos : Pos} {e o : Expr} {es : List Expr} {kws : List Keyword} {te ta : TE} {t tk : TA} {nm : Option Str}
variable {g : List Value → List Value → List Value} {gV : List V → List V → List V}
end
structure FnScope (N P : List Str) (sc : Scope) : Prop where
 kind : sc.kind = .function
 co : sc.isCoroutine = false
 gen : sc.isGenerator = false
 nd : N.Nodup
 pre : N.take P.length = P
 par : ∀ x ∈ P, sc.names.lookup x = some .local ∨ sc.names.lookup x = some .cell
 nofree : ∀ y ∈ sc.names, y.2 ≠ .free
theorem bindL_out {kindOf : Str → Option NameKind} {x : Str} : ∀ {binds : List (Str × Value)} {m : Str → Option Value}, (∀ v, (x, v) ∉ binds) → bindL kindOf binds m x = m x
 | [], _, _ => rfl
 | (n, v) :: r, m, h => by
   unfold bindL
   rw [bindL_out fun w hw => h w (List.mem_cons_of_mem _ hw)]
   split
   · have : x ≠ n := by rintro rfl; exact h v List.mem_cons_self
     simp [this]
   · rfl
theorem bindC_out {kindOf : Str → Option NameKind} {x : Str} : ∀ {binds : List (Str × Value)} {m : Str → Option Value}, (∀ v, (x, v) ∉ binds) → bindC kindOf binds m x = m x
 | [], _, _ => rfl
 | (n, v) :: r, m, h => by
   unfold bindC
   rw [bindC_out fun w hw => h w (List.mem_cons_of_mem _ hw)]
   split
   · rfl
   · have : x ≠ n := by rintro rfl; exact h v List.mem_cons_self
     simp [this]
theorem bindL_get {kindOf : Str → Option NameKind} {x : Str} {v : Value} : ∀ {P : List Str} {vs : List Value} {i : Nat} {m : Str → Option Value}, P.Nodup → P[i]? = some x → vs[i]? = some v → kindOf x = some .local →
   bindL kindOf (P.zip vs) m x = some v
 | [], _, _, _, _, h, _, _ => by simp at h
 | _ :: _, [], _, _, _, _, h, _ => by simp at h
 | p :: P, w :: vs, 0, m, nd, h1, h2, hk => by
   simp at h1 h2; subst h1; subst h2
   show bindL kindOf ((p, w) :: P.zip vs) m p = _
   unfold bindL
   rw [bindL_out fun v hv => (List.nodup_cons.mp nd).1 (List.of_mem_zip hv).1, if_pos hk]
   simp
 | p :: P, w :: vs, i + 1, m, nd, h1, h2, hk => by
   show bindL kindOf ((p, w) :: P.zip vs) m x = _
   unfold bindL
   exact bindL_get (i := i) (List.nodup_cons.mp nd).2 (by simpa using h1) (by simpa using h2) hk
theorem bindC_get {kindOf : Str → Option NameKind} {x : Str} {v : Value} : ∀ {P : List Str} {vs : List Value} {i : Nat} {m : Str → Option Value}, P.Nodup → P[i]? = some x → vs[i]? = some v → kindOf x ≠ some .local →
   bindC kindOf (P.zip vs) m x = some v
 | [], _, _, _, _, h, _, _ => by simp at h
 | _ :: _, [], _, _, _, _, h, _ => by simp at h
 | p :: P, w :: vs, 0, m, nd, h1, h2, hk => by
   simp at h1 h2; subst h1; subst h2
   show bindC kindOf ((p, w) :: P.zip vs) m p = _
   unfold bindC
   rw [bindC_out fun v hv => (List.nodup_cons.mp nd).1 (List.of_mem_zip hv).1, if_neg hk]
   simp
 | p :: P, w :: vs, i + 1, m, nd, h1, h2, hk => by
   show bindC kindOf ((p, w) :: P.zip vs) m x = _
   unfold bindC
   exact bindC_get (i := i) (List.nodup_cons.mp nd).2 (by simpa using h1) (by simpa using h2) hk
def start (N : List Str) (vs : List V) : St := vs.map some ++ List.replicate (N.length - vs.length) none
def cxOf (CX : CXT) (P : Program) (w : World) (K : PySem.W.Frag) (mg : Str → Option Value) (base : Heap) (N : List Str) (qual : Str) (scope : Scope) (f : Addr) (cd : Value) (A : Around) (outer : List Env) (s : Shared) (H : Hp) (E : XK) : Cx where
 prog := P
 w := w
 K := K
 mg := mg
 base := base
 A := A.deeper (envOfC qual scope s.heap.objs.size f cd)
 N := N
 s₀ := s
 H₀ := H
 env := envOfC qual scope s.heap.objs.size f cd
 outer := outer
 stack := envOfC qual scope s.heap.objs.size f cd :: outer
 ex := []
 calm := true
 fn := fun _ => true
 pn := []
 xe := fun e s' => wpAny (model P w) (A.deeper (envOfC qual scope s.heap.objs.size f cd)) (leaving (envOfC qual scope s.heap.objs.size f cd) e) (fun _ s'' => CX outer H s E e s'') (fun e' s'' => CX outer H s E e' s'') s'
theorem cell_has {sc : Scope} {n : Nat} {x : Str} (h : sc.names.lookup x = some .cell) : ∃ c, (cellsFrom n sc.names []).lookup x = some c := by
 have q := PySem.W.cellsFrom_some sc.names n [] (.inl h)
 exact Option.isSome_iff_exists.mp q
theorem inv_start {CX : CXT} {P : Program} {w : World} {K : PySem.W.Frag} {mg : Str → Option Value} {base : Heap} {N ps : List Str} {qual : Str} {scope : Scope} {f : Addr} {cd : Value} {A : Around} {outer : List Env} {s s1 : Shared} {H : Hp} {E : XK} {us : List Value} {vs : List V}
   (S : FnScope N ps scope) (hd : A.handled = none) (e0 : Env0 P w K mg base A outer s H) (hl : vs.length = ps.length) (r : Vals vs us)
   (x : InCallC s s.heap.objs.size (bindL (envOfC qual scope s.heap.objs.size f cd).kindOf (ps.zip us) fun _ => none) (cellsFrom (s.heap.objs.size + 1) scope.names []) (bindC (envOfC qual scope s.heap.objs.size f cd).kindOf (ps.zip us) fun _ => none) s1) :
   Inv (cxOf CX P w K mg base N qual scope f cd A outer s H E) [] (start N vs) H s1 := by
 have hpl : ps.length ≤ N.length := by have := congrArg List.length S.pre; rw [List.length_take] at this; omega
 obtain ⟨h1, tk, rfl, hk⟩ := x.done
 have noA : ∀ b : Addr, b ∉ (cxOf CX P w K mg base N qual scope f cd A outer s H E).ex := fun b z => absurd (show b ∈ ([] : List Addr) from z) (by simp)
 refine ⟨⟨e0.mod, S.kind, rfl, rfl, Nat.le_refl _, fun y z c h1 h2 => ?_, fun y hy => ?_, fun y c _ h => ?_, fun _ => hd, Around.frames_deeper e0.frames, .inr ⟨rfl, rfl⟩, fun b z => absurd z (noA b), e0.bs, e0.bsz, fun b _ _ => noA b, fun b z => absurd z (noA b), e0.funs, e0.frf⟩,
   rfl, e0.bare, Un.kept hk, ⟨_, x.toInCall.ns, fun i y v h1 h2 h3 => ?_⟩, fun y c h => ⟨_, x.cell y c h⟩, e0.hok.fresh (Nat.le_refl _), fun y c h => ?_, fun p hp => absurd (show p ∈ ([] : List (Addr × Obj)) from hp) (by simp), e0.hok.kept hk, ?_⟩
 · exact name_of_addr x.apart (PySem.mem_of_lookup h1) (PySem.mem_of_lookup h2)
 · have hy : scope.names.lookup y = some .cell ∨ scope.names.lookup y = some .free := hy
   rcases hy with hy | hy
   · exact cell_has hy
   · exact absurd rfl (S.nofree _ (PySem.mem_of_lookup hy))
 · exact Nat.le_of_lt (x.above y c (PySem.mem_of_lookup h))
 · have hi : i < vs.length := by
     unfold start at h2
     by_cases hi : i < vs.length
     · exact hi
     · rw [List.getElem?_append_right (by simpa using hi)] at h2
       rw [List.getElem?_replicate] at h2
       split at h2 <;> cases h2
   have ha : vs[i]? = some v := by
     unfold start at h2
     rw [List.getElem?_append_left (by simpa using hi), List.getElem?_map] at h2
     cases e : vs[i]? with
     | none => rw [e] at h2; cases h2
     | some a => rw [e] at h2; cases h2; rfl
   obtain ⟨u, hu, rv⟩ := r.get ha
   have hp : ps[i]? = some y := by
     rw [← S.pre, List.getElem?_take_of_lt (by omega)]; exact h1
   have ndP : ps.Nodup := by rw [← S.pre]; exact S.nd.sublist (List.take_sublist _ _)
   refine ⟨u, rv, ?_⟩
   rcases S.par y (List.mem_of_getElem? hp) with k | k
   · exact .inl ⟨k, bindL_get ndP hp hu k⟩
   · obtain ⟨c, e⟩ := cell_has (n := s.heap.objs.size + 1) k
     refine .inr ⟨.inl k, c, e, ?_⟩
     have q := x.cell y c e
     rw [bindC_get ndP hp hu (by show scope.names.lookup y ≠ _; rw [k]; decide)] at q
     exact q
 · exact e0.hok.fresh (Nat.le_of_lt (x.above y c (PySem.mem_of_lookup h)))
 · unfold start
   show _ = N.length
   rw [List.length_append, List.length_map, List.length_replicate]
   omega
theorem fn_of {CX : CXT} {P : Program} {w : World} {K : PySem.W.Frag} {mg : Str → Option Value} {base : Heap} {k : Nat} {f : Addr} {name qual : Str} {params : Arguments} {body : List Stmt} {scope : Scope} {dV kV doc pm cdv ct oc : Value} {an od : Option Addr}
   {osl : Array (Option Value)} {N ps : List Str} {sp : Sp} (lk : K.lookup f = some ⟨oc, od, .func (PySem.W.fnOf name qual params body scope dV kV doc pm an cdv ct), osl⟩) (hcd : PySem.W.codeIn K cdv qual = true) (S : FnScope N ps scope)
   (len : ∀ vs H Q E, sp vs H Q E → vs.length = ps.length)
   (hbody : ∀ (A : Around) (outer : List Env) (s : Shared) (H : Hp) (vs : List V) (Q : VK) (E : XK), Room k (A.deeper (envOfC qual scope s.heap.objs.size f cdv)) → sp vs H Q E →
     ∃ t, PSs (cxOf CX P w K mg base N qual scope f cdv A outer s H E) body t ∧ t { nx := fun _ H' => Q .non H', rt := Q } (start N vs) H) :
   FnOk P w K mg base CX (k + 1) f (PySem.W.fnOf name qual params body scope dV kV doc pm an cdv ct) ps sp := by
 refine ⟨len, fun A outer s H args us vs Q E hr e0 hb r hsp => ?_⟩
 have hl := len _ _ _ _ hsp
 have KX : K.In s.heap := e0.mod.kin.keeps fun b o e => (e0.bs b o e).1
 have lim : s.heap.NoLimit := e0.mod.nolimit.keeps fun b o e => (e0.bs b o e).1
 have hkind : ∀ y ∈ ps.zip us, scope.names.lookup y.1 = some .local ∨ (scope.names.lookup y.1 = some .cell ∧ ((cellsFrom (s.heap.objs.size + 1) scope.names []).lookup y.1).isSome = true) := fun ⟨n, v⟩ hy => by
   rcases S.par n (List.of_mem_zip hy).1 with q | q
   · exact .inl q
   · exact .inr ⟨q, PySem.W.cellsFrom_some _ _ _ (.inl q)⟩
 refine codeAny_call_function hr.depth (KX _ _ lk) rfl S.co S.gen rfl (PySem.W.codeRec_of KX hcd) (hb _ _ _ _ ?_)
 refine wpAny_newFunctionEnv_cells S.kind hkind fun env he s1 x => ?_
 subst he
 refine ⟨lim.keeps x.toInCall.keep, codeAny_func ?_⟩
 obtain ⟨t, ht, hq⟩ := hbody A outer s H vs Q E (hr.deeper _) hsp
 have I : Inv (cxOf CX P w K mg base N qual scope f cdv A outer s H E) [] (start N vs) H s1 := inv_start S hr.hd e0 hl r x
 refine wpAny_mono (ht [] s1 (start N vs) H _ I hq) (fun fl s' hs => ?_) fun e s' hs => hs
 have fin : ∀ {σ' : St} {H' : Hp} {v : V} {u : Value}, Inv (cxOf CX P w K mg base N qual scope f cdv A outer s H E) [] σ' H' s' → RelV v u → Q v H' → CE outer P w H s Q u s' :=
   fun {σ' H' v u} J rv q => ⟨v, H', J.os, J.bare, J.base, J.hok, rv, q⟩
 cases fl with
 | ret u =>
   obtain ⟨v, σ', H', J, rv, q⟩ := hs
   exact fin J rv q
 | next =>
   obtain ⟨σ', H', J, q⟩ := hs
   exact fin (v := V.non) (u := Value.none) J rfl q
 | brk =>
   obtain ⟨_, _, _, q⟩ := hs
   exact False.elim q
 | cont =>
   obtain ⟨_, _, _, q⟩ := hs
   exact False.elim q
end L2
namespace L2
open PySem PySem.Spec PyProof.Rows
section
variable {X : Cx} {x : Str} {p pos : Pos} {e : Expr} {es : List Expr} {t : TA} {id T : String} {r : List V → Hp → VK → Prop}
def tCB (r : List V → Hp → VK → Prop) (t : TA) : TE := fun σ H Q => t σ H fun vs H1 => r vs H1 Q
theorem pe_callB (hc : CallR X (.builtin id) r) (hg : Gl X x) (hm : X.mg x = none) (hv : bootBuiltins x = some (.builtin id)) (ha : PA X (e :: es) t) (hn : x ≠ "__name__" := by decide) (hdb : (x == ("__debug__" : Str)) = false := by decide)
   (he : starEach (e :: es) X.env = (false, eval e X.env) :: starEach es X.env := by rfl) (hpl : (backTo pos (starEach es X.env)).any (·.1) = false := by rfl) : PE X (.Call (.Name x p) (e :: es) [] pos) (tCB r t) := by
 intro pins s σ H Q I h
 refine wpAny_Call_Name_kw (ld_blt I hg hm hv ?_ hn hdb)
 exact PyProof.Rows.callWith_builtin1 (thn (ha pos pins s σ H _ I h) fun us s1 ⟨vs, H1, I1, r1, q1⟩ => hc pins s1 σ H1 vs us Q I1 r1 q1) he hpl
theorem pe_callTy (hc : CallR X (.type T) r) (hg : Gl X x) (hm : X.mg x = none) (hv : bootBuiltins x = some (.type T)) (ha : PA X (e :: es) t) (hn : x ≠ "__name__" := by decide) (hdb : (x == ("__debug__" : Str)) = false := by decide)
   (he : starEach (e :: es) X.env = (false, eval e X.env) :: starEach es X.env := by rfl) (hpl : (backTo pos (starEach es X.env)).any (·.1) = false := by rfl) : PE X (.Call (.Name x p) (e :: es) [] pos) (tCB r t) := by
 intro pins s σ H Q I h
 refine wpAny_Call_Name_kw (ld_blt I hg hm hv ?_ hn hdb)
 exact PyProof.Rows.callWith_type1 (thn (ha pos pins s σ H _ I h) fun us s1 ⟨vs, H1, I1, r1, q1⟩ => hc pins s1 σ H1 vs us Q I1 r1 q1) he hpl
end
end L2
namespace HT
open PySem PyProof.Rows
section
open PySem.SeqAt
open PySem.AutoSeq1 (wpAny_loadPart')
open PySem.MeetsSeq PySem.MeetsSeq2 PySem.MeetsSeq3
end
section
variable {prog : Program} {w : World} {A : Around} {E : Value → Shared → Prop} {s : Shared}
theorem cat_tup {t b : Addr} {vs ws : List Value} {Q : Value → Shared → Prop} (ht : IsTup s.heap t vs.toArray) (hb : IsTup s.heap b ws.toArray) (hv : vs ≠ [])
   (h1 : ws = [] → Q (.ref t) s) (h2 : ws ≠ [] → Q (.ref s.heap.objs.size) { s with heap := s.heap.push { cls := .type "tuple", data := .seq (vs ++ ws).toArray } })
   (hsz : vs.length + ws.length ≤ sizeLine) : wpAny (model prog w) A (binaryOp .Add (.ref t) (.ref b)) Q E s := by
 obtain ⟨⟨cls, dd, data, sl⟩, ho, hc, n, hd⟩ := id ht
 obtain ⟨⟨cls2, dd2, data2, sl2⟩, ho2, hc2, n2, hd2⟩ := id hb
 simp only at hc hd hc2 hd2
 subst hc hd hc2 hd2
 have e : vs.toArray ++ ws.toArray = (vs ++ ws).toArray := by simp
 by_cases hw : ws = []
 · exact concat_meets ⟨_, ho, rfl⟩ ⟨_, ho2, rfl⟩ noFill_tuple_add seq_tuple_add PySem.F.slot_tuple_add PySem.F.entry_tuple_add (PySem.F.args_tuple_add_2 _ _)
     (tuple_addW1 t b vs.toArray ws.toArray n n2 dd dd2 sl sl2 (by simpa using hv) (by simp [hw])) ⟨ho, ho2, h1 hw⟩
 · refine concat_meets ⟨_, ho, rfl⟩ ⟨_, ho2, rfl⟩ noFill_tuple_add seq_tuple_add PySem.F.slot_tuple_add PySem.F.entry_tuple_add (PySem.F.args_tuple_add_2 _ _)
     (tuple_addW2 t b vs.toArray ws.toArray n n2 dd dd2 sl sl2 (by simpa using hv) (by simpa using hw) (by rw [List.size_toArray, List.size_toArray]; exact hsz)) ⟨ho, ho2, ?_⟩
   rw [e]
   exact h2 hw
def sIx (n d : Nat) : Option Int → Nat
 | none => d
 | some v => if v < 0 then (v + (n : Int)).toNat else min v.toNat n
theorem sIx_nat (n d k : Nat) : sIx n d (some (k : Int)) = min k n := by
 show (if (k : Int) < 0 then ((k : Int) + (n : Int)).toNat else min (k : Int).toNat n) = min k n
 rw [if_neg (by omega), Int.toNat_natCast]
theorem sIx_le (n d : Nat) (hd : d ≤ n) (o : Option Int) : sIx n d o ≤ n := by
 cases o with
 | none => exact hd
 | some v =>
   show (if v < 0 then (v + (n : Int)).toNat else min v.toNat n) ≤ n
   by_cases hv : v < 0
   · rw [if_pos hv]; omega
   · rw [if_neg hv]; exact Nat.min_le_right _ _
theorem clip_eq (v : Int) (n d : Nat) : (if v < 0 then max (v + (n : Int)) 0 else min v (n : Int)) = ((sIx n d (some v) : Nat) : Int) := by
 show (if v < 0 then max (v + (n : Int)) 0 else min v (n : Int)) = (((if v < 0 then (v + (n : Int)).toNat else min v.toNat n) : Nat) : Int)
 by_cases hv : v < 0
 · simp only [if_pos hv]; omega
 · simp only [if_neg hv]; omega
theorem adjust_gen (lo hi : Option Int) (n : Nat) : Builtin.Slice.sliceAdjust lo hi 1 (n : Int) = (((sIx n 0 lo : Nat) : Int), ((sIx n n hi : Nat) : Int)) := by
 have h1 : ¬ ((1 : Int) < 0) := by omega
 unfold Builtin.Slice.sliceAdjust
 simp only [h1, if_false]
 refine Prod.ext ?_ ?_
 · cases lo with
   | none => rfl
   | some v => exact clip_eq v n 0
 · cases hi with
   | none => rfl
   | some v => exact clip_eq v n n
theorem places_gen (i j : Nat) : Builtin.Slice.slicePlaces (i : Int) (j : Int) 1 = j - i := by
 unfold Builtin.Slice.slicePlaces
 have h1 : (1 : Int) > 0 := by omega
 simp only [h1, if_true, Int.ediv_one]
 split <;> omega
theorem slicePart_ {v : Value} {o : Option Int} {Q : Option Int → Shared → Prop} (p : IsPart v o) (h : Q o s) : wpAny (model prog w) A (Builtin.Slice.slicePartIndex v) Q E s := by
 cases p with
 | none => exact slicePart_none h
 | int i t => exact slicePart_int h
theorem sliceApplied_gen {sl : Addr} {vl vu : Value} {lo hi : Option Int} {n : Nat} {Q : Int × Int × Nat → Shared → Prop} (hs : s.heap.IsSliceOf sl vl vu .none) (pl : IsPart vl lo) (pu : IsPart vu hi)
   (h : Q (((sIx n 0 lo : Nat) : Int), 1, sIx n n hi - sIx n 0 lo) s) : wpAny (model prog w) A (Builtin.Slice.sliceApplied (.ref sl) (pure (n : Int))) Q E s := by
 obtain ⟨os, hos, hcs, hds⟩ := id hs
 unfold Builtin.Slice.sliceApplied Builtin.Slice.sliceFields
 refine wpAny_bind (wpAny_bind (wpAny_field hos hds (x := vl) rfl (wpAny_bind (wpAny_field hos hds (x := vu) rfl (wpAny_bind (wpAny_field hos hds (x := .none) rfl (wpAny_pure ?_)))))))
 refine wpAny_bind (slicePart_none ?_)
 show wpAny _ _ (if ((1 : Int) == 0) = true then _ else _) _ _ s
 rw [if_neg (by decide)]
 refine wpAny_bind (slicePart_ pl (wpAny_bind (slicePart_ pu (wpAny_bind (wpAny_pure ?_)))))
 show wpAny _ _ (match Builtin.Slice.sliceAdjust lo hi 1 (n : Int) with | (lo, hi) => pure (lo, (1 : Int), Builtin.Slice.slicePlaces lo hi 1)) _ _ s
 rw [adjust_gen lo hi n]
 show wpAny _ _ (pure (((sIx n 0 lo : Nat) : Int), (1 : Int), Builtin.Slice.slicePlaces ((sIx n 0 lo : Nat) : Int) ((sIx n n hi : Nat) : Int) 1)) _ _ s
 rw [places_gen]
 exact wpAny_pure h
theorem pick_gen (xs : Array Value) (i k : Nat) : ((List.range k).filterMap fun (m : Nat) => xs[((i : Int) + (m : Int) * 1).toNat]?).toArray = ((xs.toList.drop i).take k).toArray := by
 have e : (fun (m : Nat) => xs[((i : Int) + (m : Int) * 1).toNat]?) = fun m => xs[i + m]? := by
   funext m
   have : ((i : Int) + (m : Int) * 1).toNat = i + m := by omega
   rw [this]
 rw [e]
 have := pick_run xs i k
 rw [List.filterMap_map] at this
 have e2 : ((fun x => xs[x]?) ∘ fun x => i + x) = fun m => xs[i + m]? := rfl
 rw [e2] at this
 rw [this]
theorem getItem_tuple_cut {t sl : Addr} {items : Array Value} {vl vu : Value} {lo hi : Option Int} {Q : Value → Shared → Prop} (ht : IsTup s.heap t items) (hs : s.heap.IsSliceOf sl vl vu .none) (pl : IsPart vl lo) (pu : IsPart vu hi)
   (hw : ¬ (sIx items.size 0 lo = 0 ∧ sIx items.size items.size hi = items.size))
   (h : Q (.ref s.heap.objs.size) { s with heap := s.heap.push { cls := .type "tuple", data := .seq ((items.toList.drop (sIx items.size 0 lo)).take (sIx items.size items.size hi - sIx items.size 0 lo)).toArray } })
   (hsz : items.size ≤ sizeLine) : wpAny (model prog w) A (getItem (.ref t) (.ref sl)) Q E s := by
 have htake : sizeOk (.seq ((items.toList.drop (sIx items.size 0 lo)).take (sIx items.size items.size hi - sIx items.size 0 lo)).toArray) := by
   show ((items.toList.drop (sIx items.size 0 lo)).take (sIx items.size items.size hi - sIx items.size 0 lo)).toArray.size ≤ sizeLine
   rw [List.size_toArray, List.length_take, List.length_drop, Array.length_toList]
   omega
 have hj : sIx items.size items.size hi ≤ items.size := sIx_le _ _ (Nat.le_refl _) hi
 obtain ⟨os, hos, hcs, hds⟩ := id hs
 have hTs : s.TypeIs (.ref sl) "slice" := ⟨os, hos, hcs⟩
 unfold getItem
 try with_reducible refine wpAny_holding ?_
 first | refine wpAny_bind (wpAny_pure ?_) | skip
 refine wpAny_bind (wpAny_sequenceKey ht.typeIs (by decide) ?_)
 refine wpAny_bind (wpAny_callSpecial?_slot (name := Str.ofString "__getitem__") ht.typeIs PyProof.Rows.slot_tuple_getitem
   (wpAny_call_entry PyProof.Rows.slot_tuple_getitem ht.typeIs entry_tuple_getitem ?_ (args_tuple_getitem _ _)))
 show wpAny _ _ (Builtin.Tuple.tupleItemsOf (.ref t) >>= _) _ _ s
 refine wpAny_bind (tupleItemsOf_ ht ?_)
 refine wpAny_bind (wpAny_typeOf hTs ?_)
 rw [if_pos (by decide)]
 refine wpAny_bind (sliceApplied_gen hs pl pu ?_)
 have hno : ¬ ((((sIx items.size 0 lo : Nat) : Int) == 0 && (1 : Int) == 1 && (sIx items.size items.size hi - sIx items.size 0 lo) == items.size) = true) := by
   intro q
   rw [Bool.and_eq_true, Bool.and_eq_true] at q
   have q1 : ((sIx items.size 0 lo : Nat) : Int) = 0 := eq_of_beq q.1.1
   have q2 : sIx items.size items.size hi - sIx items.size 0 lo = items.size := eq_of_beq q.2
   exact hw ⟨by omega, by omega⟩
 show wpAny _ _ (if (((sIx items.size 0 lo : Nat) : Int) == 0 && (1 : Int) == 1 && (sIx items.size items.size hi - sIx items.size 0 lo) == items.size) = true then _ else _) _ _ s
 rw [if_neg hno, pick_gen]
 first
   | exact wpAny_bind (m := Builtin.Tuple.tupleExact _) (wpAny_newObj_type (wpAny_pure ⟨_, rfl, wpAny_pure h⟩) htake)
   | exact wpAny_bind (m := Builtin.Tuple.tupleExact _) (wpAny_newObj_type (wpAny_bind (wpAny_pure (wpAny_pure ⟨_, rfl, wpAny_pure h⟩))) htake)
   | exact wpAny_bind (wpAny_bind (m := Builtin.Tuple.tupleExact _) (wpAny_newObj_type (wpAny_pure (wpAny_pure ⟨_, rfl, wpAny_pure h⟩)) htake))
   | exact wpAny_bind (wpAny_bind (m := Builtin.Tuple.tupleExact _) (wpAny_newObj_type (wpAny_pure ⟨_, rfl, wpAny_pure h⟩) htake))
end
end HT
namespace L2
open PySem PySem.Spec PyProof.Rows
abbrev TO := St → Hp → (Option Int → Hp → Prop) → Prop
def PO (X : Cx) (e : Option Expr) (t : TO) : Prop :=
 ∀ (pins : List (Addr × Obj)) (s : Shared) (σ : St) (H : Hp) (Q : Option Int → Hp → Prop), Inv X pins σ H s → t σ H Q →
   wpAny (model X.prog X.w) X.A (evalPart e X.env) (fun u s' => ∃ o H', Inv X pins σ H' s' ∧ IsPart u o ∧ Q o H') X.xe s
def tNoPart : TO := fun _ H Q => Q none H
def tPart (t : TE) : TO := fun σ H Q => t σ H fun x H1 => ∃ i, x = .int i ∧ Q (some i) H1
section
variable {X : Cx} {e : Expr} {te : TE} {lo hi : Option Expr} {tl th : TO} {pos p2 : Pos}
theorem po_none : PO X none tNoPart := by
 intro pins s σ H Q I h
 rw [evalPart_none]
 exact wpAny_pure ⟨none, H, I, .none, h⟩
theorem po_some (h : PE X e te) : PO X (some e) (tPart te) := by
 intro pins s σ H Q I hw
 rw [evalPart_some]
 refine thn (h pins s σ H _ I hw) fun u s1 ⟨x, H1, I1, r1, q1⟩ => ?_
 obtain ⟨i, rfl, q⟩ := q1
 obtain ⟨t, rfl⟩ := r1
 exact ⟨some i, H1, I1, .int i t, q⟩
def SlR (X : Cx) (r : V → Option Int → Option Int → Hp → VK → Prop) : Prop :=
 ∀ (pins : List (Addr × Obj)) (s : Shared) (σ : St) (H : Hp) (x : V) (v vl vu : Value) (lo hi : Option Int) (sl : Addr) (Q : VK), Inv X pins σ H s → RelV x v → s.heap.IsSliceOf sl vl vu .none → IsPart vl lo → IsPart vu hi → r x lo hi H Q →
   ∃ T id, typeLookup (.type T) "__getitem__" = pure (some (.builtin id)) ∧ s.TypeIs v T ∧ wpAny (model X.prog X.w) X.A (getItem v (.ref sl)) (EP X pins σ Q) X.xe s
theorem SlR.or {r r' : V → Option Int → Option Int → Hp → VK → Prop} (h : SlR X r) (h' : SlR X r') : SlR X (fun x lo hi H Q => r x lo hi H Q ∨ r' x lo hi H Q) := by
 intro pins s σ H x v vl vu lo hi sl Q I rx hs pl pu q
 rcases q with q | q
 · exact h pins s σ H x v vl vu lo hi sl Q I rx hs pl pu q
 · exact h' pins s σ H x v vl vu lo hi sl Q I rx hs pl pu q
def tSl (r : V → Option Int → Option Int → Hp → VK → Prop) (te : TE) (tl th : TO) : TE := fun σ H Q => te σ H fun x H1 => tl σ H1 fun l H2 => th σ H2 fun u H3 => r x l u H3 Q
theorem pe_slice {r : V → Option Int → Option Int → Hp → VK → Prop} (hr : SlR X r) (he : PE X e te) (hl : PO X lo tl) (hu : PO X hi th) : PE X (.Subscript e (.Slice lo hi none p2) pos) (tSl r te tl th) := by
 intro pins s σ H Q I h
 refine Subscript_ (thn (he pins s σ H _ I h) fun v s1 ⟨x, H1, I1, r1, q1⟩ => ?_)
 refine wpAny_Slice (thn (hl pins s1 σ H1 _ I1 q1) fun vl s2 ⟨l, H2, I2, pl, q2⟩ => thn (hu pins s2 σ H2 _ I2 q2) fun vu s3 ⟨u, H3, I3, pu, q3⟩ => ?_)
 rw [evalPart_none]
 refine wpAny_pure ?_
 have I4 : Inv X pins σ H3 { s3 with heap := s3.heap.push { cls := .type "slice", data := .fields #[vl, vu, .none] } } := I3.kept (t' := s3.toks) fun b ob q => Heap.get?_push_of_some _ q
 obtain ⟨T, id, hT, ht, hg⟩ := hr pins { s3 with heap := s3.heap.push { cls := .type "slice", data := .fields #[vl, vu, .none] } } σ H3 x v vl vu l u s3.heap.objs.size Q I4 r1 (Heap.IsSliceOf.new ..) pl pu q3
 show wpAny (model X.prog X.w) X.A (subscriptTail e (.Slice lo hi none p2) v (.ref s3.heap.objs.size)) (EP X pins σ Q) X.xe { s3 with heap := s3.heap.push { cls := .type "slice", data := .fields #[vl, vu, .none] } }
 exact tail_any (ops := [.ref s3.heap.objs.size, v]) ht hT hg (by with_unfolding_all rfl)
def cutV (xs : List V) (lo hi : Option Int) : List V := (xs.drop (HT.sIx xs.length 0 lo)).take (HT.sIx xs.length xs.length hi - HT.sIx xs.length 0 lo)
theorem cutV_length (xs : List V) (lo hi : Option Int) : (cutV xs lo hi).length ≤ xs.length := by
 unfold cutV
 rw [List.length_take, List.length_drop]
 omega
def rSlT (K : PySem.W.Frag) : V → Option Int → Option Int → Hp → VK → Prop := fun x lo hi H Q => ∃ a xs, x = .ref a ∧ SqT K H a xs ∧
 ¬ (HT.sIx xs.length 0 lo = 0 ∧ HT.sIx xs.length xs.length hi = xs.length) ∧ ∀ p, H p = none → Q (.ref p) (upd H p (.tup (cutV xs lo hi)))
theorem sl_tup : SlR X (rSlT X.K) := by
 intro pins s σ H x v vl vu lo hi sl Q I rx hs pl pu h
 obtain ⟨a, xs, rfl, hx, hw, q⟩ := h
 cases rx
 obtain ⟨its, r, ht, hz⟩ := I.tuple hx
 have hlen : its.toArray.size = xs.length := by rw [List.size_toArray]; exact r.length.symm
 refine ⟨"tuple", _, PyProof.Rows.slot_tuple_getitem.lookup, ht.typeIs, ?_⟩
 refine HT.getItem_tuple_cut ht hs pl pu (by rw [hlen]; exact hw) ?_ (by rw [hlen]; exact hz)
 rw [hlen]
 refine ⟨.ref s.heap.objs.size, _, I.laid (t' := s.toks) (o := .tup (cutV xs lo hi)) (fun b ob q => Heap.get?_push_of_some _ q) (Nat.le_refl _) ?_, rfl, q _ (I.hok.fresh (Nat.le_refl _))⟩
 exact ⟨Nat.le_trans (cutV_length xs lo hi) hz, _, (r.drop (HT.sIx xs.length 0 lo)).take (HT.sIx xs.length xs.length hi - HT.sIx xs.length 0 lo), IsTup.new _ _⟩
def rCatT (K : PySem.W.Frag) : R2 := fun x y H Q => ∃ a b xs ys, x = .ref a ∧ y = .ref b ∧ SqT K H a xs ∧ SqT K H b ys ∧ xs ≠ [] ∧ xs.length + ys.length ≤ sizeLine ∧
 (ys = [] → Q (.ref a) H) ∧ (ys ≠ [] → ∀ p, H p = none → Q (.ref p) (upd H p (.tup (xs ++ ys))))
theorem Vals.nil_iff {xs : List V} {us : List Value} (r : Vals xs us) : us = [] ↔ xs = [] := by
 cases r with
 | nil => simp
 | cons _ _ => simp
theorem op_catT : OpR X (binaryOp .Add) (rCatT X.K) := by
 intro pins s σ H x y v u Q I rx ry h
 obtain ⟨a, b, xs, ys, rfl, rfl, ha, hb, hx, hz, q1, q2⟩ := h
 cases rx
 cases ry
 obtain ⟨its, r1, p1, _⟩ := I.tuple ha
 obtain ⟨its2, r2, p2, _⟩ := I.tuple hb
 refine HT.cat_tup p1 p2 (fun z => hx (r1.nil_iff.mp z)) (fun z => ⟨.ref a, H, I, rfl, q1 (r2.nil_iff.mp z)⟩) (fun z => ?_) (by rw [← r1.length, ← r2.length]; exact hz)
 refine ⟨.ref s.heap.objs.size, _, I.laid (t' := s.toks) (o := .tup (xs ++ ys)) (fun b ob q => Heap.get?_push_of_some _ q) (Nat.le_refl _) ?_, rfl, q2 (fun w => z (r2.nil_iff.mpr w)) _ (I.hok.fresh (Nat.le_refl _))⟩
 exact ⟨by rw [List.length_append]; exact hz, _, r1.append r2, IsTup.new _ _⟩
end
end L2
namespace L2
open PySem PySem.Spec PyProof.Rows
def ixN (n : Nat) (i : Int) : Option Nat := if 0 ≤ i then (if i < n then some i.toNat else none) else if -(n : Int) ≤ i then some (i + n).toNat else none
def atI {α : Type} (xs : List α) (i : Int) : Option α := (ixN xs.length i).bind fun j => xs[j]?
theorem ixN_seq {n : Nat} {i : Int} {j : Nat} (h : ixN n i = some j) : seqIndex? i n = some j ∧ j < n ∧ -(n : Int) ≤ i ∧ i < n := by
 unfold ixN at h
 by_cases h0 : 0 ≤ i
 · rw [if_pos h0] at h
   by_cases h1 : i < n
   · rw [if_pos h1] at h
     have e : i.toNat = j := Option.some.inj h
     exact ⟨by rw [seqIndex_of h0 h1, e], by omega, by omega, h1⟩
   · rw [if_neg h1] at h; cases h
 · rw [if_neg h0] at h
   by_cases h1 : -(n : Int) ≤ i
   · rw [if_pos h1] at h
     have e : (i + n).toNat = j := Option.some.inj h
     exact ⟨by rw [seqIndex_neg (by omega) h1, e], by omega, h1, by omega⟩
   · rw [if_neg h1] at h; cases h
theorem atI_get {α : Type} {xs : List α} {i : Int} {v : α} (h : atI xs i = some v) : ∃ j, seqIndex? i xs.length = some j ∧ xs[j]? = some v ∧ j < xs.length ∧ -(xs.length : Int) ≤ i ∧ i < xs.length := by
 unfold atI at h
 cases e : ixN xs.length i with
 | none => rw [e] at h; cases h
 | some j =>
   rw [e] at h
   obtain ⟨h1, h2, h3, h4⟩ := ixN_seq e
   exact ⟨j, h1, h, h2, h3, h4⟩
theorem atI_nat {α : Type} {xs : List α} {j : Nat} {v : α} (h : xs[j]? = some v) : atI xs (j : Int) = some v := by
 have hj : j < xs.length := (List.getElem?_eq_some_iff.mp h).1
 have e : ixN xs.length (j : Int) = some j := by
   unfold ixN
   rw [if_pos (by omega), if_pos (by omega)]; simp
 unfold atI; rw [e]; exact h
def PlainIx (b : Expr) : Prop := ∀ o i, subscripted b false o i = operate [o, i] (getItem o i)
def IxR (X : Cx) (r : R2) : Prop :=
 ∀ (value slice : Expr) (pins : List (Addr × Obj)) (s : Shared) (σ : St) (H : Hp) (x y : V) (v u : Value) (Q : VK), Inv X pins σ H s → RelV x v → RelV y u → r x y H Q →
   subscripted slice false v u = operate [v, u] (getItem v u) → wpAny (model X.prog X.w) X.A (subscriptTail value slice v u) (EP X pins σ Q) X.xe s
def MtR (X : Cx) (id : String) (r : V → List V → Hp → VK → Prop) : Prop :=
 ∀ (pins : List (Addr × Obj)) (s : Shared) (σ : St) (H : Hp) (x : V) (xs : List V) (v : Value) (us : List Value) (Q : VK), Inv X pins σ H s → RelV x v → Vals xs us → r x xs H Q →
   wpAny (model X.prog X.w) X.A (call (.builtin id) (v :: us)) (EP X pins σ Q) X.xe s
section
variable {X : Cx} {a b : Expr} {ta tb : TE} {pos : Pos}
theorem IxR.or {r r' : R2} (h : IxR X r) (h' : IxR X r') : IxR X (fun x y H Q => r x y H Q ∨ r' x y H Q) := by
 intro value slice pins s σ H x y v u Q I rx ry q hs
 rcases q with q | q
 · exact h value slice pins s σ H x y v u Q I rx ry q hs
 · exact h' value slice pins s σ H x y v u Q I rx ry q hs
theorem pe_ix {r : R2} (hr : IxR X r) (ha : PE X a ta) (hb : PE X b tb) (hs : PlainIx b) : PE X (.Subscript a b pos) (tOp r ta tb) := by
 intro pins s σ H Q I h
 exact Subscript_ (binT ha hb I h fun v u s2 x y H2 I2 rx ry q => hr a b pins s2 σ H2 x y v u Q I2 rx ry q (hs _ _))
def rIxL (K : PySem.W.Frag) : R2 := fun x y H Q => ∃ p xs i v, x = .ref p ∧ y = .int i ∧ SqL K H p xs ∧ atI xs i = some v ∧ Q v H
def rIxT (K : PySem.W.Frag) : R2 := fun x y H Q => ∃ p xs i v, x = .ref p ∧ y = .int i ∧ SqT K H p xs ∧ atI xs i = some v ∧ Q v H
def rIxS : R2 := fun x y H Q => ∃ z i c, x = .str z ∧ y = .int i ∧ z.length ≤ sizeLine ∧ atI z.cps.toList i = some c ∧ Q (.str ⟨#[c]⟩) H
theorem ix_list : IxR X (rIxL X.K) := by
 intro value slice pins s σ H x y v u Q I rx ry h hs
 obtain ⟨p, xs, i, z, rfl, rfl, hq, he, q⟩ := h
 cases rx
 obtain ⟨t, rfl⟩ := ry
 obtain ⟨its, r, pl, hz⟩ := I.list hq
 obtain ⟨j, h1, h2, h3, h4, h5⟩ := atI_get he
 obtain ⟨w, ew, rw'⟩ := r.get h2
 have hl := r.length
 have hn := line63
 have fin : EP X pins σ Q w s := ⟨z, H, I, rw', q⟩
 by_cases h0 : 0 ≤ i
 · have hj : i.toNat = j := by
     rw [seqIndex_of h0 h5] at h1
     exact Option.some.inj h1
   exact item_listR pl.isList h0 (by omega) (by rw [hj]; simpa using ew) fin hs
 · have hj : (i + (its.toArray.size : Int)).toNat = j := by
     rw [seqIndex_neg (by omega) h4] at h1
     rw [List.size_toArray, ← hl]
     exact Option.some.inj h1
   exact subscriptTail_builtinR (x := w) pl.isList.typeIs slot_list_getitem.lookup
     (wpAny_getItem_list_neg (Q := fun r s' => r = w ∧ EP X pins σ Q r s') pl.isList (by omega) (by rw [List.size_toArray] <;> omega) (by omega) (by rw [hj]; simpa using ew) ⟨rfl, fin⟩) hs
theorem ix_tup : IxR X (rIxT X.K) := by
 intro value slice pins s σ H x y v u Q I rx ry h hs
 obtain ⟨p, xs, i, z, rfl, rfl, hq, he, q⟩ := h
 cases rx
 obtain ⟨t, rfl⟩ := ry
 obtain ⟨its, r, pl, hz⟩ := I.tuple hq
 obtain ⟨j, h1, h2, h3, h4, h5⟩ := atI_get he
 obtain ⟨w, ew, rw'⟩ := r.get h2
 have hl := r.length
 have hn := line63
 have fin : EP X pins σ Q w s := ⟨z, H, I, rw', q⟩
 exact subscriptTail_builtinR (x := w) pl.typeIs slot_tuple_getitem.lookup
   (getItem_tuple (j := j) (Q := fun r s' => r = w ∧ EP X pins σ Q r s') pl (by omega) (by omega) (by rw [List.size_toArray, ← hl]; exact h1) (by simpa using ew) ⟨rfl, fin⟩) hs
theorem ix_str : IxR X rIxS := by
 intro value slice pins s σ H x y v u Q I rx ry h hs
 obtain ⟨z, i, c, rfl, rfl, hz, he, q⟩ := h
 obtain ⟨t, rfl⟩ := rx
 obtain ⟨t', rfl⟩ := ry
 obtain ⟨j, h1, h2, h3, h4, h5⟩ := atI_get he
 have hl : z.cps.toList.length = z.length := by simp [Str.length]
 rw [hl] at h1 h4 h5
 have hn := line63
 exact tail_any (typeIs_str s z t) slot_str_getitem.lookup (getItem_str (c := c) (by
   have e1 : decide (i < -(2 ^ 63 : Int)) = false := decide_eq_false (by omega)
   have e2 : decide (i ≥ 2 ^ 63) = false := decide_eq_false (by omega)
   rw [e1, e2, Bool.or_false]) (by rw [h1]; simpa using h2) ⟨.str ⟨#[c]⟩, H, I.tok _, ⟨_, rfl⟩, q⟩) hs
def rIx (K : PySem.W.Frag) : R2 := fun x y H Q => rIxL K x y H Q ∨ rIxT K x y H Q ∨ rIxS x y H Q
theorem ix_seq : IxR X (rIx X.K) := ix_list.or (ix_tup.or ix_str)
theorem slice_bounds (lo hi : Option Int) (n : Nat) : (sliceBounds lo hi none n).1 = ((HT.sIx n 0 lo : Nat) : Int) ∧ (sliceBounds lo hi none n).2.1 = ((HT.sIx n n hi : Nat) : Int) ∧ (sliceBounds lo hi none n).2.2 = 1 := by
 refine ⟨?_, ?_, rfl⟩
 · cases lo with
   | none => simp [sliceBounds, HT.sIx]
   | some i =>
     simp only [sliceBounds, HT.sIx, Option.getD_none, show (1 : Int) > 0 by decide, if_true]
     by_cases h : i < 0
     · simp only [h, if_true] <;> omega
     · simp only [h, if_false] <;> omega
 · cases hi with
   | none => simp [sliceBounds, HT.sIx]
   | some i =>
     simp only [sliceBounds, HT.sIx, Option.getD_none, show (1 : Int) > 0 by decide, if_true]
     by_cases h : i < 0
     · simp only [h, if_true] <;> omega
     · simp only [h, if_false] <;> omega
theorem slicePick_cut (its : List Value) (lo hi : Option Int) : slicePick its.toArray lo hi none = ((its.drop (HT.sIx its.length 0 lo)).take (HT.sIx its.length its.length hi - HT.sIx its.length 0 lo)).toArray := by
 obtain ⟨h1, h2, h3⟩ := slice_bounds lo hi its.toArray.size
 unfold slicePick
 rw [h1, h2, h3]
 simp only [sliceRange_one, pick_run, List.size_toArray] <;> rfl
def rSlL (K : PySem.W.Frag) : V → Option Int → Option Int → Hp → VK → Prop := fun x lo hi H Q => ∃ a xs, x = .ref a ∧ SqL K H a xs ∧ ∀ p, H p = none → Q (.ref p) (upd H p (.lst (cutV xs lo hi)))
theorem sl_list : SlR X (rSlL X.K) := by
 intro pins s σ H x v vl vu lo hi sl Q I rx hs pl pu h
 obtain ⟨a, xs, rfl, hx, q⟩ := h
 cases rx
 obtain ⟨its, r, ht, hz⟩ := I.list hx
 have hlen := r.length
 refine ⟨"list", _, slot_list_getitem.lookup, ht.isList.typeIs, ?_⟩
 refine wpAny_getItem_list_slice ht.isList hs pl pu .none (by simp) ?_ (by rw [List.size_toArray] <;> omega)
 rw [slicePick_cut, ← hlen]
 refine ⟨.ref s.heap.objs.size, _, I.laid (t' := s.toks) (o := .lst (cutV xs lo hi)) (fun b ob q => Heap.get?_push_of_some _ q) (Nat.le_refl _) ?_, rfl, q _ (I.hok.fresh (Nat.le_refl _))⟩
 exact ⟨Nat.le_trans (cutV_length xs lo hi) hz, _, 0, (r.drop (HT.sIx xs.length 0 lo)).take (HT.sIx xs.length xs.length hi - HT.sIx xs.length 0 lo), Heap.get?_push_size _ rfl⟩
def flatV : V → Bool
 | .non => true
 | .bl _ => true
 | .int _ => true
 | .str _ => true
 | _ => false
def eqV : V → V → Bool
 | .non, .non => true
 | .bl a, .bl b => a == b
 | .bl a, .int b => (if a then 1 else 0) == b
 | .int a, .bl b => a == (if b then 1 else 0)
 | .int a, .int b => a == b
 | .str a, .str b => a == b
 | _, _ => false
theorem eqAt_V {A : Around} {s : Shared} {y x : V} {u v : Value} (ry : RelV y u) (rx : RelV x v) (fy : flatV y = true) (fx : flatV x = true) : SeqAt.EqAt A s u v (eqV y x) := by
 cases y with
 | non =>
   cases ry
   cases x with
   | non => cases rx; exact SeqAt.EqAt.same _
   | bl b => cases rx; exact SeqAt.EqAt.none_bool b
   | int b => obtain ⟨t, rfl⟩ := rx; exact SeqAt.EqAt.none_int b t
   | str b => obtain ⟨t, rfl⟩ := rx; exact SeqAt.EqAt.none_str b t
   | _ => exact absurd (show false = true from fx) Bool.false_ne_true
 | bl a =>
   cases ry
   cases x with
   | non => cases rx; exact SeqAt.EqAt.bool_none a
   | bl b => cases rx; exact SeqAt.EqAt.bool_bool a b
   | int b => obtain ⟨t, rfl⟩ := rx; exact SeqAt.EqAt.bool_int a b t
   | str b => obtain ⟨t, rfl⟩ := rx; exact SeqAt.EqAt.bool_str a b t
   | _ => exact absurd (show false = true from fx) Bool.false_ne_true
 | int a =>
   obtain ⟨t', rfl⟩ := ry
   cases x with
   | non => cases rx; exact SeqAt.EqAt.int_none a t'
   | bl b => cases rx; exact SeqAt.EqAt.int_bool a t' b
   | int b => obtain ⟨t, rfl⟩ := rx; exact SeqAt.EqAt.int_int a t' b t
   | str b => obtain ⟨t, rfl⟩ := rx; exact SeqAt.EqAt.int_str a t' b t
   | _ => exact absurd (show false = true from fx) Bool.false_ne_true
 | str a =>
   obtain ⟨t', rfl⟩ := ry
   cases x with
   | non => cases rx; exact SeqAt.EqAt.str_none a t'
   | bl b => cases rx; exact SeqAt.EqAt.str_bool a t' b
   | int b => obtain ⟨t, rfl⟩ := rx; exact SeqAt.EqAt.str_int a t' b t
   | str b => obtain ⟨t, rfl⟩ := rx; exact SeqAt.EqAt.str_str a t' b t
   | _ => exact absurd (show false = true from fx) Bool.false_ne_true
 | _ => exact absurd (show false = true from fy) Bool.false_ne_true
def eqU (x : V) (u : Value) : Bool := match u with
 | .none => eqV .non x
 | .bool b => eqV (.bl b) x
 | .int i _ => eqV (.int i) x
 | .str z _ => eqV (.str z) x
 | _ => false
theorem eqU_of {x y : V} {u : Value} (r : RelV y u) (f : flatV y = true) : eqU x u = eqV y x := by
 cases y with
 | non => cases r; rfl
 | bl b => cases r; rfl
 | int i => obtain ⟨t, rfl⟩ := r; rfl
 | str z => obtain ⟨t, rfl⟩ := r; rfl
 | _ => exact absurd (show false = true from f) Bool.false_ne_true
theorem any_eqU {x : V} : ∀ {xs : List V} {us : List Value}, Vals xs us → xs.all flatV = true → us.any (eqU x) = xs.any fun y => eqV y x
 | _, _, .nil, _ => rfl
 | y :: xs, u :: us, .cons r t, f => by
   rw [List.all_cons, Bool.and_eq_true] at f
   rw [List.any_cons, List.any_cons, eqU_of r f.1, any_eqU t f.2]
theorem mem_eqAt {A : Around} {s : Shared} {x : V} {v : Value} (rx : RelV x v) (fx : flatV x = true) : ∀ {xs : List V} {us : List Value}, Vals xs us → xs.all flatV = true → ∀ u ∈ us, SeqAt.EqAt A s u v (eqU x u)
 | _, _, .nil, _ => fun u hu => by cases hu
 | y :: xs, u :: us, .cons r t, f => fun u' hu => by
   rw [List.all_cons, Bool.and_eq_true] at f
   rcases List.mem_cons.mp hu with rfl | hu
   · rw [eqU_of r f.1]; exact eqAt_V r rx f.1 fx
   · exact mem_eqAt rx fx t f.2 u' hu
def inV (x : V) (xs : List V) : Bool := xs.any fun y => eqV y x
def rIn (K : PySem.W.Frag) (neg : Bool) : R2 := fun x y H Q => ∃ p xs, y = .ref p ∧ (SqL K H p xs ∨ SqT K H p xs) ∧ flatV x = true ∧ xs.all flatV = true ∧ Q (.bl (if neg then !inV x xs else inV x xs)) H
theorem op_notIn_seq : OpR X (compareOp .NotIn) (rIn X.K true) := by
 intro pins s σ H x y v u Q I rx ry h
 obtain ⟨p, xs, rfl, hq, fx, fs, q⟩ := h
 cases ry
 rcases hq with hq | hq
 · obtain ⟨its, r, pl, hz⟩ := I.list hq
   refine SeqAt.notIn_listAt (eqU x) pl.isList (fun w hw => mem_eqAt rx fx r fs w (by simpa using hw)) ⟨.bl _, H, I, rfl, ?_⟩
   rw [show its.toArray.any (eqU x) = its.any (eqU x) by simp, any_eqU r fs]
   exact q
 · obtain ⟨its, r, pl, hz⟩ := I.tuple hq
   refine SeqAt.notIn_tupleAt (eqU x) pl (fun w hw => mem_eqAt rx fx r fs w (by simpa using hw)) ⟨.bl _, H, I, rfl, ?_⟩
   rw [show its.toArray.any (eqU x) = its.any (eqU x) by simp, any_eqU r fs]
   exact q
theorem call_list_of : CallR X (.type "list") (fun xs H Q => ∃ p ys, xs = [.ref p] ∧ (SqL X.K H p ys ∨ SqT X.K H p ys) ∧ ∀ l, H l = none → Q (.ref l) (upd H l (.lst ys))) := by
 intro pins s σ H xs us Q I r h
 obtain ⟨p, ys, rfl, hq, q⟩ := h
 obtain ⟨u, rfl, rx⟩ := vals1 r
 cases rx
 have fin : ∀ (its : List Value), Vals ys its → ys.length ≤ sizeLine → ∀ (h' : Heap) (c' : Nat), (∀ b o', s.heap.get? b = some o' → h'.get? b = some o') →
     h'.get? s.heap.objs.size = some { cls := .type "list", dict := none, data := .seq its.toArray c', slots := #[] } → EP X pins σ Q (.ref s.heap.objs.size) { s with heap := h' } := fun its r' hz h' c' kp e =>
   ⟨.ref s.heap.objs.size, _, I.laid (t' := s.toks) kp (Nat.le_refl _) (show ObjOk X.prog X.w _ h' _ (.lst ys) from ⟨hz, its, c', r', e⟩), rfl, q _ (I.hok.fresh (Nat.le_refl _))⟩
 rcases hq with hq | hq
 · obtain ⟨its, r', pl, hz⟩ := I.list hq
   have hlen := r'.length
   obtain ⟨o, ho, hc, n, hd⟩ := pl.isList
   exact call_list_seq p (.inl rfl) ho hc hd (fun h' c' kp e => fin its r' hz h' c' kp e) (by simp only [List.size_toArray] <;> omega)
 · obtain ⟨its, r', pl, hz⟩ := I.tuple hq
   have hlen := r'.length
   obtain ⟨o, ho, hc, n, hd⟩ := pl
   exact call_list_seq p (.inr rfl) ho hc hd (fun h' c' kp e => fin its r' hz h' c' kp e) (by simp only [List.size_toArray] <;> omega)
theorem call_tuple_of : CallR X (.type "tuple") (fun xs H Q => ∃ p ys, xs = [.ref p] ∧ ((SqL X.K H p ys ∧ ∀ l, H l = none → Q (.ref l) (upd H l (.tup ys))) ∨ (SqT X.K H p ys ∧ Q (.ref p) H))) := by
 intro pins s σ H xs us Q I r h
 obtain ⟨p, ys, rfl, h⟩ := h
 obtain ⟨u, rfl, rx⟩ := vals1 r
 cases rx
 rcases h with ⟨hq, q⟩ | ⟨hq, q⟩
 · obtain ⟨its, r', pl, hz⟩ := I.list hq
   have hlen := r'.length
   refine call_tuple_list pl.isList (fun h' kp => ?_) (by simp only [List.size_toArray] <;> omega)
   have I1 : Inv X pins σ H { s with heap := h' } := I.kept (t' := s.toks) kp
   have I2 : Inv X pins σ (upd H h'.objs.size (.tup ys)) { s with heap := h'.push { cls := .type "tuple", data := .seq its.toArray } } :=
     I1.laid (t' := s.toks) (fun b o e => Heap.get?_push_of_some _ e) (Nat.le_refl _) (show ObjOk X.prog X.w _ _ _ (.tup ys) from ⟨hz, its, r', IsTup.new _ _⟩)
   exact ⟨.ref h'.objs.size, _, I2, rfl, q _ (I1.hok.fresh (Nat.le_refl _))⟩
 · obtain ⟨its, r', pl, hz⟩ := I.tuple hq
   exact call_tuple_same pl ⟨.ref p, H, I, rfl, q⟩
def tyV (K : PySem.W.Frag) (T : String) (x : V) (H : Hp) : Prop := match x with
 | .str _ => T = "str"
 | .int _ => T = "int"
 | .ref p => (T = "list" ∧ ∃ xs, SqL K H p xs) ∨ (T = "tuple" ∧ ∃ o, K.lookup p = some o ∧ o.cls = .type "tuple" ∧ o.dict = none) ∨
     (T = "dict" ∧ ((∃ kvs, H p = some (.dK kvs)) ∨ ∃ kvs, H p = some (.dT kvs))) ∨ (T = "set" ∧ ∃ S n, H p = some (.set S n))
 | _ => False
theorem tyV_is {pins : List (Addr × Obj)} {σ : St} {H : Hp} {s : Shared} {T : String} {x : V} {v : Value} (I : Inv X pins σ H s) (r : RelV x v) (ty : tyV X.K T x H) :
   s.TypeIs v T ∧ ∀ a, v = .ref a → ∃ ob, s.heap.get? a = some ob ∧ ob.dict = none := by
 cases x with
 | str z =>
   obtain ⟨t, rfl⟩ := r
   cases (show T = "str" from ty)
   exact ⟨typeIs_str s z t, fun _ e => nomatch e⟩
 | int i =>
   obtain ⟨t, rfl⟩ := r
   cases (show T = "int" from ty)
   exact ⟨typeIs_int s i t, fun _ e => nomatch e⟩
 | ref p =>
   cases r
   rcases ty with ⟨rfl, xs, hq⟩ | ⟨rfl, o, hk, hc, hd⟩ | ⟨rfl, hk⟩ | ⟨rfl, S, n, hk⟩
   · obtain ⟨its, _, pl, _⟩ := I.list hq
     refine ⟨pl.isList.typeIs, fun a e => ?_⟩
     cases e
     obtain ⟨o, n, e, c, hd, _⟩ := pl
     exact ⟨o, e, hd⟩
   · refine ⟨⟨o, I.kIn p o hk, hc⟩, fun a e => ?_⟩
     cases e
     exact ⟨o, I.kIn _ o hk, hd⟩
   · have z : ∃ o, s.heap.get? p = some o ∧ o.ExactDict := by
       rcases hk with ⟨kvs, hk⟩ | ⟨kvs, hk⟩
       · obtain ⟨_, _, _, _, o, _, _, e, ex, _⟩ := I.hok p _ hk
         exact ⟨o, e, ex⟩
       · obtain ⟨_, _, _, _, o, _, _, e, ex, _⟩ := I.hok p _ hk
         exact ⟨o, e, ex⟩
     obtain ⟨o, e, ex⟩ := z
     refine ⟨⟨o, e, ex.1⟩, fun a e2 => ?_⟩
     cases e2
     exact ⟨o, e, ex.2.1⟩
   · obtain ⟨o, _, _, _, e, ex, _⟩ := I.hok p _ hk
     refine ⟨⟨o, e, ex.1⟩, fun a e2 => ?_⟩
     cases e2
     exact ⟨o, e, ex.2.1⟩
 | _ => exact False.elim ty
def tBM0 (K : PySem.W.Frag) (T : String) (r : V → List V → Hp → VK → Prop) (to : TE) : TE := fun σ H Q => to σ H fun x H1 => tyV K T x H1 ∧ r x [] H1 Q
def tBM (K : PySem.W.Frag) (T : String) (r : V → List V → Hp → VK → Prop) (to : TE) (t : TA) : TE := fun σ H Q => to σ H fun x H1 => tyV K T x H1 ∧ t σ H1 fun xs H2 => r x xs H2 Q
variable {o e : Expr} {es : List Expr} {to : TE} {t : TA} {name : Str} {apos cpos : Pos} {T id : String} {r : V → List V → Hp → VK → Prop}
theorem pe_bm0 (pa : PlainAttrs T) (slot : Slot T name id) (hty : typeOf (.builtin id) = pure (.type "method_descriptor")) (hm : MtR X id r) (ho : PE X o to)
   (hbase : attributeBase o name X.env (eval o X.env) = eval o X.env := by rfl) (hline : (apos.endLine == cpos.line) = true := by rfl) : PE X (.Call (.Attribute o name apos) [] [] cpos) (tBM0 X.K T r to) := by
 intro pins s σ H Q I h
 refine wpAny_Call_method0_late hbase hline (thn (ho pins s σ H _ I h) fun v s1 ⟨x, H1, I1, r1, ty, q1⟩ => ?_)
 obtain ⟨h1, h2⟩ := tyV_is I1 r1 ty
 exact ⟨T, id, pa, slot, hty, h1, h2, Calls.callWith_builtin rfl (PySem.evalArgs_none (hm pins s1 σ H1 x [] v [] Q I1 r1 .nil q1))⟩
theorem pe_bm (pa : PlainAttrs T) (slot : Slot T name id) (hty : typeOf (.builtin id) = pure (.type "method_descriptor")) (hm : MtR X id r) (ho : PE X o to) (ha : PA X (e :: es) t)
   (hbase : attributeBase o name X.env (eval o X.env) = eval o X.env := by rfl)
   (hfew : ((backTo cpos (starEach (e :: es) X.env)).all (fun x => !x.1) && (backToKw cpos (keywordEach [] X.env)).all (fun x => x.1.isSome)
     && decide ((e :: es).length + ([] : List Keyword).length + (if ([] : List Keyword).isEmpty then 0 else 1) < 30)) = true := by rfl)
   (hline : (apos.endLine == cpos.line) = true := by rfl) (hs : starEach (e :: es) X.env = (false, eval e X.env) :: starEach es X.env := by rfl) (hplain : (backTo cpos (starEach es X.env)).any (·.1) = false := by rfl) :
   PE X (.Call (.Attribute o name apos) (e :: es) [] cpos) (tBM X.K T r to t) := by
 intro pins s σ H Q I h
 refine wpAny_Call_method_late hbase hfew hline rfl (thn (ho pins s σ H _ I h) fun v s1 ⟨x, H1, I1, r1, ty, q1⟩ => ?_)
 obtain ⟨h1, h2⟩ := tyV_is I1 r1 ty
 refine ⟨T, id, pa, slot, hty, h1, h2, ?_⟩
 have hA := ha cpos pins s1 σ H1 _ I1 q1
 rw [hs] at hA ⊢
 refine Calls.callWith_builtin (by show (false || (backTo cpos (starEach es X.env)).any (·.1)) = false; rw [hplain] <;> rfl) (Calls.evalArgs_plain ?_)
 exact thn hA fun us s2 ⟨vs, H2, I2, r2, q2⟩ => hm pins s2 σ H2 x vs v us Q I2 r1 r2 q2
end
end L2
namespace L2
open PySem PySem.Spec PyProof.Rows
def MtM (X : Cx) (id : String) (r : V → List V → Hp → VK → Prop) : Prop :=
 ∀ (pins : List (Addr × Obj)) (s : Shared) (σ : St) (H : Hp) (x : V) (xs : List V) (v : Value) (us : List Value) (Q : VK), Inv X pins σ H s → RelV x v → Vals xs us → r x xs H Q →
   wpAny (model X.prog X.w) X.A (call (.builtin id) (v :: us)) (EP X pins σ Q) X.xe s
theorem Vals.one : ∀ {x : V} {us : List Value}, Vals [x] us → ∃ u, us = [u] ∧ RelV x u
 | _, _, .cons r .nil => ⟨_, rfl, r⟩
theorem Vals.zero : ∀ {us : List Value}, Vals [] us → us = []
 | _, .nil => rfl
theorem Vals.dropLast {xs : List V} {us : List Value} (h : Vals xs us) : Vals xs.dropLast us.dropLast := by
 induction h with
 | nil => exact .nil
 | cons r t ih =>
   cases t with
   | nil => exact .nil
   | cons q t' => exact .cons r ih
theorem Vals.rep {xs : List V} {us : List Value} (h : Vals xs us) : ∀ k : Nat, Vals (List.replicate k xs).flatten (List.replicate k us).flatten
 | 0 => .nil
 | k + 1 => by
   rw [List.replicate_succ, List.replicate_succ, List.flatten_cons, List.flatten_cons]
   exact Vals.append h (Vals.rep h k)
theorem erase_last {α : Type} (l : List α) : l.eraseIdx (l.length - 1) = l.dropLast := by
 induction l with
 | nil => rfl
 | cons a r ih =>
   cases r with
   | nil => rfl
   | cons b r =>
     have e : (a :: b :: r).length - 1 = ((b :: r).length - 1) + 1 := by
       have h1 : (a :: b :: r).length = r.length + 2 := rfl
       have h2 : (b :: r).length = r.length + 1 := rfl
       omega
     rw [e, List.eraseIdx_cons_succ, ih]
     all_goals rfl
theorem foldl_rep (its : List Value) : ∀ (k : Nat) (acc : List Value),
   List.foldl (fun x1 x2 => x1 ++ x2) acc.toArray (List.replicate k its.toArray) = (acc ++ (List.replicate k its).flatten).toArray
 | 0, acc => by simp
 | k + 1, acc => by
   have e : acc.toArray ++ its.toArray = (acc ++ its).toArray := by simp
   have e2 : (acc ++ its) ++ (List.replicate k its).flatten = acc ++ (List.replicate (k + 1) its).flatten := by
     rw [List.replicate_succ, List.flatten_cons, List.append_assoc]
   rw [← e2, ← foldl_rep its k (acc ++ its), ← e, List.replicate_succ, List.foldl_cons]
section
variable {X : Cx} {pins : List (Addr × Obj)} {σ : St} {H : Hp} {s : Shared} {l b : Addr} {xs ys zs : List V}
theorem Inv.lset {its its' : List Value} {n : Nat} {f : Array Value → Array Value} {t' : Nat} (I : Inv X pins σ H s) (hH : H l = some (.lst xs))
   (e : s.heap.get? l = some { cls := .type "list", data := .seq its.toArray n }) (hf : f its.toArray = its'.toArray) (hv : Vals ys its') (hz : ys.length ≤ sizeLine) :
   Inv X pins σ (upd H l (.lst ys)) { s with heap := s.heap.update l (Obj.mapSeq f), toks := t' } := by
 have q := PySem.IsL.update e f
 rw [hf] at q
 refine I.write (x := l) (e := l) (by rw [hH]; exact trivial) (.inl rfl) (fun b' u hb hu => (Heap.get?_update_other s.heap (Obj.mapSeq f) (Ne.symm hb)).trans hu) ⟨_, q⟩ ?_
 exact ⟨hz, its', _, hv, q⟩
theorem Inv.lnew {its : List Value} {t' : Nat} (I : Inv X pins σ H s) (hv : Vals ys its) (hz : ys.length ≤ sizeLine) :
   Inv X pins σ (upd H s.heap.objs.size (.lst ys)) { s with heap := s.heap.push { cls := .type "list", data := .seq its.toArray }, toks := t' } :=
 I.laid (fun _ _ q => Heap.get?_push_of_some _ q) (Nat.le_refl _) ⟨hz, its, 0, hv, Heap.get?_push_size _ rfl⟩
theorem Inv.fresh (I : Inv X pins σ H s) : H s.heap.objs.size = none := I.hok.fresh (Nat.le_refl _)
theorem Inv.lstM (I : Inv X pins σ H s) (hH : H l = some (.lst xs)) : xs.length ≤ sizeLine ∧ ∃ (its : List Value) (n : Nat), Vals xs its ∧ xs.length = its.length ∧ s.heap.get? l = some { cls := .type "list", data := .seq its.toArray n } := by
 obtain ⟨z, its, n, r, e⟩ := I.hok l _ hH
 exact ⟨z, its, n, r, r.length, e⟩
theorem notLongL {n : Nat} (h : n ≤ sizeLine) : Builtin.List.listTooLong n = false := by
 unfold Builtin.List.listTooLong
 exact decide_eq_false (by omega)
end
section
variable {X : Cx}
def rAppend : V → List V → Hp → VK → Prop := fun x vs H Q => ∃ l xs y, x = .ref l ∧ vs = [y] ∧ H l = some (.lst xs) ∧ xs.length < sizeLine ∧ Q .non (upd H l (.lst (xs ++ [y])))
theorem mt_append : MtM X "list.append" rAppend := by
 intro pins s σ H x vs v us Q I rx rv h
 obtain ⟨l, xs, y, rfl, rfl, hH, hz, q⟩ := h
 cases rx
 obtain ⟨u, rfl, ru⟩ := rv.one
 obtain ⟨z, its, n, r, hl, e⟩ := I.lstM hH
 refine call_meets F.slot_list_append ⟨_, e, rfl⟩ F.entry_list_append (F.args_list_append_2 _ _) (PySem.list_append l its.toArray n u (by rw [List.size_toArray]; omega)) ⟨e, ?_⟩
 refine ⟨.non, _, I.lset (its' := its ++ [u]) hH e (by simp) (r.append (.cons ru .nil)) ?_, rfl, q⟩
 rw [List.length_append, List.length_singleton]
 omega
def rExtend : V → List V → Hp → VK → Prop := fun x vs H Q => ∃ l b xs zs, x = .ref l ∧ vs = [.ref b] ∧ H l = some (.lst xs) ∧ H b = some (.lst zs) ∧ xs.length + zs.length ≤ sizeLine ∧ Q .non (upd H l (.lst (xs ++ zs)))
theorem mt_extend : MtM X "list.extend" rExtend := by
 intro pins s σ H x vs v us Q I rx rv h
 obtain ⟨l, b, xs, zs, rfl, rfl, hH, hB, hz, q⟩ := h
 cases rx
 obtain ⟨u, rfl, ru⟩ := rv.one
 cases ru
 obtain ⟨z, its, n, r, hl, e⟩ := I.lstM hH
 obtain ⟨z2, its2, n2, r2, hl2, e2⟩ := I.lstM hB
 have hsz : its.toArray.size + its2.toArray.size ≤ sizeLine := by rw [List.size_toArray, List.size_toArray]; omega
 have hlong : ¬ (!its.toArray.isEmpty && Builtin.List.listTooLong (its.toArray.size + its2.toArray.size)) = true := by
   rw [notLongL hsz, Bool.and_false]
   exact Bool.false_ne_true
 refine call_meets F.slot_list_extend ⟨_, e, rfl⟩ F.entry_list_extend (F.args_list_extend_2 _ _)
   (AutoSeq1.list_extend_list_list_0 l its.toArray n b its2.toArray n2 hlong (by rw [List.size_toArray]; omega) (by omega)) ⟨e, e2, ?_⟩
 refine ⟨.non, _, I.lset (its' := its ++ its2) hH e (by simp) (r.append r2) ?_, rfl, q⟩
 rw [List.length_append]
 omega
def rPop : V → List V → Hp → VK → Prop := fun x vs H Q => ∃ l xs y, x = .ref l ∧ vs = [] ∧ H l = some (.lst xs) ∧ xs[xs.length - 1]? = some y ∧ Q y (upd H l (.lst xs.dropLast))
theorem mt_pop : MtM X "list.pop" rPop := by
 intro pins s σ H x vs v us Q I rx rv h
 obtain ⟨l, xs, y, rfl, rfl, hH, hy, q⟩ := h
 cases rx
 have hus := rv.zero
 subst hus
 obtain ⟨z, its, n, r, hl, e⟩ := I.lstM hH
 obtain ⟨u, hu, ru⟩ := r.get hy
 have hy' : its.toArray[its.toArray.size - 1]? = some u := by
   show its.toArray[its.length - 1]? = some u
   rw [← Array.getElem?_toList, ← hl]
   exact hu
 refine call_meets F.slot_list_pop ⟨_, e, rfl⟩ F.entry_list_pop (F.args_list_pop_1 _) (MeetsSeq.list_pop_last l its.toArray n u hy' (by rw [List.size_toArray]; omega)) ⟨e, ?_⟩
 refine ⟨y, _, I.lset (its' := its.dropLast) hH e ?_ r.dropLast ?_, ru, q⟩
 · show its.toArray.eraseIdxIfInBounds (its.toArray.size - 1) = its.dropLast.toArray
   rw [List.size_toArray, List.eraseIdxIfInBounds_toArray, erase_last]
 · rw [List.length_dropLast]
   omega
def rCat : R2 := fun x y H Q => ∃ l b xs zs, x = .ref l ∧ y = .ref b ∧ H l = some (.lst xs) ∧ H b = some (.lst zs) ∧ xs.length + zs.length ≤ sizeLine ∧ ∀ p, H p = none → Q (.ref p) (upd H p (.lst (xs ++ zs)))
theorem op_cat : OpR X (binaryOp .Add) rCat := by
 intro pins s σ H x y v u Q I rx ry h
 obtain ⟨l, b, xs, zs, rfl, rfl, hH, hB, hz, q⟩ := h
 cases rx
 cases ry
 obtain ⟨z, its, n, r, hl, e⟩ := I.lstM hH
 obtain ⟨z2, its2, n2, r2, hl2, e2⟩ := I.lstM hB
 refine PySem.P.add_list e e2 ?_ (by rw [List.size_toArray, List.size_toArray]; omega)
 have ea : its.toArray ++ its2.toArray = (its ++ its2).toArray := by simp
 rw [ea]
 exact ⟨.ref _, _, I.lnew (t' := s.toks) (r.append r2) (by rw [List.length_append]; omega), rfl, q _ I.fresh⟩
def rRep : R2 := fun x y H Q => ∃ l k xs, x = .ref l ∧ y = .int k ∧ H l = some (.lst xs) ∧ -(2 ^ 63) ≤ k ∧ k < 2 ^ 63 ∧ xs.length * k.toNat ≤ sizeLine ∧
 ∀ p, H p = none → Q (.ref p) (upd H p (.lst (List.replicate k.toNat xs).flatten))
theorem len_rep {α : Type} (xs : List α) (k : Nat) : (List.replicate k xs).flatten.length = k * xs.length := by
 induction k with
 | zero => simp
 | succ k ih => rw [List.replicate_succ, List.flatten_cons, List.length_append, ih, Nat.succ_mul, Nat.add_comm]
theorem op_rep : OpR X (binaryOp .Mult) rRep := by
 intro pins s σ H x y v u Q I rx ry h
 obtain ⟨l, k, xs, rfl, rfl, hH, h1, h2, hz, q⟩ := h
 cases rx
 obtain ⟨t, rfl⟩ := ry
 obtain ⟨z, its, n, r, hl, e⟩ := I.lstM hH
 have hlen : its.toArray.size * k.toNat ≤ sizeLine := by rw [List.size_toArray, ← hl]; exact hz
 have hcap : ¬ its.toArray.size * k.toNat > (2 ^ 63 - 1) / 8 := by
   have : (sizeLine : Nat) ≤ (2 ^ 63 - 1) / 8 := by decide
   omega
 have hfit : ¬ (!Builtin.List.listFitsIndex k) = true := by
   rw [fitsIndex_both h1 h2]
   exact Bool.false_ne_true
 have hlong : ¬ Builtin.List.listTooLong (its.toArray.size * k.toNat) = true := by
   rw [notLongL hlen]
   exact Bool.false_ne_true
 have hnew : List.foldl (fun x1 x2 => x1 ++ x2) #[] (List.replicate (if its.toArray.isEmpty = true then 0 else k.toNat) its.toArray) = (List.replicate k.toNat its).flatten.toArray := by
   have f0 : ∀ m : Nat, List.foldl (fun x1 x2 => x1 ++ x2) #[] (List.replicate m its.toArray) = (List.replicate m its).flatten.toArray := fun m => by
     have := foldl_rep its m []
     rw [List.nil_append] at this
     exact this
   rw [f0]
   cases its with
   | nil => simp
   | cons a r' => rw [if_neg (by simp)]
 refine wpAny_binaryOp_repeat_ref (T := "list") (U := "int") (by decide) ⟨_, e, rfl⟩ (fun s' => typeIs_int s' k t) noFill_list_mul F.fills_int_mul F.slot_int_rmul repeat_list F.slot_int_index.lookup
   (call_meets F.slot_int_rmul (typeIs_int s k t) F.entry_int_rmul (F.args_int_rmul_2 _ _) (int___rmul___int_list k t l its.toArray n)
     ⟨e, rfl, ⟨_, e, rfl⟩, call_meets F.slot_list_mul ⟨_, e, rfl⟩ F.entry_list_mul (F.args_list_mul_2 _ _) (AutoListH.list___mul___list_int_3 l its.toArray n k t hfit hcap hlong) ⟨e, ?_⟩⟩)
 rw [hnew]
 exact ⟨.ref _, _, I.lnew (t' := s.toks) (r.rep k.toNat) (by rw [len_rep, Nat.mul_comm]; exact hz), rfl, q _ I.fresh⟩
end
section
variable {prog : Program} {w : World} {A : Around} {E : Value → Shared → Prop} {s : Shared}
end
section
variable {X : Cx}
end
end L2
namespace L2
open PySem PySem.Spec PyProof.Rows
section
variable {κ : Type} [DecidableEq κ]
def valV (kvs : List (κ × V)) (k : κ) : Option V := (kvs.find? fun kv => decide (kv.1 = k)).map (·.2)
theorem valV_pos {p : κ × V} {r : List (κ × V)} {k : κ} (e : p.1 = k) : valV (p :: r) k = some p.2 := by simp [valV, List.find?_cons, e]
theorem valV_neg {p : κ × V} {r : List (κ × V)} {k : κ} (e : ¬ p.1 = k) : valV (p :: r) k = valV r k := by simp [valV, List.find?_cons, e]
theorem RelO.isSome_eq {o : Option V} {u : Option Value} (r : RelO o u) : o.isSome = u.isSome := by
 cases o with
 | none => cases u with
   | none => rfl
   | some _ => exact (show False from r).elim
 | some _ => cases u with
   | none => exact (show False from r).elim
   | some _ => rfl
theorem RelO.getD {o : Option V} {u : Option Value} {d : V} {d' : Value} (r : RelO o u) (rd : RelV d d') : RelV (o.getD d) (u.getD d') := by
 cases o with
 | none => cases u with
   | none => exact rd
   | some _ => exact (show False from r).elim
 | some _ => cases u with
   | none => exact (show False from r).elim
   | some _ => exact r
theorem KV.val {kvs : List (κ × V)} {vs : List (κ × Value)} (r : KV kvs vs) (k : κ) : RelO (valV kvs k) (valueAt vs k) := by
 unfold KV at r
 induction r with
 | nil => exact True.intro
 | @cons p q ps qs h t ih =>
   obtain ⟨h1, h2⟩ := h
   by_cases e : p.1 = k
   · have e' : q.1 = k := h1.symm.trans e
     have b : valueAt (q :: qs) k = some q.2 := by simp [valueAt, List.find?_cons, e']
     rw [valV_pos e, b]; exact h2
   · have e' : ¬ q.1 = k := fun z => e (h1.trans z)
     have b : valueAt (q :: qs) k = valueAt qs k := by simp [valueAt, List.find?_cons, e']
     rw [valV_neg e, b]; exact ih
theorem KV.keys {kvs : List (κ × V)} {vs : List (κ × Value)} (r : KV kvs vs) : kvs.map (·.1) = vs.map (·.1) := by
 unfold KV at r
 induction r with
 | nil => rfl
 | cons h t ih => rw [List.map_cons, List.map_cons, ih, h.1]
end
theorem kV_is {P : Program} {w : World} {k : Key} {u : Value} (r : RelV (kV k) u) : (mixKind P w).is k u = true := by
 cases k with
 | inl i => obtain ⟨t, e⟩ := (show ∃ t, u = Value.int i t from r); subst e; exact mixKind_int P w i t
 | inr x => obtain ⟨t, e⟩ := (show ∃ t, u = Value.str x t from r); subst e; exact mixKind_str P w x t
section
variable {P : Program} {w : World} {H : Hp} {h : Heap} {a : Addr}
end
section
variable {X : Cx} {pins : List (Addr × Obj)} {σ : St} {H : Hp} {s : Shared} {a : Addr} {y v : V} {u r : Value} {o : Option V} {A : Around} {E : Value → Shared → Prop}
end
section
variable {X : Cx} {pins : List (Addr × Obj)} {σ : St} {H : Hp} {s : Shared} {a : Addr} {kvs : List (Key × V)} {k : Key} {u : Value} {A : Around} {E : Value → Shared → Prop}
end
def NoSl (i : Expr) : Prop := ∀ ov iv, subscripted i false ov iv = operate [ov, iv] (getItem ov iv)
theorem subD_of {prog : Program} {w : World} {A : Around} {E : Value → Shared → Prop} {s : Shared} {env : Env} {value slice : Expr} {pos : Pos} {T id : String} {Q : Value → Shared → Prop}
   (hl : typeLookup (.type T) "__getitem__" = pure (some (.builtin id))) (hs : NoSl slice)
   (h : wpAny (model prog w) A (eval value env) (fun o s₁ => wpAny (model prog w) A (eval slice env) (fun i s₂ => s₂.TypeIs o T ∧ wpAny (model prog w) A (getItem o i) Q E s₂) E s₁) E s) :
   wpAny (model prog w) A (eval (.Subscript value slice pos) env) Q E s := by
 refine Subscript_ (wpAny_mono h (fun o s₁ h₁ => wpAny_mono h₁ (fun i s₂ h₂ => ?_) fun _ _ x => x) fun _ _ x => x)
 obtain ⟨hT, h₂⟩ := h₂
 unfold subscriptTail
 refine wpAny_bind ?_
 rw [getitemInPython_of_ne hT.not_modules]
 refine wpAny_bind (wpAny_specialOf hT hl ?_)
 have fin : wpAny (model prog w) A (subscripted slice false o i) (fun r s₃ => wpAny (model prog w) A (letTemporaryGo value o r >>= fun _ => pure r) Q E s₃) E s₂ := by
   rw [hs o i]
   exact wpAny_operating (wpAny_mono h₂ (fun r s₃ h₃ => wpAny_bind (wpAny_letTemporaryGo (wpAny_pure h₃))) fun _ _ x => x)
 first
   | exact wpAny_pure (wpAny_bind fin)
   | exact wpAny_bind (wpAny_pure (wpAny_bind fin))
   | exact wpAny_bind fin
section
variable {X : Cx} {o i e value : Expr} {pos pos' tpos : Pos} {td ty tv : TE}
end
section
variable {X : Cx} {pos : Pos}
end
structure M1 (X : Cx) (o : Expr) (m : Str) (apos : Pos) (e : Expr) (cpos : Pos) : Prop where
 base : attributeBase o m X.env (eval o X.env) = eval o X.env
 few : ((backTo cpos (starEach [e] X.env)).all (fun x => !x.1) && (backToKw cpos (keywordEach [] X.env)).all (fun x => x.1.isSome)
   && decide (([e] : List Expr).length + ([] : List Keyword).length + (if ([] : List Keyword).isEmpty then 0 else 1) < 30)) = true
 line : (apos.endLine == cpos.line) = true
 trees : backTo cpos (starEach [e] X.env) = [(false, eval e X.env)]
section
variable {X : Cx} {pins : List (Addr × Obj)} {σ : St} {H : Hp} {s : Shared} {a : Addr} {y d : V} {u r : Value} {o : Option V} {A : Around} {E : Value → Shared → Prop}
end
section
variable {X : Cx} {o e f : Expr} {apos cpos : Pos} {td ty tx : TE}
end
section
variable {X : Cx} {pins : List (Addr × Obj)} {σ : St} {H : Hp} {s : Shared} {a : Addr} {kvs : List (Key × V)} {A : Around} {E : Value → Shared → Prop}
end
section
variable {X : Cx} {pins : List (Addr × Obj)} {σ : St} {H : Hp} {s : Shared} {a : Addr} {y : V} {u : Value} {A : Around} {E : Value → Shared → Prop}
end
end L2
namespace Att
open PySem PySem.W PySem.Calls PyProof.Rows
theorem ints_of_wellAll {P : Params} {h : Heap} : ∀ (ns : List Int) (vs : List Value), WellAll P h vs (ns.map WData.int) → IntsAre vs ns := by
 intro ns
 induction ns with
 | nil =>
   intro vs w
   rw [List.map_nil] at w
   cases w
   exact .nil
 | cons n ns ih =>
   intro vs w
   rw [List.map_cons] at w
   cases w with
   | cons a b =>
     cases a
     exact .cons _ _ (ih _ b)
theorem script_of {l : OpenLaw} {n : Nat} (hn : l.most = some n) {P : Params} {h : Heap} {args : List WData} {vals : List Value}
   (hpre : l.row.toRowW.claim.pre args = true) (hwl : WellAll P h vals args) :
   ∃ a vs ns, vals = [Value.ref a] ∧ args = [WData.list (ns.map WData.int)] ∧ h.get? a = some { cls := .type "list", data := .seq vs.toArray } ∧ IntsAre vs ns ∧ ns.length ≤ n := by
 have hsh : WShape.hasAll [] args [.list .int] = true := (pre_splitW hpre).1
 have hc : l.pre.holds [] { args := args } = true := (pre_splitW hpre).2
 obtain ⟨d, r, rfl, h1, h2⟩ := hasAllW_cons hsh
 obtain rfl := hasAllW_nil h2
 obtain ⟨xs, rfl, h3⟩ := hasW_list h1
 obtain ⟨ns, rfl⟩ := items_int h3
 have hlen : ns.length ≤ n := by
   unfold OpenLaw.pre at hc
   have h4 : (WTm.not (.lt (.lit (.int (n : Int))) (.len (.arg 0)))).holds [] { args := [.list (ns.map .int)] } = true := by
     have h4 := (holds_andW hc).1
     rw [hn] at h4
     exact h4
   have h5 := condW_of h4 (w_not (w_lt w_lit (w_len_list (w_arg rfl))))
   rw [List.length_map] at h5
   refine Nat.le_of_not_lt fun q => ?_
   have q' : (n : Int) < ((ns.length : Nat) : Int) := by omega
   first
     | (rw [decide_eq_true q'] at h5; exact absurd h5 (by decide))
     | (simp at h5; omega)
 cases hwl with
 | cons w1 w2 =>
   cases w2
   cases w1 with
   | list ho hall => exact ⟨_, _, ns, rfl, rfl, ho, ints_of_wellAll ns _ hall, hlen⟩
theorem post_true (l : OpenLaw) (args : List WData) : l.row.toRowW.claim.post args (.bool true) args = true :=
 postW_of (r := l.row.toRowW) (X := (true == true))
   (show WShape.has [] (.bool true) .bool = true by first | rfl | decide | simp [WShape.has, WShape.arms, WShape.armsAll])
   (show (WTm.eq .res (.lit (.bool true))).value [] { args := args, res := some (.bool true), after := args } = some (.bool (true == true)) from w_eq_bool (w_res rfl) w_lit) rfl
theorem attach_call {l : OpenLaw} {n : Nat} {q : Program} {loose : List Str} {XP : (Str → Option Value) → Heap → Prop} {YP : World → Heap → Prop} {d : DefRec}
   (hn : l.most = some n) (hdf : d.params.defaults = [])
   (call : ∀ (w : World) (s₀ s₁ : Shared) (mg mb : Str → Option Value) (fa : Addr) (o : Obj) (pm cd doc : Value) (a : Addr) (vs : List Value) (ns : List Int),
     Ground q loose [] XP w s₀ mg mb s₁.heap → YP w s₁.heap →
     s₁.heap.get? fa = some o → o.data = .func (docDef d.name d.params d.body d.scope pm cd doc) → s₁.heap.CodeRec cd d.name → mg d.name = some (.ref fa) →
     s₁.heap.get? a = some { cls := .type "list", data := .seq vs.toArray } → IntsAre vs ns → ns.length ≤ n → s₁.gens = #[] →
     codeAny (model l.prog w) callerA (.call (.ref fa) ⟨[.ref a], []⟩) (fun r s' => r = .ok (.ret (.bool true)) ∧ OldK s₁.heap s'.heap ∧ s'.os = s₁.os ∧ AllBare s'.gens) s₁) :
   WalkO q loose XP YP l.row.toRowW d [] (fun f vs => PySem.call f vs) := by
 intro w s₀ s₁ mg mb G Y fa o pm cd doc dV kV ho hd hcd hD hmg hg args vals as hpre hlay hrd hwl hlo
 obtain rfl : dV = .none := Dflts.none hD hdf
 obtain rfl : kV = .none := Dflts.noKw hD
 obtain ⟨a, vs, ns, rfl, rfl, hobj, hints, hlen⟩ := script_of hn hpre hwl
 refine enter_call (codeAny_mono (call w s₀ s₁ mg mb fa o pm cd doc a vs ns G Y ho (fd_plain hd) hcd hmg hobj hints hlen hg) fun r s' hq => ?_)
 obtain ⟨rfl, h2, h3, h4⟩ := hq
 exact ⟨.inl ⟨.bool true, .bool true, [], rfl, fun _ => rfl, .bool true, post_true l _, fun _ => ⟨List.Pairwise.nil, fun _ hm => (nomatch hm)⟩⟩, h2, h3, h4⟩
section
variable {prog : Program} {w : World} {A : Around} {E : Value → Shared → Prop} {s : Shared} {K : Frag}
end
end Att
namespace L2
open PySem PySem.Spec PyProof.Rows
theorem vals_ints : ∀ {vs : List Value} {ns : List Int}, IntsAre vs ns → Vals (ns.map V.int) vs
 | _, _, .nil => .nil
 | _, _, .cons n t h => .cons ⟨t, rfl⟩ (vals_ints h)
def Only (H : Hp) : Prop := ∀ b, H b = none ∨ ∃ o xs, H b = some (.frz o (.lst xs))
theorem law_call {P : Program} {w : World} {K : PySem.W.Frag} {mg mb : Str → Option Value} {CX : CXT} {k : Nat} {fa a : Addr} {fd : FuncData} {x : Str} {sp : Sp} {s₁ : Shared} {vs : List Value} {ns : List Int}
   (KX : K.In s₁.heap) (hns : s₁.heap.Ns mainGlobals mg) (hb : s₁.heap.Ns builtinsNs mb) (hbb : ∀ x : Str, x ≠ "__name__" → mb x = bootBuiltins x) (hlim : s₁.heap.NoLimit) (hg : s₁.gens = #[])
   (ha : s₁.heap.get? a = some { cls := .type "list", data := .seq vs.toArray }) (hi : IntsAre vs ns) (hl : ns.length ≤ sizeLine) (hr : Room k callerA)
   (F : ∀ base : Heap, K.In base → base.Ns mainGlobals mg → FnOk P w K mg base CX k fa fd [x] sp) (hbind : ∀ (s : Shared) (u : Value), BindsTo s fd ⟨[u], []⟩ [(x, u)])
   (hsp : ∀ H : Hp, Only H → SqL K H a (ns.map V.int) → sp [.ref a] H (fun v _ => v = .bl true) fun _ _ _ => False)
   (hCX : ∀ H e s', CX [] H s₁ (fun _ _ _ => False) e s' → False) :
   codeAny (model P w) callerA (.call (.ref fa) ⟨[.ref a], []⟩) (fun r s' => r = .ok (.ret (.bool true)) ∧ OldK s₁.heap s'.heap ∧ s'.os = s₁.os ∧ AllBare s'.gens) s₁ := by
 have rv := vals_ints hi
 have lenV := hi.length
 -- from an abstract heap in which nothing but the script may be tracked
 have core : ∀ H : Hp, Only H → SqL K H a (ns.map V.int) → HOk P w H s₁.heap → (∀ b, H b ≠ none → b = a) → (H a ≠ none → K.lookup a = none) →
     codeAny (model P w) callerA (.call (.ref fa) ⟨[.ref a], []⟩) (fun r s' => r = .ok (.ret (.bool true)) ∧ OldK s₁.heap s'.heap ∧ s'.os = s₁.os ∧ AllBare s'.gens) s₁ := by
   intro H hO hS hok hA hK
   have base_of : ∀ {b : Addr} {o : Obj}, s₁.heap.get? b = some o → H b = none → (hidT s₁.heap H).get? b = some o := fun e n => hidT_get e n
   have noA : ∀ {b : Addr} {o : Obj} {es : Array DictEntry} {ep : Nat}, s₁.heap.get? b = some o → o.data = .dict es ep → H b = none := fun {b o es ep} e d => by
     cases q : H b with
     | none => rfl
     | some u =>
       have e' : b = a := hA b (by rw [q]; simp)
       subst e'
       rw [ha] at e; cases e
       have d' : Data.seq vs.toArray _ = Data.dict es ep := d
       cases d'
   have nsK : ∀ {b : Addr} {m : Str → Option Value}, s₁.heap.Ns b m → (hidT s₁.heap H).Ns b m := fun {b m} ⟨o, es, ep, e, d, r⟩ => ⟨o, es, ep, base_of e (noA e d), d, r⟩
   have hKb : K.In (hidT s₁.heap H) := fun b o e => base_of (KX b o e) (by
     cases q : H b with
     | none => rfl
     | some u =>
       have e' : b = a := hA b (by rw [q]; simp)
       subst e'
       rw [hK (by rw [q]; simp)] at e; cases e)
   have hM : Mod K mg (hidT s₁.heap H) := ⟨hKb, nsK hns, ⟨mb, nsK hb, hbb⟩, let ⟨mc, h1, h2⟩ := hlim; ⟨mc, nsK h1, h2⟩⟩
   have e0 : Env0 P w K mg (hidT s₁.heap H) callerA [] s₁ H := ⟨rfl, hM, fun b o e => of_hidT e, Nat.le_of_eq (hidT_size _ _), trivial, fun b hb => absurd (show b ∈ ([] : List Addr) from hb) (by simp), hok, .of_eq hg⟩
   refine codeAny_mono ((F _ hKb (nsK hns)).run callerA [] s₁ H ⟨[.ref a], []⟩ [.ref a] [.ref a] _ _ hr e0 (hbind s₁ (.ref a)) (.cons rfl .nil) (hsp H hO hS)) fun r s' h => ?_
   cases r with
   | error e => exact (hCX H e s' h).elim
   | ok fl =>
     cases fl with
     | next => exact False.elim h
     | brk => exact False.elim h
     | cont => exact False.elim h
     | ret u =>
       obtain ⟨v, H', os, bare, un, hok', r', q⟩ := h
       have q' : v = .bl true := q
       subst q'
       obtain rfl : u = Value.bool true := r'
       refine ⟨rfl, OldK.of_keep fun b o e => ?_, os, bare⟩
       cases q : H b with
       | none => exact un.keep b o e q (by intro z; exact absurd (show b ∈ ([] : List Addr) from z) (by simp)) (by simp)
       | some u =>
         rcases hO b with z | ⟨ob, xs, z⟩
         · rw [q] at z; cases z
         · have z2 := un.frzs b ob _ z
           obtain ⟨e1, _⟩ := hok b _ z
           obtain ⟨e2, _⟩ := hok' b _ z2
           rw [e] at e1; cases e1
           exact e2
 cases hk : K.lookup a with
 | some o =>
   -- the script is one of the module's own objects
   have e := KX a o hk
   rw [ha] at e
   cases e
   refine core (fun _ => none) (fun _ => .inl rfl) (.inr ⟨_, vs.toArray, _, hk, rfl, rfl, rfl, by rw [List.size_toArray, lenV]; exact hl, by simpa using rv⟩) (fun b u z => by have z' : (none : Option HO) = some u := z; cases z') (fun b z => absurd rfl z) fun z => absurd rfl z
 | none =>
   refine core (fun b => if b = a then some (.frz { cls := .type "list", data := .seq vs.toArray } (.lst (ns.map V.int))) else none) (fun b => ?_) (.inl (.inr ⟨{ cls := .type "list", data := .seq vs.toArray }, if_pos rfl⟩)) (fun b u z => ?_) (fun b z => ?_) fun _ => hk
   · by_cases hb : b = a
     · exact .inr ⟨_, _, if_pos hb⟩
     · exact .inl (if_neg hb)
   · by_cases hb : b = a
     · have z' := (if_pos hb).symm.trans z
       cases z'
       subst hb
       exact ⟨ha, by rw [List.length_map]; exact hl, vs, _, rv, ha⟩
     · have z' := (if_neg hb).symm.trans z
       cases z'
   · by_cases hb : b = a
     · exact hb
     · exact absurd (if_neg hb) z
end L2
namespace L2
open PySem PySem.Spec PyProof.Rows
abbrev KOf {K : PySem.W.Frag} {h : Heap} (_ : K.In h) : PySem.W.Frag := K
theorem walk_of {l : PySem.W.OpenLaw} {n k : Nat} {q : Program} {loose : List Str} {XP : (Str → Option Value) → Heap → Prop} {YP : World → Heap → Prop} {d : DefRec} {K : Params → PySem.W.Frag} {CX : World → CXT} {sp : World → Sp} {x : Str}
   (hn : l.most = some n) (hn2 : n ≤ sizeLine) (hdf : d.params.defaults = []) (hr : Room k callerA)
   (hY : ∀ (w : World) (h : Heap), YP w h → (K w.params).In h)
   (F : ∀ (w : World) (mg : Str → Option Value) (fa : Addr) (h : Heap), (K w.params).In h → h.Ns mainGlobals mg → mg d.name = some (.ref fa) →
     ∃ fd : FuncData, (∀ (s : Shared) (u : Value), BindsTo s fd ⟨[u], []⟩ [(x, u)]) ∧
       ∀ base : Heap, (K w.params).In base → base.Ns mainGlobals mg → FnOk l.prog w (K w.params) mg base (CX w) k fa fd [x] (sp w))
   (hsp : ∀ (w : World) (H : Hp) (a : Addr) (ns : List Int), ns.length ≤ n → Only H → SqL (K w.params) H a (ns.map V.int) → sp w [.ref a] H (fun v _ => v = .bl true) fun _ _ _ => False)
   (hCX : ∀ (w : World) (H : Hp) (s : Shared) (e : Value) (s' : Shared), CX w [] H s (fun _ _ _ => False) e s' → False) :
   PySem.W.WalkO q loose XP YP l.row.toRowW d [] (fun f vs => PySem.call f vs) := by
 refine Att.attach_call hn hdf fun w s₀ s₁ mg mb fa o pm cd doc a vs ns G Y ho hd hcd hmg hobj hints hlen hg => ?_
 have KX := hY w _ Y
 obtain ⟨fd, hb, hF⟩ := F w mg fa _ KX G.T.g hmg
 exact law_call KX G.T.g G.T.b G.T.builtins G.T.nolimit hg hobj hints (Nat.le_trans hlen hn2) hr hF hb (fun H hO hS => hsp w H a ns hlen hO hS) fun H e s' => hCX w H s₁ e s'
end L2
namespace L2
open PySem PySem.Spec PyProof.Rows
def inClass (s : Stmt) (j : Nat) : Stmt := match s with
 | .ClassDef _ _ _ body _ _ _ _ _ _ _ => body.getD j (.Pass ⟨0, 0, 0, 0⟩)
 | _ => .Pass ⟨0, 0, 0, 0⟩
def defArgs (s : Stmt) : Arguments := match s with
 | .FunctionDef _ a _ _ _ _ _ _ _ _ => a
 | _ => { posonlyargs := [], args := [], vararg := none, kwonlyargs := [], kw_defaults := [], kwarg := none, defaults := [] }
def defBody (s : Stmt) : List Stmt := match s with
 | .FunctionDef _ _ b _ _ _ _ _ _ _ => b
 | _ => []
def defScope (s : Stmt) : Scope := match s with
 | .FunctionDef _ _ _ _ _ _ sc _ _ _ => sc
 | _ => { kind := .function, names := [], isGenerator := false, isCoroutine := false }
abbrev CX0 : CXT := fun _ _ _ _ _ _ => False
abbrev E0 : XK := fun _ _ _ => False
theorem pass0 {X : Cx} : Passes CX0 X E0 := fun _ _ _ _ _ _ _ h => h.elim
structure Fun (K : PySem.W.Frag) (x qual : Str) (st : Stmt) (f : Addr) (fd : FuncData) : Prop where
 ex : ∃ (oc : Value) (od : Option Addr) (kV doc pm : Value) (an : Option Addr) (cdv ct : Value) (osl : Array (Option Value)),
   fd = PySem.W.fnOf x qual (defArgs st) (defBody st) (defScope st) .none kV doc pm an cdv ct ∧ K.lookup f = some ⟨oc, od, .func fd, osl⟩ ∧ PySem.W.codeIn K cdv qual = true
 kp : PySem.W.keepIn K (.ref f) = true
section
variable {P : Program} {w : World} {K : PySem.W.Frag} {mg : Str → Option Value} {base : Heap}
theorem Fun.ok {x qual : Str} {st : Stmt} {f : Addr} {fd : FuncData} {N ps : List Str} {k : Nat} {sp : Sp} (F : Fun K x qual st f fd) (S : FnScope N ps (defScope st)) (len : ∀ vs H Q E, sp vs H Q E → vs.length = ps.length)
   (hbody : ∀ (cdv : Value) (A : Around) (outer : List Env) (s : Shared) (H : Hp) (vs : List V) (Q : VK) (E : XK), Room k (A.deeper (envOfC qual (defScope st) s.heap.objs.size f cdv)) → sp vs H Q E →
     ∃ t, PSs (cxOf CX0 P w K mg base N qual (defScope st) f cdv A outer s H E).nox (defBody st) t ∧ t { nx := fun _ H' => Q .non H', rt := Q } (start N vs) H) : FnOk P w K mg base CX0 (k + 1) f fd ps sp := by
 obtain ⟨oc, od, kV, doc, pm, an, cdv, ct, osl, rfl, lk, hcd⟩ := F.ex
 refine fn_of lk hcd S len fun A outer s H vs Q E hr hsp => ?_
 obtain ⟨t, h, q⟩ := hbody cdv A outer s H vs Q E hr hsp
 exact ⟨t, h.nox, q⟩
theorem Fun.binds {x qual : Str} {st : Stmt} {f : Addr} {fd : FuncData} {ps : List Str} (F : Fun K x qual st f fd)
   (h : ∀ (kV doc pm : Value) (an : Option Addr) (cdv ct : Value) (us : List Value), us.length = ps.length → bindArgs (PySem.W.fnOf x qual (defArgs st) (defBody st) (defScope st) .none kV doc pm an cdv ct) ⟨us, []⟩ = pure (ps.zip us)) : Binds K fd ps [] := by
 obtain ⟨oc, od, kV, doc, pm, an, cdv, ct, osl, rfl, lk, hcd⟩ := F.ex
 exact .all (h kV doc pm an cdv ct)
theorem fun_mk {x qual : Str} {st : Stmt} {f : Addr} {oc : Value} {od an : Option Addr} {osl : Array (Option Value)} {kV doc pm cdv ct : Value} (l : K.lookup f = some ⟨oc, od, .func (PySem.W.fnOf x qual (defArgs st) (defBody st) (defScope st) .none kV doc pm an cdv ct), osl⟩)
   (c : PySem.W.codeIn K cdv qual = true) (k : PySem.W.keepIn K (.ref f) = true) : Fun K x qual st f (PySem.W.fnOf x qual (defArgs st) (defBody st) (defScope st) .none kV doc pm an cdv ct) := ⟨⟨oc, od, kV, doc, pm, an, cdv, ct, osl, rfl, l, c⟩, k⟩
end
section
variable {X : Cx}
theorem pv (i : Nat) {x : Str} {pos : Pos} (hN : X.N[i]? = some x := by rfl) (hv : Vis X.env.scope x := by first | exact Or.inl rfl | exact Or.inr (Or.inl rfl) | exact Or.inr (Or.inr rfl)) (hd : (x == ("__debug__" : Str)) = false := by decide)
   (hcd : (x == ("__classdict__" : Str)) = false := by decide) : PE X (.Name x pos) (tVar i) := pe_var hN hv hd hcd
end
theorem iteF {A B : Prop} (h : B) : if false = true then A else B := by
 rw [if_neg Bool.false_ne_true]
 exact h
theorem iteT {A B : Prop} (h : A) : if true = true then A else B := by
 rw [if_pos rfl]
 exact h
def Same (H H' : Hp) : Prop := ∀ b o, H b = some o → H' b = some o
theorem Same.refl (H : Hp) : Same H H := fun _ _ h => h
theorem Same.trans {H H1 H2 : Hp} (a : Same H H1) (b : Same H1 H2) : Same H H2 := fun c o h => b c o (a c o h)
theorem Same.seq {K : PySem.W.Frag} {H H' : Hp} {a : Addr} {xs : List V} (e : Same H H') (h : SqL K H a xs) : SqL K H' a xs := by
 rcases h with (h | ⟨o, h⟩) | h
 · exact .inl (.inl (e _ _ h))
 · exact .inl (.inr ⟨o, e _ _ h⟩)
 · exact .inr h
section
variable {κ : Type} [DecidableEq κ]
end
end L2
namespace Bt
end Bt
namespace L3
open PySem PySem.Spec PyProof.Rows L2
abbrev St := L2.St
def lstO (its : List Value) : Obj := { cls := .type "list", data := .seq its.toArray its.length }
theorem lstO_snoc (its : List Value) (y : Value) : ({ cls := .type "list", data := .seq (its.toArray.push y) (its.length + 1) } : Obj) = lstO (its ++ [y]) := by
 show ({ cls := .type "list", data := .seq (its.toArray.push y) (its.length + 1) } : Obj) = { cls := .type "list", data := .seq (its ++ [y]).toArray (its ++ [y]).length }
 rw [List.length_append, List.length_singleton, List.push_toArray]
section
variable {prog : Program} {w : World} {A : Around} {R : Result → Shared → Prop} {s : Shared}
theorem compLoop_go {elt target iter : Expr} {ifs : List Expr} {scope : Scope} {pos : Pos} {it acc : Value} {env : Env} (I : Nat → Shared → Prop)
   (turn : ∀ n s, I n s → wpAny (model prog w) A (pyNext it) (fun r s1 => match r with
     | none => R (.ok .next) s1
     | some v => wpAny (model prog w) A (letOwnedTupleGo target it v) (fun _ s2 => wpAny (model prog w) A (assign target env v) (fun _ s3 =>
         wpAny (model prog w) A (forIn ifs true fun c r => if r = true then do let ok ← isTrue c env (eval c env); pure (ForInStep.yield ok) else pure (ForInStep.yield r)) (fun ok s4 =>
           if ok = true then wpAny (model prog w) A (eval elt env) (fun x s5 =>
             wpAny (model prog w) A (call (.builtin "list.append") [acc, x]) (fun _ s6 => ∃ m, m < n ∧ I m s6) (notedBy (model prog w) A env fun e s' => R (.error e) s') s5) (notedBy (model prog w) A env fun e s' => R (.error e) s') s4
           else ∃ m, m < n ∧ I m s4) (notedBy (model prog w) A env fun e s' => R (.error e) s') s3) (notedBy (model prog w) A env fun e s' => R (.error e) s') s2)
         (notedBy (model prog w) A env fun e s' => R (.error e) s') s1) (notedBy (model prog w) A env fun e s' => R (.error e) s') s)
   (n : Nat) (h : I n s) :
   codeAny (model prog w) A (.compLoop (.ListComp elt [⟨target, iter, ifs, 0⟩] scope pos) 0 it acc env) R s := by
 refine codeAny_loop rfl I (fun n s hI => ?_) n h
 show wpAny _ A ((compTurn (.ListComp elt [⟨target, iter, ifs, 0⟩] scope pos) 0 it acc env).onRaise (fun x => do noteFrame x env; theTreesLotGoes x)) _ _ s
 refine wpAny_noted ?_
 rw [compTurn_list]
 refine wpAny_bind (wpAny_standAt (wpAny_bind (wpAny_mono (turn n s hI) (fun r s1 h1 => ?_) fun _ _ h' => h')))
 cases r with
 | none => exact wpAny_pure h1
 | some v =>
   refine wpAny_bind (wpAny_mono h1 (fun _ s2 h2 => ?_) fun _ _ h' => h')
   refine wpAny_bind (wpAny_mono h2 (fun _ s3 h3 => wpAny_bind (wpAny_mono h3 (fun ok s4 h4 => ?_) fun _ _ h' => h')) fun _ _ h' => h')
   cases ok with
   | false => exact wpAny_pure ⟨rfl, h4⟩
   | true =>
     exact wpAny_bind (wpAny_bind (wpAny_mono h4 (fun x s5 h5 => wpAny_bind (wpAny_mono h5 (fun _ s6 h6 => wpAny_pure (wpAny_pure ⟨rfl, h6⟩)) fun _ _ h' => h')) fun _ _ h' => h'))
end
def cxComp (X : Cx) (scope : Scope) (cl : List (Str × Addr)) (own : List Str) (fr : List (Str × Nat)) (C : Addr) (s2 : Shared) (H2 : Hp) (fp : List Addr) : Cx :=
 { prog := X.prog, w := X.w, K := X.K, mg := X.mg, base := X.base, A := X.A, N := own ++ fr.map (·.1), s₀ := s2, H₀ := H2, env := compEnvC scope cl C X.env, outer := X.stack, stack := X.stack,
   ex := fp, fn := fun _ => false, calm := X.calm, pn := [], xe := fun _ _ => False }
def innerS (own : List Str) (fr : List (Str × Nat)) (σ : St) : St := own.map (fun _ => none) ++ fr.map fun p => (σ[p.2]?).join
def ClOk (env : Env) : List (Str × Addr) → Prop
 | [] => True
 | (n, c) :: r => env.cells.lookup n = some c ∧ ClOk env r
theorem ClOk.get {env : Env} : ∀ {cl : List (Str × Addr)} {x : Str} {c : Addr}, ClOk env cl → cl.lookup x = some c → env.cells.lookup x = some c
 | [], _, _, _, h => by simp at h
 | (n, d) :: r, x, c, ok, h => by
   rw [List.lookup_cons] at h
   cases e : x == n with
   | true =>
     rw [e] at h
     have e' : x = n := by simpa using e
     cases h
     rw [e']
     exact ok.1
   | false =>
     rw [e] at h
     exact ClOk.get ok.2 h
def CellK (sc : Scope) (x : Str) : Prop := sc.names.lookup x = some .cell ∨ sc.names.lookup x = some .free
def FrOk (X : Cx) (scope : Scope) (cl : List (Str × Addr)) : List (Str × Nat) → Prop
 | [] => True
 | (x, j) :: r => (X.N[j]? = some x ∧ CellK X.env.scope x ∧ CellK (relabel scope X.env) x ∧ (cl.lookup x).isSome = true) ∧ FrOk X scope cl r
theorem FrOk.get {X : Cx} {scope : Scope} {cl : List (Str × Addr)} : ∀ {fr : List (Str × Nat)} {i : Nat} {p : Str × Nat}, FrOk X scope cl fr → fr[i]? = some p →
   X.N[p.2]? = some p.1 ∧ CellK X.env.scope p.1 ∧ CellK (relabel scope X.env) p.1 ∧ (cl.lookup p.1).isSome = true
 | [], _, _, _, h => by simp at h
 | (x, j) :: r, 0, p, ok, h => by
   simp at h
   subst h
   exact ok.1
 | (x, j) :: r, i + 1, p, ok, h => FrOk.get (i := i) ok.2 (by simpa using h)
structure CompSc (X : Cx) (scope : Scope) (cl : List (Str × Addr)) (own : List Str) (fr : List (Str × Nat)) : Prop where
 clos : closureFor scope X.env = pure cl
 cells : ClOk X.env cl
 frs : FrOk X scope cl fr
 kind : scope.kind = .function
 nocell : ∀ y ∈ scope.names, y.2 ≠ .cell
 names : ∀ y ∈ scope.names, y.2 = .local → scope.names.lookup y.1 = some .local
 has : (scope.names.all fun y => y.2 != .free || (cl.lookup y.1).isSome) = true
theorem lookup_relabel_has {env : Env} {cl : List (Str × Addr)} : ∀ {names : List (Str × NameKind)} {x : Str}, (∀ y ∈ names, y.2 ≠ .cell) → (names.all fun y => y.2 != .free || (cl.lookup y.1).isSome) = true →
   ((names.map fun (n, k) => if (k == NameKind.free && env.scope.kind == .function && env.kindOf n == some .cell) then (n, NameKind.cell) else (n, k)).lookup x = some .cell ∨
    (names.map fun (n, k) => if (k == NameKind.free && env.scope.kind == .function && env.kindOf n == some .cell) then (n, NameKind.cell) else (n, k)).lookup x = some .free) → ∃ c, cl.lookup x = some c
 | [], _, _, _, h => by rcases h with h | h <;> simp at h
 | (n, k) :: r, x, nc, ha, h => by
   rw [List.all_cons, Bool.and_eq_true] at ha
   have ih := @lookup_relabel_has env cl r x (fun y hy => nc y (List.mem_cons_of_mem _ hy)) ha.2
   have nk : k ≠ .cell := nc (n, k) List.mem_cons_self
   have hk := ha.1
   cases hx : x == n with
   | true =>
     have ex : x = n := by simpa using hx
     subst ex
     by_cases hf : k = .free
     · subst hf
       have z : (cl.lookup x).isSome = true := by simpa using hk
       exact Option.isSome_iff_exists.mp z
     · exfalso
       have hb : (k == NameKind.free) = false := by simpa using hf
       rcases h with h | h
       · rw [List.map_cons] at h
         simp only [hb, Bool.false_and, Bool.false_eq_true, if_false, List.lookup_cons, beq_self_eq_true] at h
         exact nk (Option.some.inj h)
       · rw [List.map_cons] at h
         simp only [hb, Bool.false_and, Bool.false_eq_true, if_false, List.lookup_cons, beq_self_eq_true] at h
         exact hf (Option.some.inj h)
   | false =>
     refine ih ?_
     rcases h with h | h
     · left
       rw [List.map_cons] at h
       by_cases hc : (k == NameKind.free && env.scope.kind == .function && env.kindOf n == some .cell) = true
       · simp only [hc, if_true, List.lookup_cons, hx] at h; exact h
       · simp only [hc, Bool.false_eq_true, if_false, List.lookup_cons, hx] at h; exact h
     · right
       rw [List.map_cons] at h
       by_cases hc : (k == NameKind.free && env.scope.kind == .function && env.kindOf n == some .cell) = true
       · simp only [hc, if_true, List.lookup_cons, hx] at h; exact h
       · simp only [hc, Bool.false_eq_true, if_false, List.lookup_cons, hx] at h; exact h
def PTs (Y : Cx) (ifs : List Expr) (t : TT) : Prop :=
 ∀ (pins : List (Addr × Obj)) (s : Shared) (σ : St) (H : Hp) (Q : Bool → Hp → Prop), Inv Y pins σ H s → t σ H Q →
   wpAny (model Y.prog Y.w) Y.A (forIn ifs true fun c r => if r = true then do let ok ← isTrue c Y.env (eval c Y.env); pure (ForInStep.yield ok) else pure (ForInStep.yield r)) (TP Y pins σ Q) Y.xe s
def tTrue : TT := fun _ H Q => Q true H
theorem pts_nil {Y : Cx} : PTs Y [] tTrue := fun _ _ _ H _ I h => wpAny_tests_nil ⟨H, I, h⟩
theorem pts_one {Y : Cx} {c : Expr} {t : TT} (h : PT Y c t) : PTs Y [c] t := fun pins s σ H Q I hw => wpAny_tests_one (h pins s σ H Q I hw)
def tComp (own : List Str) (fr : List (Str × Nat)) (wi : TI) (g : TG) (tc : TT) (te : TE) (fin : List V → Hp → Prop) : St → Hp → Prop := fun σ H => wi σ H fun J H1 =>
 ∃ W : Nat → Nat → List V → St → Hp → Prop, (∃ m, W 0 m [] (innerS own fr σ) H1) ∧ ∀ i m ys σ' H', W i m ys σ' H' →
   (J.stop i H' ∧ ys.length ≤ sizeLine ∧ fin ys H') ∨
   (J.go i H' ∧ ∃ N : List V → St → Hp → Prop, (∀ ys2 σ2 H2, N ys2 σ2 H2 → ys2.length ≤ sizeLine ∧ ∃ m', m' < m ∧ W (i + 1) m' ys2 σ2 H2) ∧
     ∀ x H2, J.yld i H' x H2 → g x σ' H2 fun σ3 H3 => tc σ3 H3 fun b H4 => if b = true then te σ3 H4 fun y H5 => N (ys ++ [y]) σ3 H5 else N ys σ3 H4)
structure Off (X : Cx) (pins : List (Addr × Obj)) (H : Hp) (C : Addr) : Prop where
 none : H C = none
 loc : C ≠ X.env.locals
 above : X.s₀.heap.objs.size ≤ C
 cell : ∀ x c, X.env.cells.lookup x = some c → c ≠ C
 pin : ∀ p ∈ X.pn ++ pins, p.1 ≠ C
section
variable {X : Cx} {tg elt iter : Expr} {ifs : List Expr} {scope : Scope} {cl : List (Str × Addr)} {own : List Str} {fr : List (Str × Nat)} {wi : TI} {g : TG} {tc : TT} {te : TE} {pos : Pos}
theorem comp_core (hc : X.calm = true) (S : CompSc X scope cl own fr) (hi : PI X tg iter wi) (hg : ∀ C s2 H2 fp, PG (cxComp X scope cl own fr C s2 H2 fp) tg g)
   (ht : ∀ C s2 H2 fp, PTs (cxComp X scope cl own fr C s2 H2 fp) ifs tc) (he : ∀ C s2 H2 fp, PE (cxComp X scope cl own fr C s2 H2 fp) elt te)
   {pins : List (Addr × Obj)} {s : Shared} {σ : St} {H : Hp} {fin : List V → Hp → Prop} (I : Inv X pins σ H s) (h : tComp own fr wi g tc te fin σ H)
   {RR : Value → Addr → Result → Shared → Prop}
   (hR : ∀ (D C : Addr) (s4 : Shared) (H3 : Hp) (ys : List V) (m : Str → Option Value), H3 D = none → Inv X pins σ (upd H3 D (.lst ys)) s4 → s4.heap.Ns C m → Off X pins (upd H3 D (.lst ys)) C → fin ys H3 → RR (.ref D) C (.ok .next) s4) :
   wpAny (model X.prog X.w) X.A (eval iter X.env) (fun x s1 => wpAny (model X.prog X.w) X.A (pyIter x) (fun itv s2 => wpAny (model X.prog X.w) X.A (newList []) (fun acc s3 =>
     wpAny (model X.prog X.w) X.A (newFunctionEnv scope X.env.globals cl [] X.env.qual none .none (some X.env)) (fun cenv s4 =>
       codeAny (model X.prog X.w) X.A (.compStart (.ListComp elt [⟨tg, iter, ifs, 0⟩] scope pos) 0 itv acc { cenv with scope := relabel scope X.env }) (RR acc cenv.locals) s4) X.xe s3) X.xe s2) X.xe s1) X.xe s := by
 refine thn (hi pins s σ H _ I h) fun v s1 h1 => thn h1 fun itv s2 h2 => ?_
 obtain ⟨it, fp, tn, J, H2, rfl, I2, T, st2, f2, W, ⟨m0, w0⟩, turn⟩ := h2
 refine wpAny_newObj_type (wpAny_newFunctionEnv S.nocell (by intro y hy; simp at hy) (fun h1 hns1 hsb1 => ?_) S.kind)
 dsimp only at hns1 hsb1 ⊢
 generalize hHP : s2.heap.push { cls := .type "list", dict := none, data := .seq ([] : List Value).toArray } = HP at hns1 hsb1 ⊢
 have hC : HP.objs.size = s2.heap.objs.size + 1 := by rw [← hHP, Heap.size_push]
 have hDC : s2.heap.objs.size ≠ HP.objs.size := by rw [hC]; exact Nat.ne_of_lt (Nat.lt_succ_self _)
 have below : ∀ b, b < s2.heap.objs.size → b ≠ HP.objs.size ∧ b ≠ s2.heap.objs.size := fun b hb => ⟨by rw [hC]; exact Nat.ne_of_lt (Nat.lt_succ_of_lt hb), Nat.ne_of_lt hb⟩
 have old : ∀ b o, s2.heap.get? b = some o → h1.get? b = some o := fun b o e => hsb1.extBut b o (below b (Heap.lt_size e)).1 (Heap.get?_push_of_some _ (hHP ▸ Heap.get?_push_of_some _ e))
 have hacc : h1.get? s2.heap.objs.size = some (lstO []) := hsb1.extBut _ _ hDC (Heap.get?_push_of_some _ (hHP ▸ Heap.get?_push_size _ rfl))
 have hfpo : ∀ b ∈ fp, b < s2.heap.objs.size := fun b hb => by obtain ⟨o, e, _⟩ := T.obj 0 _ st2 b hb; exact Heap.lt_size e
 have hcells : ∀ x c, cl.lookup x = some c → X.env.cells.lookup x = some c := fun x c e => S.cells.get e
 have hcD : ∀ x c, X.env.cells.lookup x = some c → c < s2.heap.objs.size := fun x c e => by obtain ⟨v, q⟩ := I2.cell x c e; exact q.lt
 have st1 : tn 0 h1 := T.keep _ _ _ st2 fun b _ o e => old b o e
 have hDfree : H2 s2.heap.objs.size = none := I2.hok.fresh (Nat.le_refl _)
 have hCfree : H2 HP.objs.size = none := I2.hok.fresh (by rw [hC]; exact Nat.le_succ _)
 have nostk : ∀ b, s2.heap.objs.size ≤ b → b ∉ L2.frs X.stack := fun b hb hm => by
   rcases List.mem_cons.mp (I2.stkSub b hm) with e | e
   · exact absurd I2.lt (by rw [← e]; exact Nat.not_lt.mpr hb)
   · exact I2.nofs hb e
 have hDlt : s2.heap.objs.size < h1.objs.size := Heap.lt_size hacc
 -- the block's context
 have YOk : (cxComp X scope cl own fr HP.objs.size s2 H2 fp).Ok := by
   refine ⟨I2.ok.mod, S.kind, I2.ok.glob, I2.ok.blt, ?_, fun x y c e1 e2 => I2.ok.inj x y c (hcells _ _ e1) (hcells _ _ e2), fun x hx => ?_, fun x c hf => ?_, I2.ok.hd, I2.ok.frames, .inl rfl, fun b hb => ⟨?_, fun x c e => ?_⟩,
     I2.bs, Nat.le_trans I2.ok.bsz I2.sz, fun b o e hb => ?_, fun b hb hm => ?_, I2.stack, I2.stkFree⟩
   · show s2.heap.objs.size ≤ HP.objs.size
     rw [hC]; exact Nat.le_succ _
   · exact lookup_relabel_has (env := X.env) S.nocell S.has hx
   · cases hf
   · exact (below b (hfpo b hb)).1
   · exact (f2 b hb).2.2.2.2.1 x c (hcells _ _ e)
   · rcases (f2 b hb).2.2.2.1 with z | z
     · exact I2.ok.noex b o e z
     · exact absurd (Heap.lt_size (I2.ok.bs b o e).1) (Nat.not_lt.mpr z)
   · rcases List.mem_cons.mp (I2.stkSub b hm) with e | e
     · exact (f2 b hb).2.1 e
     · exact (f2 b hb).2.2.1 e
 have hpinD : ∀ {h' : Heap} {its : List Value} {H' : Hp}, h'.get? s2.heap.objs.size = some (lstO its) → H' s2.heap.objs.size = none → ∀ p ∈ ([(s2.heap.objs.size, lstO its)] : List (Addr × Obj)),
     h'.get? p.1 = some p.2 ∧ H' p.1 = none ∧ p.1 ≠ HP.objs.size ∧ p.1 ∉ L2.frs X.stack ∧ ∀ v, p.2.data ≠ .cell v := fun {h' its H'} e n p hp => by
   have e1 : p = (s2.heap.objs.size, lstO its) := by simpa using hp
   subst e1
   exact ⟨e, n, hDC, nostk _ (Nat.le_refl _), fun v z => by cases z⟩
 have IY : Inv (cxComp X scope cl own fr HP.objs.size s2 H2 fp) [(s2.heap.objs.size, lstO [])] (innerS own fr σ) H2 { s2 with heap := h1, toks := s2.toks + ([] : List (Str × Value)).length } := by
   refine ⟨YOk, rfl, I2.bare, Un.kept old, ⟨_, hns1, fun i x v e1 e2 e3 => ?_⟩, fun x c e => ?_, hCfree, fun x c e => I2.freeC x c (hcells _ _ e), hpinD hacc hDfree, I2.hok.kept old, ?_⟩
   · have e1' : (own ++ fr.map (·.1))[i]? = some x := e1
     have e2' : (own.map (fun _ => (none : Option V)) ++ fr.map fun p => (σ[p.2]?).join)[i]? = some (some v) := e2
     by_cases hi' : i < own.length
     · rw [List.getElem?_append_left (by simpa using hi'), List.getElem?_map] at e2'
       rw [List.getElem?_eq_getElem hi'] at e2'
       cases e2'
     · rw [List.getElem?_append_right (by simpa using hi'), List.getElem?_map] at e2'
       rw [List.getElem?_append_right (Nat.not_lt.mp hi'), List.getElem?_map] at e1'
       rw [List.length_map] at e2'
       cases ef : fr[i - own.length]? with
       | none => rw [ef] at e1'; cases e1'
       | some p =>
         rw [ef] at e1' e2'
         have ex : p.1 = x := Option.some.inj e1'
         have ev : (σ[p.2]?).join = some v := Option.some.inj e2'
         obtain ⟨hN, hk, hk2, hs⟩ := S.frs.get ef
         have eσ : σ[p.2]? = some (some v) := by
           cases q : σ[p.2]? with
           | none => rw [q] at ev; cases ev
           | some o => rw [q] at ev; exact congrArg some ev
         obtain ⟨m, hn, hl⟩ := I2.loc
         obtain ⟨u, r, l⟩ := hl p.2 p.1 v hN eσ (by rcases hk with k | k; exact .inr (.inl k); exact .inr (.inr k))
         subst ex
         obtain ⟨c, ec⟩ := Option.isSome_iff_exists.mp hs
         refine ⟨u, r, .inr ⟨hk2, c, ec, ?_⟩⟩
         rcases l with ⟨hl1, _⟩ | ⟨_, c', ec', z⟩
         · have hl1' : X.env.scope.names.lookup p.1 = some .local := hl1
           rcases hk with z | z
           · rw [z] at hl1'; cases hl1'
           · rw [z] at hl1'; cases hl1'
         · have := hcells _ _ ec
           rw [ec'] at this
           cases this
           exact z.keeps old
   · obtain ⟨v, z⟩ := I2.cell x c (hcells _ _ e)
     exact ⟨v, z.keeps old⟩
   · show (own.map (fun _ => (none : Option V)) ++ fr.map fun p => (σ[p.2]?).join).length = (own ++ fr.map (·.1)).length
     simp
 have stat : ∀ {its : List Value} {H' : Hp}, (∀ b ∈ fp, H' b = none) → ∀ b ∈ fp, FpOk (cxComp X scope cl own fr HP.objs.size s2 H2 fp) [(s2.heap.objs.size, lstO its)] H' b := fun {its H'} hn b hb =>
   ⟨hn b hb, (below b (hfpo b hb)).1, fun hm => by
       rcases List.mem_cons.mp (I2.stkSub b hm) with e | e
       · exact (f2 b hb).2.1 e
       · exact (f2 b hb).2.2.1 e, .inl hb, fun x c e => (f2 b hb).2.2.2.2.1 x c (hcells _ _ e), fun p hp => by
       have e1 : p = (s2.heap.objs.size, lstO its) := by
         have hp' : p ∈ ([] : List (Addr × Obj)) ++ [(s2.heap.objs.size, lstO its)] := hp
         simpa using hp'
       subst e1
       exact (below b (hfpo b hb)).2.symm⟩
 have loop : ∀ s3 : Shared, s3 = { s2 with heap := h1, toks := s2.toks + ([] : List (Str × Value)).length } →
     codeAny (model X.prog X.w) X.A (.compLoop (.ListComp elt [⟨tg, iter, ifs, 0⟩] scope pos) 0 (.ref it) (.ref s2.heap.objs.size) (compEnvC scope cl HP.objs.size X.env)) (RR (.ref s2.heap.objs.size) HP.objs.size) s3 := by
   rintro s3 rfl
   refine compLoop_go (fun n s' => ∃ i ys its σ' H', Inv (cxComp X scope cl own fr HP.objs.size s2 H2 fp) [(s2.heap.objs.size, lstO its)] σ' H' s' ∧ Vals ys its ∧ tn i s'.heap ∧ (∀ b ∈ fp, H' b = none) ∧ W i n ys σ' H') ?_ m0
     ⟨0, [], [], innerS own fr σ, H2, IY, .nil, st1, fun b hb => (f2 b hb).1, w0⟩
   rintro n s3 ⟨i, ys, its, σ3, H3, I3, rv, st3, fr3, w3⟩
   rcases turn i n ys σ3 H3 w3 with ⟨stop, hz, qn⟩ | ⟨go, N, hN, step⟩
   · refine wpAny_mono (T.done (cxComp X scope cl own fr HP.objs.size s2 H2 fp) rfl rfl rfl hc i _ s3 σ3 H3 (fun _ _ => False) I3 (stat fr3) st3 stop) (fun r s4 h4 => ?_) fun _ _ f => f.elim
     obtain ⟨hr, I4⟩ := h4
     subst hr
     obtain ⟨eD, nD, _⟩ := I4.pin (s2.heap.objs.size, lstO its) (by simp [cxComp])
     obtain ⟨m, hn, _⟩ := id I4.loc
     have nC : H3 HP.objs.size = none := I4.free
     have bu := I4.base
     have J4 : Inv X pins σ (upd H3 s2.heap.objs.size (.lst ys)) s4 := by
       refine I2.call' (ch := fp) I4.os ⟨fun b o e n hb hx => bu.keep b o e n hb hx, fun b o e n hb hx => bu.slot b o e n hb hx, fun b o e n hx => ?_, fun b o e hx => bu.there b o e hx, fun b xs e => ?_, fun b o u e => ?_, fun b ps e => ?_⟩ ?_ I4.bare ?_
       · rw [upd_ne (below b (Heap.lt_size e)).2]; exact bu.free b o e n hx
       · have z := bu.tups b xs e
         rw [upd_ne (ne_of_none z nD)]; exact z
       · have z := bu.frzs b o u e
         rw [upd_ne (ne_of_none z nD)]; exact z
       · obtain ⟨more, z⟩ := bu.tbls b ps e
         exact ⟨more, by rw [upd_ne (ne_of_none z nD)]; exact z⟩
       · intro b o e
         by_cases hb : b = s2.heap.objs.size
         · subst hb
           rw [upd_same] at e
           cases e
           exact ⟨hz, its, its.length, rv, eD⟩
         · rw [upd_ne hb] at e
           exact (I4.hok b o e).stay (fun c u _ q => q) (fun c q => by rw [upd_ne (ne_of_none q nD)]; exact q) fun c xs q => by rw [upd_ne (ne_of_none q nD)]; exact q
       · intro b hb
         exact ⟨(f2 b hb).2.2.2.1, (f2 b hb).2.1, (f2 b hb).2.2.2.2.1, (f2 b hb).2.2.2.2.2⟩
     refine hR _ _ s4 H3 ys m nD J4 hn ⟨?_, ?_, ?_, ?_, ?_⟩ qn
     · rw [upd_ne hDC.symm]; exact nC
     · exact Nat.ne_of_gt (Nat.lt_of_lt_of_le I2.lt (by rw [hC]; exact Nat.le_succ _))
     · exact Nat.le_trans I2.sz (by rw [hC]; exact Nat.le_succ _)
     · exact fun x c e => (below c (hcD x c e)).1
     · exact fun p hp => (below p.1 (Heap.lt_size (I2.pin p hp).1)).1
   · refine wpAny_mono (T.item (cxComp X scope cl own fr HP.objs.size s2 H2 fp) rfl rfl rfl hc i _ s3 σ3 H3 (fun _ _ => False) I3 (stat fr3) st3 go) (fun r s4 h4 => ?_) fun _ _ f => f.elim
     obtain ⟨u, hr, h4⟩ := h4
     subst hr
     refine wpAny_mono h4 (fun _ s5 h5 => ?_) fun _ _ f => f.elim
     obtain ⟨x, H5, I5, r5, y5, st5, fr5⟩ := h5
     have I5' := I5.pinned (stat fr5) (T.obj _ _ st5)
     refine wpAny_mono (hg _ _ _ _ _ s5 σ3 H5 x u _ I5' r5 (step x H5 y5)) (fun _ s6 h6 => ?_) fun _ _ f => f.elim
     obtain ⟨σ6, H6, I6, q6⟩ := h6
     refine wpAny_mono (ht _ _ _ _ _ s6 σ6 H6 _ I6 q6) (fun ok s7 h7 => ?_) fun _ _ f => f.elim
     obtain ⟨H7, I7, q7⟩ := h7
     have keepT : ∀ {σ8 : St} {H8 : Hp} {s8 : Shared} {l : List (Addr × Obj)}, Inv (cxComp X scope cl own fr HP.objs.size s2 H2 fp) (l ++ pinsAt fp s5.heap) σ8 H8 s8 → tn (i + 1) s8.heap ∧ ∀ b ∈ fp, H8 b = none := fun {σ8 H8 s8 l} I8 => by
       refine ⟨T.keep _ _ _ st5 fun b hb o e => (I8.pin (b, o) (List.mem_append_right _ (List.mem_append_right _ (mem_pinsAt hb e)))).1, fun b hb => ?_⟩
       obtain ⟨o, e, _⟩ := T.obj _ _ st5 b hb
       exact (I8.pin (b, o) (List.mem_append_right _ (List.mem_append_right _ (mem_pinsAt hb e)))).2.1
     cases ok with
     | false =>
       rw [if_neg Bool.false_ne_true] at q7 ⊢
       obtain ⟨_, m', hm, w7⟩ := hN _ _ _ q7
       exact ⟨m', hm, i + 1, ys, its, σ6, H7, I7.unpinned, rv, (keepT I7).1, (keepT I7).2, w7⟩
     | true =>
       rw [if_pos rfl] at q7 ⊢
       refine wpAny_mono (he _ _ _ _ _ s7 σ6 H7 _ I7 q7) (fun y s8 h8 => ?_) fun _ _ f => f.elim
       obtain ⟨yv, H8, I8, r8, n8⟩ := h8
       obtain ⟨hlt', m', hm, w8⟩ := hN _ _ _ n8
       have hlt : ys.length < sizeLine := by rw [List.length_append] at hlt'; exact hlt'
       obtain ⟨eD, nD, nL, _, _⟩ := I8.pin (s2.heap.objs.size, lstO its) (by simp [cxComp])
       refine append_at (its := its.toArray) (n := its.length) (hsz := by rw [List.size_toArray, ← rv.length]; exact Nat.le_of_lt hlt) eD fun h9 sb9 eD9 => ?_
       have I8p : Inv (cxComp X scope cl own fr HP.objs.size s2 H2 fp) (pinsAt fp s5.heap) σ6 H8 s8 := I8.pins_of fun p hp => I8.pin p (List.mem_append_right _ (List.mem_append_right _ hp))
       have I9p : Inv (cxComp X scope cl own fr HP.objs.size s2 H2 fp) (pinsAt fp s5.heap) σ6 H8 { s8 with heap := h9 } :=
         I8p.turned (t' := s8.toks) (fun b o hb e => (sb9.2 b hb).trans e) nD nL (.inr (Nat.le_refl _)) (fun x c e => (below c (hcD x c (hcells _ _ e))).2) fun p hp => by
           have hp' : p ∈ pinsAt fp s5.heap := by simpa [cxComp] using hp
           exact (below p.1 (hfpo _ (of_pinsAt hp').1)).2
       have eD9' : h9.get? s2.heap.objs.size = some (lstO (its ++ [y])) := eD9.trans (congrArg some (lstO_snoc its y))
       have I9 : Inv (cxComp X scope cl own fr HP.objs.size s2 H2 fp) [(s2.heap.objs.size, lstO (its ++ [y]))] σ6 H8 { s8 with heap := h9 } := I9p.pins_of (hpinD eD9' nD)
       have K9 := keepT (l := []) (by simpa using I9p)
       exact ⟨m', hm, i + 1, ys ++ [yv], its ++ [y], σ6, H8, I9, rv.append (.cons r8 .nil), K9.1, K9.2, w8⟩
 exact codeAny_compStart_list (loop _ rfl) (T.self _ 0 _ _ _ st1 (loop _ rfl))
def tCompE (own : List Str) (fr : List (Str × Nat)) (wi : TI) (g : TG) (tc : TT) (te : TE) : TE := fun σ H Q => tComp own fr wi g tc te (fun ys H3 => ∀ p, H3 p = none → Q (.ref p) (upd H3 p (.lst ys))) σ H
theorem pe_comp (hc : X.calm = true) (S : CompSc X scope cl own fr) (hi : PI X tg iter wi) (hg : ∀ C s2 H2 fp, PG (cxComp X scope cl own fr C s2 H2 fp) tg g)
   (ht : ∀ C s2 H2 fp, PTs (cxComp X scope cl own fr C s2 H2 fp) ifs tc) (he : ∀ C s2 H2 fp, PE (cxComp X scope cl own fr C s2 H2 fp) elt te)
   (hs : ∀ x, foldedSetIterable iter X.env x = pure x := by intro _; rfl) : PE X (.ListComp elt [⟨tg, iter, ifs, 0⟩] scope pos) (tCompE own fr wi g tc te) := by
 intro pins s σ H Q I h
 rw [eval_ListComp]
 refine wpAny_comprehension_free (use := none) rfl hs S.clos S.kind S.names ?_
 refine comp_core hc S hi hg ht he I h fun D C s4 H3 ys m nD J hn off q => ?_
 refine ⟨m, hn, fun h' sb => ⟨.ref D, _, J.turned (t' := s4.toks) (fun b o hb e => (sb.2 b hb).trans e) off.none off.loc (.inr off.above) off.cell off.pin, rfl, q D nD⟩⟩
def tCompS (i : Nat) (own : List Str) (fr : List (Str × Nat)) (wi : TI) (g : TG) (tc : TT) (te : TE) : TS := fun D σ H => tComp own fr wi g tc te (fun ys H3 => ∀ p, H3 p = none → D.nx (σ.set i (some (.ref p))) (upd H3 p (.lst ys))) σ H
theorem ps_setC {i : Nat} {y : Str} {py spos : Pos} (hN : X.N.Nodup) (hi' : X.N[i]? = some y) (hx : X.env.scope.names.lookup y = some .local) (hc : X.calm = true) (S : CompSc X scope cl own fr) (hi : PI X tg iter wi) (hg : ∀ C s2 H2 fp, PG (cxComp X scope cl own fr C s2 H2 fp) tg g)
   (ht : ∀ C s2 H2 fp, PTs (cxComp X scope cl own fr C s2 H2 fp) ifs tc) (he : ∀ C s2 H2 fp, PE (cxComp X scope cl own fr C s2 H2 fp) elt te)
   (hsw : swapsWith (.ListComp elt [⟨tg, iter, ifs, 0⟩] scope pos) (some (.Name y py)) spos.line X.env = pure true := by rfl)
   (hs : ∀ x, foldedSetIterable iter X.env x = pure x := by intro _; rfl) : PS X (.Assign [.Name y py] (.ListComp elt [⟨tg, iter, ifs, 0⟩] scope pos) spos) (tCompS i own fr wi g tc te) := by
 intro pins s σ H D I h
 rw [exec_Assign_Name_used _ _ _ _ hsw]
 refine wpAny_bind (wpAny_standAt (wpAny_bind ?_))
 show wpAny _ X.A (do let _ ← comprehension (.ListComp elt [⟨tg, iter, ifs, 0⟩] scope pos) scope X.env _ (newList []) false (eval iter X.env) (some (assign (.Name y py) X.env))) _ _ s
 refine wpAny_bind (wpAny_mono (wpAny_comprehension_free (use := some (assign (.Name y py) X.env)) (Q := fun _ s' => SP X pins D .next s') rfl hs S.clos S.kind S.names ?_) (fun _ s' hq => wpAny_pure (wpAny_pure hq)) fun _ _ e => e)
 refine comp_core hc S hi hg ht he I h fun Da C s4 H3 ys m nD J hn off q => ?_
 show wpAny _ X.A (assign (.Name y py) X.env (.ref Da)) _ _ _
 refine wpAny_assign_Name (store_ok2 J hN hi' (.inl hx) (v := .ref Da) rfl (fun s5 I5 hsb => ?_) (.inr hx))
 obtain ⟨a, sb, ha⟩ := hsb
 have nCa : C ≠ a := by
   rcases ha with z | z
   · rw [z]; exact off.loc
   · exact (off.cell _ _ z).symm
 refine ⟨m, hn.sameBut sb nCa, fun h' sb' => ⟨_, _, I5.turned (t' := s5.toks) (fun b o hb e => (sb'.2 b hb).trans e) off.none off.loc (.inr off.above) off.cell off.pin, q Da nD⟩⟩
end
section
variable {K : PySem.W.Frag} {a : Addr} {xs : List V} {own : List Str} {fr : List (Str × Nat)} {g : TG} {tc : TT} {te : TE} {fin : List V → Hp → Prop} {σ : St} {H : Hp}
def CompW (J : It) (g : TG) (tc : TT) (te : TE) (fin : List V → Hp → Prop) (σ0 : St) (H1 : Hp) : Prop :=
 ∃ W : Nat → Nat → List V → St → Hp → Prop, (∃ m, W 0 m [] σ0 H1) ∧ ∀ i m ys σ' H', W i m ys σ' H' →
   (J.stop i H' ∧ ys.length ≤ sizeLine ∧ fin ys H') ∨
   (J.go i H' ∧ ∃ N : List V → St → Hp → Prop, (∀ ys2 σ2 H2, N ys2 σ2 H2 → ys2.length ≤ sizeLine ∧ ∃ m', m' < m ∧ W (i + 1) m' ys2 σ2 H2) ∧
     ∀ x H2, J.yld i H' x H2 → g x σ' H2 fun σ3 H3 => tc σ3 H3 fun b H4 => if b = true then te σ3 H4 fun y H5 => N (ys ++ [y]) σ3 H5 else N ys σ3 H4)
theorem comp_list {σ0 : St} (Pv : Nat → List V → St → Hp → Prop) (h0 : Pv 0 [] σ0 H) (hl : ∀ i ys σ H, i ≤ xs.length → Pv i ys σ H → SqL K H a xs ∧ ys.length ≤ sizeLine)
   (hs : ∀ i x ys σ H, xs[i]? = some x → Pv i ys σ H → g x σ H fun σ3 H3 => tc σ3 H3 fun b H4 => if b = true then te σ3 H4 fun y H5 => Pv (i + 1) (ys ++ [y]) σ3 H5 else Pv (i + 1) ys σ3 H4)
   (hd : ∀ ys σ H, Pv xs.length ys σ H → fin ys H) : CompW (Itl K a) g tc te fin σ0 H := by
 refine ⟨fun i m ys σ H => m = xs.length - i ∧ i ≤ xs.length ∧ Pv i ys σ H, ⟨xs.length, by simp, Nat.zero_le _, h0⟩, ?_⟩
 rintro i m ys σ H ⟨rfl, hi, p⟩
 obtain ⟨q, hz⟩ := hl i ys σ H hi p
 by_cases hlt : i < xs.length
 · refine .inr ⟨⟨xs, xs[i], q, by simp [hlt]⟩, Pv (i + 1), fun ys2 σ2 H2 p' => ⟨(hl (i + 1) ys2 σ2 H2 hlt p').2, xs.length - (i + 1), by omega, rfl, hlt, p'⟩, fun x H2 y => ?_⟩
   obtain ⟨e, y⟩ := y
   subst e
   exact hs i x ys σ _ (y xs q) p
 · have e : i = xs.length := by omega
   subst e
   exact .inl ⟨⟨xs, q, Nat.le_refl _⟩, hz, hd ys σ H p⟩
theorem comp_range {σ0 : St} {lo : Int} {n : Nat} (Pv : Nat → List V → St → Hp → Prop) (h0 : Pv 0 [] σ0 H) (hl : ∀ i ys σ H, i ≤ n → Pv i ys σ H → ys.length ≤ sizeLine)
   (hs : ∀ i ys σ H, i < n → Pv i ys σ H → g (.int (lo + i)) σ H fun σ3 H3 => tc σ3 H3 fun b H4 => if b = true then te σ3 H4 fun y H5 => Pv (i + 1) (ys ++ [y]) σ3 H5 else Pv (i + 1) ys σ3 H4)
   (hd : ∀ ys σ H, Pv n ys σ H → fin ys H) : CompW (Itr lo n) g tc te fin σ0 H := by
 refine ⟨fun i m ys σ H => m = n - i ∧ i ≤ n ∧ Pv i ys σ H, ⟨n, by simp, Nat.zero_le _, h0⟩, ?_⟩
 rintro i m ys σ H ⟨rfl, hi, p⟩
 by_cases hlt : i < n
 · refine .inr ⟨hlt, Pv (i + 1), fun ys2 σ2 H2 p' => ⟨hl (i + 1) ys2 σ2 H2 hlt p', n - (i + 1), by omega, rfl, hlt, p'⟩, fun x H2 y => ?_⟩
   obtain ⟨e, y⟩ := y
   subst e y
   exact hs i ys σ _ hlt p
 · have e : i = n := by omega
   subst e
   exact .inl ⟨Nat.le_refl _, hl _ ys σ H hi p, hd ys σ H p⟩
end
end L3
namespace L3
open PySem PySem.Spec PyProof.Rows L2 PySem.SeqAt
theorem look_new {H : Hp} {p q : Addr} {o u : HO} (hq : H q = some u) (hp : H p = none) : upd H p o q = some u := by
 rw [upd_ne (ne_of_none hq hp)]; exact hq
theorem look_ne {H : Hp} {p q : Addr} {o : HO} {u : Option HO} (hne : q ≠ p) (hq : H q = u) : upd H p o q = u := by
 rw [upd_ne hne]; exact hq
theorem same_new {H : Hp} {p : Addr} {o : HO} (h : H p = none) : Same H (upd H p o) := fun b u q => look_new q h
theorem SqT_same {K : PySem.W.Frag} {H H' : Hp} {a : Addr} {xs : List V} (e : Same H H') (h : SqT K H a xs) : SqT K H' a xs := by
 rcases h with (h | ⟨o, h⟩) | h
 · exact .inl (.inl (e _ _ h))
 · exact .inl (.inr ⟨o, e _ _ h⟩)
 · exact .inr h
mutual
def Dp (K : PySem.W.Frag) (H : Hp) : PyData → V → Prop
 | .none, v => v = .non
 | .bool b, v => v = .bl b
 | .int i, v => v = .int i
 | .str x, v => v = .str x
 | .list ds, v => ∃ a xs, v = .ref a ∧ SqL K H a xs ∧ DpAll K H ds xs
 | .tuple ds, v => ∃ a xs, v = .ref a ∧ SqT K H a xs ∧ DpAll K H ds xs
 | .dict _, _ => False
def DpAll (K : PySem.W.Frag) (H : Hp) : List PyData → List V → Prop
 | [], vs => vs = []
 | d :: ds, vs => ∃ v r, vs = v :: r ∧ Dp K H d v ∧ DpAll K H ds r
end
section
variable {X : Cx} {pins : List (Addr × Obj)} {σ : St} {H : Hp} {s : Shared}
mutual
theorem dp_reads (I : Inv X pins σ H s) : ∀ (d : PyData) (v : V) (u : Value), Dp X.K H d v → RelV v u → ∃ as, Reads s.heap u d as
 | .none, v, u, h, r => by
   rw [Dp] at h; subst h; cases (show u = Value.none from r); exact ⟨_, .none⟩
 | .bool b, v, u, h, r => by
   rw [Dp] at h; subst h; cases (show u = Value.bool b from r); exact ⟨_, .bool b⟩
 | .int i, v, u, h, r => by
   rw [Dp] at h; subst h; obtain ⟨t, e⟩ := (show ∃ t, u = Value.int i t from r); subst e; exact ⟨_, .int i t⟩
 | .str x, v, u, h, r => by
   rw [Dp] at h; subst h; obtain ⟨t, e⟩ := (show ∃ t, u = Value.str x t from r); subst e; exact ⟨_, .str x t⟩
 | .list ds, v, u, h, r => by
   rw [Dp] at h
   obtain ⟨a, xs, e, hq, ha⟩ := h
   subst e
   cases (show u = Value.ref a from r)
   obtain ⟨its, rv, pl, hz⟩ := I.list hq
   obtain ⟨o, ho, hc, n, hd⟩ := pl.isList
   obtain ⟨as, z⟩ := dpAll_reads I ds xs its ha rv
   exact ⟨_, .list ho hc hd (by simpa using z)⟩
 | .tuple ds, v, u, h, r => by
   rw [Dp] at h
   obtain ⟨a, xs, e, hq, ha⟩ := h
   subst e
   cases (show u = Value.ref a from r)
   obtain ⟨its, rv, pl, hz⟩ := I.tuple hq
   obtain ⟨o, ho, hc, n, hd⟩ := pl
   obtain ⟨as, z⟩ := dpAll_reads I ds xs its ha rv
   exact ⟨_, .tuple ho hc hd (by simpa using z)⟩
 | .dict _, v, u, h, r => by rw [Dp] at h; exact h.elim
theorem dpAll_reads (I : Inv X pins σ H s) : ∀ (ds : List PyData) (vs : List V) (us : List Value), DpAll X.K H ds vs → Vals vs us → ∃ as, ReadsAll s.heap us ds as
 | [], vs, us, h, r => by
   rw [DpAll] at h; subst h; cases r; exact ⟨_, .nil⟩
 | d :: ds, vs, us, h, r => by
   rw [DpAll] at h
   obtain ⟨v, rr, e, h1, h2⟩ := h
   subst e
   cases r with
   | cons r1 r2 =>
     obtain ⟨as, z1⟩ := dp_reads I d _ _ h1 r1
     obtain ⟨bs, z2⟩ := dpAll_reads I ds _ _ h2 r2
     exact ⟨_, .cons z1 z2⟩
end
end
def rEqD (K : PySem.W.Frag) : R2 := fun x y H Q => ∃ dx dy, Dp K H dx x ∧ Dp K H dy y ∧ shaped dx = true ∧ shaped dy = true ∧ Q (.bl (PyData.eqv dx dy)) H
def rNeD (K : PySem.W.Frag) : R2 := fun x y H Q => ∃ dx dy, Dp K H dx x ∧ Dp K H dy y ∧ shaped dx = true ∧ shaped dy = true ∧ Q (.bl (!PyData.eqv dx dy)) H
def rEqA (K : PySem.W.Frag) : R2 := fun x y H Q => rEq x y H Q ∨ rEqD K x y H Q
def rNeA (K : PySem.W.Frag) : R2 := fun x y H Q => rNe x y H Q ∨ rNeD K x y H Q
section
variable {X : Cx}
theorem op_eqD (hu : X.A.units + 64 < cLine) : OpR X (compareOp .Eq) (rEqD X.K) := by
 intro pins s σ H x y v u Q I rx ry h
 obtain ⟨dx, dy, hx, hy, sx, sy, q⟩ := h
 obtain ⟨as, ra⟩ := dp_reads I dx x v hx rx
 obtain ⟨bs, rb⟩ := dp_reads I dy y u hy ry
 exact eq_dataH ra rb sx sy hu ⟨.bl _, H, I, rfl, q⟩
theorem op_neD (hu : X.A.units + 64 < cLine) : OpR X (compareOp .NotEq) (rNeD X.K) := by
 intro pins s σ H x y v u Q I rx ry h
 obtain ⟨dx, dy, hx, hy, sx, sy, q⟩ := h
 obtain ⟨as, ra⟩ := dp_reads I dx x v hx rx
 obtain ⟨bs, rb⟩ := dp_reads I dy y u hy ry
 exact ne_dataH ra rb sx sy hu ⟨.bl _, H, I, rfl, q⟩
theorem op_eqA (hu : X.A.units + 64 < cLine) : OpR X (compareOp .Eq) (rEqA X.K) := op_eq.or (op_eqD hu)
theorem op_neA (hu : X.A.units + 64 < cLine) : OpR X (compareOp .NotEq) (rNeA X.K) := op_ne.or (op_neD hu)
end
theorem r_eqS {K : PySem.W.Frag} {x y : V} {H : Hp} {Q : VK} (h : scal x y = true) (q : Q (.bl (decide (x = y))) H) : rEqA K x y H Q := .inl ⟨h, q⟩
theorem r_neS {K : PySem.W.Frag} {x y : V} {H : Hp} {Q : VK} (h : scal x y = true) (q : Q (.bl (!decide (x = y))) H) : rNeA K x y H Q := .inl ⟨h, q⟩
def clsOf : V → Value
 | .ty n => .type n
 | .ref a => .ref a
 | _ => .none
theorem clsOf_eq {c : V} {u : Value} (r : RelV c u) (h : clsOf c ≠ .none) : u = clsOf c := by
 cases c <;> first | exact r | exact (h rfl).elim
def rIsi (K : PySem.W.Frag) : List V → Hp → VK → Prop := fun xs H Q => ∃ x c t b, xs = [x, c] ∧ clsOf c ≠ .none ∧ TyOf K H x t ∧ PySem.W.kitOne K t (clsOf c) = some b ∧ Q (.bl b) H
theorem call_isi {X : Cx} : CallR X (.builtin "isinstance") (rIsi X.K) := by
 intro pins s σ H xs us Q I r h
 obtain ⟨x, c, t, b, rfl, hc, ty, e, q⟩ := h
 obtain ⟨u, w', rfl, rx, rc⟩ := vals2 r
 cases clsOf_eq rc hc
 exact isinst_ok I rx ty e fun tk => ⟨.bl b, H, I.tok _, rfl, q⟩
theorem r_isi {K : PySem.W.Frag} {x c : V} {H : Hp} {Q : VK} {t : Value} {b : Bool} (hc : clsOf c ≠ .none) (ty : TyOf K H x t) (e : PySem.W.kitOne K t (clsOf c) = some b) (q : Q (.bl b) H) : rIsi K [x, c] H Q := ⟨x, c, t, b, rfl, hc, ty, e, q⟩
def rAll (K : PySem.W.Frag) : List V → Hp → VK → Prop := fun xs H Q => ∃ (p : Addr) (bs : List Bool), xs = [.ref p] ∧ SqL K H p (bs.map V.bl) ∧ Q (.bl (bs.all id)) H
theorem all_range (bs : List Bool) : (List.range bs.length).all (fun i => bs.getD i false) = bs.all id := by
 induction bs with
 | nil => rfl
 | cons b r ih =>
   rw [List.length_cons, List.range_succ_eq_map, List.all_cons, List.all_cons, List.all_map]
   rw [← ih]
   rfl
theorem call_all {X : Cx} (hc : X.calm = true) : CallR X (.builtin "all") (rAll X.K) := by
 intro pins s σ H xs us Q I r h
 obtain ⟨p, bs, rfl, hq, q⟩ := h
 obtain ⟨u, rfl, rx⟩ := vals1 r
 cases rx
 obtain ⟨its, rv, pl, hz⟩ := I.list hq
 have hlen := rv.length
 rw [List.length_map] at hlen
 have hlt : p < s.heap.objs.size := by obtain ⟨o, e, _⟩ := pl.isList; exact Heap.lt_size e
 refine call_all_walk (wpAny_pyIter_list pl.isList ?_)
 refine ⟨s.heap.objs.size, _, _, _, _, _, fun i => bs.getD i false, rfl, Walks.list (by exact I.ok.hd hc) s.heap.objs.size p (Nat.ne_of_lt hlt) its.toArray, ⟨⟨_, Heap.get?_push_size _ rfl, rfl, rfl⟩, pl.isList.push _⟩, ?_, ?_⟩
 · intro i v s' Q' E' hP hQ'
   have hP' : its[i]? = some v := by simpa using hP
   have hi : i < its.length := (List.getElem?_eq_some_iff.mp hP').1
   have hb : (bs.map V.bl)[i]? = some (V.bl (bs.getD i false)) := by
     rw [List.getElem?_map, List.getElem?_eq_getElem (by omega)]
     simp [List.getD, List.getElem?_eq_getElem (show i < bs.length by omega)]
   obtain ⟨u', hu', ru'⟩ := rv.get hb
   rw [hP'] at hu'
   cases hu'
   cases (show v = Value.bool _ from ru')
   exact wpAny_truthy_bool hQ'
 · intro h' tk kk
   have e : (List.range its.toArray.size).all (fun i => bs.getD i false) = bs.all id := by
     rw [List.size_toArray, ← hlen]; exact all_range bs
   rw [e]
   refine ⟨.bl _, H, ?_, rfl, q⟩
   have I1 : Inv X pins σ H { s with heap := s.heap.push { cls := .type "list_iterator", data := .fields #[.ref p, .int 0 0] } } := I.kept (t' := s.toks) fun b o e => Heap.get?_push_of_some _ e
   have f := I.fpOk (H' := H) (Nat.le_refl _) I.fresh
   exact I1.turned (it := s.heap.objs.size) (h' := h') (t' := tk) (fun b o hb e => kk b o (by simpa using hb) e) f.1 f.2.1 f.2.2.2.1 f.2.2.2.2.1 f.2.2.2.2.2
theorem bool_index : typeLookup (.type "bool") "__index__" = pure (some (.builtin "int.__index__")) := by rw [typeLookup_type, builtinLookup_eq_fast]; kernel_rfl
theorem listSubscript_bool {M : Model} {A : Around} {E : Value → Shared → Prop} {s : Shared} {b : Bool} {Q : Option Int → Shared → Prop} (h : Q (some (if b then 1 else 0)) s) :
   wpAny M A (Builtin.List.listSubscript? (.bool b)) Q E s := by
 unfold Builtin.List.listSubscript?
 refine wpAny_bind (wpAny_specialOf (T := "bool") (show s.TypeIs (.bool b) "bool" from rfl) bool_index ?_)
 show wpAny M A (asIndex (.bool b) >>= _) Q E s
 refine wpAny_bind (wpAny_of_eq (a := if b then 1 else 0) rfl ?_)
 show wpAny M A (if (!Builtin.List.listFitsIndex (if b then 1 else 0)) = true then _ else _) Q E s
 rw [if_neg (by cases b <;> decide)]
 exact wpAny_pure h
theorem getItem_list_bool {prog : Program} {w : World} {A : Around} {E : Value → Shared → Prop} {s : Shared} {l : Addr} {items : Array Value} {b : Bool} {x : Value} {Q : Value → Shared → Prop} (hl : s.heap.IsList l items)
   (hx : items[if b then 1 else 0]? = some x) (h : Q x s) : wpAny (model prog w) A (getItem (.ref l) (.bool b)) Q E s := by
 obtain ⟨o, ho, hc, ne, hd⟩ := id hl
 unfold getItem
 try with_reducible refine wpAny_holding ?_
 first | refine wpAny_bind (wpAny_pure ?_) | skip
 refine wpAny_bind (wpAny_sequenceKey hl.typeIs (by decide) ?_)
 refine wpAny_bind (wpAny_callSpecial?_slot (name := Str.ofString "__getitem__") hl.typeIs slot_list_getitem
   (wpAny_call_entry slot_list_getitem hl.typeIs entry_list_getitem ?_ (args_list_getitem _ _)))
 show wpAny _ _ (Builtin.List.listSubscript? (.bool b) >>= _) _ _ s
 refine wpAny_bind (listSubscript_bool ?_)
 cases b with
 | true =>
   have hx' : items[1]? = some x := hx
   show wpAny _ _ ((seqItemAt l 1 >>= fun r => pure (r.map (1, ·))) >>= _) _ _ s
   refine wpAny_bind (wpAny_bind (wpAny_seqItemAt ho hd (wpAny_pure ?_)))
   rw [hx']
   first
     | exact wpAny_bind (wpAny_pure (wpAny_pure ⟨x, rfl, wpAny_pure h⟩))
     | exact wpAny_pure ⟨x, rfl, wpAny_pure h⟩
 | false =>
   have hx' : items[0]? = some x := hx
   show wpAny _ _ ((seqItemAt l 0 >>= fun r => pure (r.map (0, ·))) >>= _) _ _ s
   refine wpAny_bind (wpAny_bind (wpAny_seqItemAt ho hd (wpAny_pure ?_)))
   rw [hx']
   first
     | exact wpAny_bind (wpAny_pure (wpAny_pure ⟨x, rfl, wpAny_pure h⟩))
     | exact wpAny_pure ⟨x, rfl, wpAny_pure h⟩
def rIxB (K : PySem.W.Frag) : R2 := fun x y H Q => ∃ p xs b v, x = .ref p ∧ y = .bl b ∧ SqL K H p xs ∧ xs[if b then 1 else 0]? = some v ∧ Q v H
theorem ix_bool {X : Cx} : IxR X (rIxB X.K) := by
 intro value slice pins s σ H x y v u Q I rx ry h hs
 obtain ⟨p, xs, b, z, rfl, rfl, hq, he, q⟩ := h
 cases rx
 cases ry
 obtain ⟨its, r, pl, hz⟩ := I.list hq
 obtain ⟨w, ew, rw'⟩ := r.get he
 exact subscriptTail_builtinR (x := w) pl.isList.typeIs slot_list_getitem.lookup
   (getItem_list_bool (Q := fun r s' => r = w ∧ EP X pins σ Q r s') pl.isList (by simpa using ew) ⟨rfl, z, H, I, rw', q⟩) hs
def rIxA (K : PySem.W.Frag) : R2 := fun x y H Q => rIx K x y H Q ∨ rIxB K x y H Q
theorem ix_any {X : Cx} : IxR X (rIxA X.K) := ix_seq.or ix_bool
theorem r_ixL {K : PySem.W.Frag} {p : Addr} {xs : List V} {i : Int} {v : V} {H : Hp} {Q : VK} (h : SqL K H p xs) (e : atI xs i = some v) (q : Q v H) : rIxA K (.ref p) (.int i) H Q := .inl (.inl ⟨p, xs, i, v, rfl, rfl, h, e, q⟩)
theorem r_ixT {K : PySem.W.Frag} {p : Addr} {xs : List V} {i : Int} {v : V} {H : Hp} {Q : VK} (h : SqT K H p xs) (e : atI xs i = some v) (q : Q v H) : rIxA K (.ref p) (.int i) H Q := .inl (.inr (.inl ⟨p, xs, i, v, rfl, rfl, h, e, q⟩))
def rStr : R2 := fun x y H Q => ∃ i j, x = .str i ∧ y = .str j ∧ i.length + j.length ≤ sizeLine ∧ Q (.str (i ++ j)) H
def rPlus (K : PySem.W.Frag) : R2 := fun x y H Q => rI0 (fun i j => .int (i + j)) x y H Q ∨ rCat x y H Q ∨ rCatT K x y H Q ∨ rStr x y H Q
theorem op_plus {X : Cx} : OpR X (binaryOp .Add) (rPlus X.K) := op_add.or (op_cat.or (op_catT.or op_add_str))
theorem r_plusI {K : PySem.W.Frag} {i j : Int} {H : Hp} {Q : VK} (q : Q (.int (i + j)) H) : rPlus K (.int i) (.int j) H Q := .inl ⟨i, j, rfl, rfl, q⟩
theorem r_plusL {K : PySem.W.Frag} {a b : Addr} {xs ys : List V} {H : Hp} {Q : VK} (ha : H a = some (.lst xs)) (hb : H b = some (.lst ys)) (hz : xs.length + ys.length ≤ sizeLine) (q : ∀ p, H p = none → Q (.ref p) (upd H p (.lst (xs ++ ys)))) :
   rPlus K (.ref a) (.ref b) H Q := .inr (.inl ⟨a, b, xs, ys, rfl, rfl, ha, hb, hz, q⟩)
def rTimes : R2 := fun x y H Q => rI CMul (fun i j => .int (i * j)) x y H Q ∨ rRep x y H Q
theorem op_times {X : Cx} : OpR X (binaryOp .Mult) rTimes := op_mul.or op_rep
theorem r_timesI {i j : Int} {H : Hp} {Q : VK} (h : CMul i j) (q : Q (.int (i * j)) H) : rTimes (.int i) (.int j) H Q := .inl ⟨i, j, rfl, rfl, h, q⟩
def rSlA (K : PySem.W.Frag) : V → Option Int → Option Int → Hp → VK → Prop := fun x lo hi H Q => rSlL K x lo hi H Q ∨ rSlT K x lo hi H Q
theorem sl_any {X : Cx} : SlR X (rSlA X.K) := sl_list.or sl_tup
structure FnE (P : Program) (w : World) (K : PySem.W.Frag) (mg : Str → Option Value) (base : Heap) (CX : CXT) (k : Nat) (x : Str) (sp : Sp) : Prop where
 ex : ∃ (f : Addr) (fd : FuncData) (ps : List Str), FnOk P w K mg base CX k f fd ps sp ∧ mg x = some (.ref f) ∧ PySem.W.keepIn K (.ref f) = true ∧ Binds K fd ps []
structure MethE (P : Program) (w : World) (K : PySem.W.Frag) (mg : Str → Option Value) (base : Heap) (CX : CXT) (k : Nat) (C : Addr) (m : Str) (sp : Sp) : Prop where
 cl : Cls K C
 ex : ∃ (f : Addr) (fd : FuncData) (ps : List Str), Meth K C m f ∧ FnOk P w K mg base CX k f fd ps sp ∧ Binds K fd ps []
structure MkE (P : Program) (w : World) (K : PySem.W.Frag) (mg : Str → Option Value) (base : Heap) (CX : CXT) (k : Nat) (x : Str) (C : Addr) (sp : Sp) : Prop where
 ex : ∃ (f : Addr) (fd : FuncData) (ps : List Str), Mk K C f ∧ FnOk P w K mg base CX k f fd ps sp ∧ mg x = some (.ref C) ∧ Binds K fd ps []
theorem MethE.mono {P : Program} {w : World} {K : PySem.W.Frag} {mg : Str → Option Value} {base : Heap} {CX : CXT} {j k : Nat} {C : Addr} {m : Str} {sp : Sp} (M : MethE P w K mg base CX j C m sp) (h : j ≤ k) : MethE P w K mg base CX k C m sp := by
 obtain ⟨f, fd, ps, a, b, c⟩ := M.ex
 exact ⟨M.cl, f, fd, ps, a, b.mono h, c⟩
def tCallE (sp : Sp) (E : XK) (t : TA) : TE := fun σ H Q => t σ H fun vs H1 => sp vs H1 Q E
def tMakeE (C : Addr) (sp : Sp) (E : XK) (t : TA) : TE := fun σ H Q => t σ H fun vs H1 => ∀ x dx, H1 x = none → H1 dx = none → dx ≠ x →
 sp (.ref x :: vs) (upd (upd H1 dx (.own x)) x (.ins C dx [])) (fun v H2 => v = .non ∧ Q (.ref x) H2) E
def tMethE (P : Program) (w : World) (K : PySem.W.Frag) (mg : Str → Option Value) (base : Heap) (CX : CXT) (k : Nat) (m : Str) (E : XK) (ta : TE) (t : TA) : TE := fun σ H Q => ta σ H fun x H1 =>
 ∃ a C dx fs sp, x = .ref a ∧ H1 a = some (.ins C dx fs) ∧ fs.lookup m = none ∧ MethE P w K mg base CX k C m sp ∧ t σ H1 fun vs H2 => sp (.ref a :: vs) H2 Q E
section
variable {X : Cx} {CX : CXT} {k : Nat} {C : Addr} {sp : Sp} {E : XK} {x m : Str} {p pos apos : Pos} {e o : Expr} {es : List Expr} {ta : TE} {t : TA}
theorem pe_callE (G : FnE X.prog X.w X.K X.mg X.base CX k x sp) (hr : Room k X.A) (hx : Passes CX X E) (hg : Gl X x) (ha : PA X (e :: es) t) (hdb : (x == ("__debug__" : Str)) = false := by decide)
   (he : starEach (e :: es) X.env = (false, eval e X.env) :: starEach es X.env := by rfl) (hpl : (backTo pos (starEach es X.env)).any (·.1) = false := by rfl) : PE X (.Call (.Name x p) (e :: es) [] pos) (tCallE sp E t) := by
 obtain ⟨f, fd, ps, F, hm, hk, hb⟩ := G.ex
 have z := pe_call (p := p) (pos := pos) F hr hg hm hk hb .nil hx ha hdb he hpl
 intro pins s σ H Q I h
 refine z pins s σ H Q I ?_
 have e1 : tCall sp [] E t = tCallE sp E t := by
   funext σ H Q
   show t σ H (fun vs H1 => sp (vs ++ []) H1 Q E) = t σ H (fun vs H1 => sp vs H1 Q E)
   simp only [List.append_nil]
 rw [e1]; exact h
theorem pe_makeE (G : MkE X.prog X.w X.K X.mg X.base CX k x C sp) (hr : Room (k + 1) X.A) (hx : Passes CX X E) (hg : Gl X x) (ha : PA X (e :: es) t) (hdb : (x == ("__debug__" : Str)) = false := by decide)
   (he : starEach (e :: es) X.env = (false, eval e X.env) :: starEach es X.env := by rfl) (hpl : (backTo pos (starEach es X.env)).any (·.1) = false := by rfl) : PE X (.Call (.Name x p) (e :: es) [] pos) (tMakeE C sp E t) := by
 obtain ⟨f, fd, ps, M, F, hm, hb⟩ := G.ex
 have z := pe_make (p := p) (pos := pos) M F hr hg hm hb .nil hx ha hdb he hpl
 intro pins s σ H Q I h
 refine z pins s σ H Q I ?_
 have e1 : tMake C sp [] E t = tMakeE C sp E t := by
   funext σ H Q
   show t σ H (fun vs H1 => ∀ x dx, H1 x = none → H1 dx = none → dx ≠ x → sp (.ref x :: (vs ++ [])) _ _ E) = t σ H (fun vs H1 => ∀ x dx, H1 x = none → H1 dx = none → dx ≠ x → sp (.ref x :: vs) _ _ E)
   simp only [List.append_nil]
 rw [e1]; exact h
theorem pe_methE {pl : Sem Bool} (he : PE X o ta) (hr : Room k X.A) (hx : Passes CX X E) (ha : PA X (e :: es) t)
   (hst : starEach (e :: es) X.env = (false, eval e X.env) :: starEach es X.env := by rfl) (hpl : (backTo pos (starEach es X.env)).any (·.1) = false := by rfl)
   (ht : eval (.Call (.Attribute o m apos) (e :: es) [] pos) X.env = (do
     let ov ← eval o X.env
     standAt apos.atName
     let (f, first) ← holding [ov] (getMethod ov m pl)
     callWith pos f first (backTo pos (starEach (e :: es) X.env)) (backToKw pos (keywordEach [] X.env))) := by rfl) :
   PE X (.Call (.Attribute o m apos) (e :: es) [] pos) (tMethE X.prog X.w X.K X.mg X.base CX k m E ta t) := by
 intro pins s σ H Q I h
 refine PySem.W.methodCall_KW (pl := pl) (thn (he pins s σ H _ I h) fun u s1 ⟨x, H1, I1, rx, a, C, dx, fs, sp, ex, ea, l, M, q⟩ => ?_) ht
 subst ex
 obtain rfl : u = Value.ref a := rx
 obtain ⟨f, fd, ps, hm, F, hb⟩ := M.ex
 refine getmeth_ok I1 ea M.cl hm l ?_
 refine PySem.W.callWith_K (first := [.ref a]) (h₀ := X.base) I.ok.mod.kin hm.kp (thn (ha pos pins s1 σ H1 _ I1 q) fun us s2 ⟨vs, H2, I2, r, q2⟩ => ⟨I2.kIn, ?_⟩) hst hpl
 exact run_fn (us := .ref a :: us) (vs := .ref a :: vs) F hr hb .nil hx I2 (.cons rfl r) (by rw [List.append_nil]; exact q2)
theorem pe_methE0 {pl : Sem Bool} (he : PE X o ta) (hr : Room k X.A) (hx : Passes CX X E)
   (ht : eval (.Call (.Attribute o m apos) [] [] pos) X.env = (do
     let ov ← eval o X.env
     standAt apos.atName
     let (f, first) ← holding [ov] (getMethod ov m pl)
     callWith pos f first (backTo pos (starEach [] X.env)) (backToKw pos (keywordEach [] X.env))) := by rfl) :
   PE X (.Call (.Attribute o m apos) [] [] pos) (tMethE X.prog X.w X.K X.mg X.base CX k m E ta tNil) := by
 intro pins s σ H Q I h
 refine PySem.W.methodCall_KW (pl := pl) (thn (he pins s σ H _ I h) fun u s1 ⟨x, H1, I1, rx, a, C, dx, fs, sp, ex, ea, l, M, q⟩ => ?_) ht
 subst ex
 obtain rfl : u = Value.ref a := rx
 obtain ⟨f, fd, ps, hm, F, hb⟩ := M.ex
 refine getmeth_ok I1 ea M.cl hm l ?_
 exact PySem.W.callWith_K0 (first := [.ref a]) I1.kIn hm.kp (run_fn (us := [.ref a]) (vs := [.ref a]) F hr hb .nil hx I1 (.cons rfl .nil) q)
end
theorem b_len : bootBuiltins "len" = some (.builtin "len") := by decide +kernel
theorem b_all : bootBuiltins "all" = some (.builtin "all") := by decide +kernel
theorem b_isinstance : bootBuiltins "isinstance" = some (.builtin "isinstance") := by decide +kernel
theorem b_int : bootBuiltins "int" = some (.type "int") := by decide +kernel
theorem b_bool : bootBuiltins "bool" = some (.type "bool") := by decide +kernel
theorem b_list : bootBuiltins "list" = some (.type "list") := by decide +kernel
theorem b_tuple : bootBuiltins "tuple" = some (.type "tuple") := by decide +kernel
theorem b_str : bootBuiltins "str" = some (.type "str") := by decide +kernel
def rFld (K : PySem.W.Frag) (f : Str) : V → Hp → VK → Prop := fun x H1 Q => ∃ a C dx fs v, x = .ref a ∧ H1 a = some (.ins C dx fs) ∧ Cls K C ∧ NoAttr K C f ∧ fs.lookup f = some v ∧ Q v H1
def rMeth (P : Program) (w : World) (K : PySem.W.Frag) (mg : Str → Option Value) (base : Heap) (CX : CXT) (k : Nat) (m : Str) (E : XK) (σ : St) (t : TA) : V → Hp → VK → Prop := fun x H1 Q =>
 ∃ a C dx fs sp, x = .ref a ∧ H1 a = some (.ins C dx fs) ∧ fs.lookup m = none ∧ MethE P w K mg base CX k C m sp ∧ t σ H1 fun vs H2 => sp (.ref a :: vs) H2 Q E
def sFldV (K : PySem.W.Frag) (f : Str) (y : V) (D : Ends) (σ : St) : V → Hp → Prop := fun x H2 => ∃ a C dx fs, x = .ref a ∧ H2 a = some (.ins C dx fs) ∧ Cls K C ∧ NoAttr K C f ∧ fs.length < 1000 ∧ D.nx σ (upd H2 a (.ins C dx (putF f y fs)))
def rLen (K : PySem.W.Frag) : List V → Hp → VK → Prop := fun xs H Q => ∃ x n, xs = [x] ∧ LenV K x H n ∧ Q (.int n) H
theorem call_lenA {X : Cx} : CallR X (.builtin "len") (rLen X.K) := call_len
theorem r_lenL {K : PySem.W.Frag} {p : Addr} {xs : List V} {H : Hp} {Q : VK} (h : SqL K H p xs) (q : Q (.int xs.length) H) : rLen K [.ref p] H Q := ⟨.ref p, xs.length, rfl, .inl ⟨xs, h, rfl⟩, q⟩
theorem r_lenT {K : PySem.W.Frag} {p : Addr} {xs : List V} {H : Hp} {Q : VK} (h : SqT K H p xs) (q : Q (.int xs.length) H) : rLen K [.ref p] H Q := ⟨.ref p, xs.length, rfl, .inr ⟨xs, h, rfl⟩, q⟩
def rLst (K : PySem.W.Frag) : List V → Hp → VK → Prop := fun xs H Q => ∃ p ys, xs = [.ref p] ∧ (SqL K H p ys ∨ SqT K H p ys) ∧ ∀ l, H l = none → Q (.ref l) (upd H l (.lst ys))
theorem call_listA {X : Cx} : CallR X (.type "list") (rLst X.K) := call_list_of
theorem r_listT {K : PySem.W.Frag} {p : Addr} {xs : List V} {H : Hp} {Q : VK} (h : SqT K H p xs) (q : ∀ l, H l = none → Q (.ref l) (upd H l (.lst xs))) : rLst K [.ref p] H Q := ⟨p, xs, rfl, .inr h, q⟩
theorem r_all {K : PySem.W.Frag} {p : Addr} {bs : List Bool} {H : Hp} {Q : VK} (h : SqL K H p (bs.map V.bl)) (q : Q (.bl (bs.all id)) H) : rAll K [.ref p] H Q := ⟨p, bs, rfl, h, q⟩
theorem r_slL {K : PySem.W.Frag} {p : Addr} {xs : List V} {lo hi : Option Int} {H : Hp} {Q : VK} (h : SqL K H p xs) (q : ∀ l, H l = none → Q (.ref l) (upd H l (.lst (cutV xs lo hi)))) : rSlA K (.ref p) lo hi H Q := .inl ⟨p, xs, rfl, h, q⟩
theorem r_slT {K : PySem.W.Frag} {p : Addr} {xs : List V} {lo hi : Option Int} {H : Hp} {Q : VK} (h : SqT K H p xs) (hn : ¬ (HT.sIx xs.length 0 lo = 0 ∧ HT.sIx xs.length xs.length hi = xs.length)) (q : ∀ l, H l = none → Q (.ref l) (upd H l (.tup (cutV xs lo hi)))) :
   rSlA K (.ref p) lo hi H Q := .inr ⟨p, xs, rfl, h, hn, q⟩
def rTru (K : PySem.W.Frag) (x : V) (H : Hp) (Q : Bool → Hp → Prop) : Prop := ∃ k, TruV K x H k ∧ Q k H
theorem r_truB {K : PySem.W.Frag} {b : Bool} {H : Hp} {Q : Bool → Hp → Prop} (q : Q b H) : rTru K (.bl b) H Q := ⟨b, rfl, q⟩
theorem iteNT {A B : Prop} (h : B) : if (!true) = true then A else B := h
theorem iteNF {A B : Prop} (h : A) : if (!false) = true then A else B := h
theorem sql_new {K : PySem.W.Frag} {H : Hp} {a p : Addr} {xs : List V} {o : HO} (h : SqL K H a xs) (hp : H p = none) : SqL K (upd H p o) a xs := Same.seq (same_new hp) h
theorem r_append {l : Addr} {xs : List V} {y : V} {H : Hp} {Q : VK} (h : H l = some (.lst xs)) (z : xs.length < sizeLine) (q : Q .non (upd H l (.lst (xs ++ [y])))) : rAppend (.ref l) [y] H Q := ⟨l, xs, y, rfl, rfl, h, z, q⟩
theorem ty_list {K : PySem.W.Frag} {H : Hp} {p : Addr} {xs : List V} (h : H p = some (.lst xs)) : tyV K "list" (.ref p) H := .inl ⟨rfl, xs, SqL.of h⟩
def ForW (J : It) (g : TG) (tb : TS) (D : Ends) (σ : St) (H1 : Hp) : Prop := ∃ W : Nat → Nat → St → Hp → Prop, (∃ m, W 0 m σ H1) ∧ ∀ i m σ H, W i m σ H →
 (J.stop i H ∧ D.nx σ H) ∨ (J.go i H ∧ ∃ N : St → Hp → Prop, (∀ σ' H', N σ' H' → ∃ m', m' < m ∧ W (i + 1) m' σ' H') ∧ ∀ x H', J.yld i H x H' → g x σ H' fun σ2 H2 => tb { D with nx := N, ct := N, bk := D.nx } σ2 H2)
theorem r_for {wi : TI} {g : TG} {tb : TS} {D : Ends} {σ : St} {H : Hp} (q : wi σ H fun J H1 => ForW J g tb D σ H1) : tFor wi g tb D σ H := q
def iSeq (K : PySem.W.Frag) (tl : TE) : TI := fun σ H R => tl σ H fun x H1 => ∃ a, x = .ref a ∧ (((∃ xs, SqL K H1 a xs) ∧ R (Itl K a) H1) ∨ ((∃ xs, SqT K H1 a xs) ∧ R (Itt K a) H1))
theorem r_iSeq {K : PySem.W.Frag} {tl : TE} {σ : St} {H : Hp} {R : It → Hp → Prop} (q : tl σ H fun x H1 => ∃ a, x = .ref a ∧ (((∃ xs, SqL K H1 a xs) ∧ R (Itl K a) H1) ∨ ((∃ xs, SqT K H1 a xs) ∧ R (Itt K a) H1))) : iSeq K tl σ H R := q
theorem r_rng1 {ta : TA} {σ : St} {H : Hp} {R : It → Hp → Prop} (q : ta σ H fun vs H1 => ∃ j : Int, vs = [.int j] ∧ -(2 ^ 62) ≤ j ∧ j < 2 ^ 62 ∧ R (Itr 0 j.toNat) H1) : iRng1 ta σ H R := q
theorem r_rng2 {ta : TA} {σ : St} {H : Hp} {R : It → Hp → Prop} (q : ta σ H fun vs H1 => ∃ i j : Int, vs = [.int i, .int j] ∧ (-(2 ^ 62) ≤ i ∧ i < 2 ^ 62 ∧ -(2 ^ 62) ≤ j ∧ j < 2 ^ 62) ∧ R (Itr i (j - i).toNat) H1) : iRng2 ta σ H R := q
theorem pi_seq {X : Cx} {tg l : Expr} {tl : TE} (hl : PE X l tl) : PI X tg l (iSeq X.K tl) := by
 intro pins s σ H R I h
 refine thn (hl pins s σ H _ I h) fun v s1 ⟨x, H1, I1, r1, q1⟩ => ?_
 obtain ⟨a, e, hq⟩ := q1
 subst e
 cases r1
 rcases hq with ⟨⟨xs, hq⟩, q⟩ | ⟨⟨xs, hq⟩, q⟩
 · obtain ⟨its, rv, p, hz⟩ := I1.list hq
   refine wpAny_pyIter_list p.isList ?_
   refine ⟨s1.heap.objs.size, [s1.heap.objs.size], _, _, H1, rfl, I1.kept (t' := s1.toks) fun b o e => Heap.get?_push_of_some _ e, turn_list a _, ⟨_, Heap.get?_push_size _ rfl, rfl, rfl⟩, fun b hb => ?_, q⟩
   have e : b = s1.heap.objs.size := by simpa using hb
   subst e
   exact I1.fpOk (Nat.le_refl _) (I1.hok.fresh (Nat.le_refl _))
 · obtain ⟨its, rv, p, hz⟩ := I1.tuple hq
   refine wpAny_pyIter_tuple (show s1.heap.IsTuple a its.toArray from p) ?_
   refine ⟨s1.heap.objs.size, [s1.heap.objs.size], _, _, H1, rfl, I1.kept (t' := s1.toks) fun b o e => Heap.get?_push_of_some _ e, turn_tuple a _, ⟨_, Heap.get?_push_size _ rfl, rfl, rfl⟩, fun b hb => ?_, q⟩
   have e : b = s1.heap.objs.size := by simpa using hb
   subst e
   exact I1.fpOk (Nat.le_refl _) (I1.hok.fresh (Nat.le_refl _))
section
variable {σ : St} {H : Hp} {Q : VK}
theorem r_var {i : Nat} {v : V} (h : σ[i]? = some (some v)) (q : Q v H) : tVar i σ H Q := ⟨v, h, q⟩
theorem r_c {v : V} (q : Q v H) : tC v σ H Q := q
theorem r_op {r : R2} {ta tb : TE} (q : ta σ H fun x H1 => tb σ H1 fun y H2 => r x y H2 Q) : tOp r ta tb σ H Q := q
theorem r_un {r : V → Hp → VK → Prop} {ta : TE} (q : ta σ H fun x H1 => r x H1 Q) : tUn r ta σ H Q := q
theorem r_U {g : Int → V} {i : Int} (q : Q (g i) H) : rU g (.int i) H Q := ⟨i, rfl, q⟩
theorem r_I0 {g : Int → Int → V} {i j : Int} (q : Q (g i j) H) : rI0 g (.int i) (.int j) H Q := ⟨i, j, rfl, rfl, q⟩
theorem r_I {C : Int → Int → Prop} {g : Int → Int → V} {i j : Int} (h : C i j) (q : Q (g i j) H) : rI C g (.int i) (.int j) H Q := ⟨i, j, rfl, rfl, h, q⟩
theorem r_cb {r : List V → Hp → VK → Prop} {t : TA} (q : t σ H fun vs H1 => r vs H1 Q) : tCB r t σ H Q := q
theorem r_callE {sp : Sp} {E : XK} {t : TA} (q : t σ H fun vs H1 => sp vs H1 Q E) : tCallE sp E t σ H Q := q
theorem r_makeE {C : Addr} {sp : Sp} {E : XK} {t : TA} (q : t σ H fun vs H1 => ∀ x dx, H1 x = none → H1 dx = none → dx ≠ x → sp (.ref x :: vs) (upd (upd H1 dx (.own x)) x (.ins C dx [])) (fun v H2 => v = .non ∧ Q (.ref x) H2) E) : tMakeE C sp E t σ H Q := q
theorem r_methE {P : Program} {w : World} {K : PySem.W.Frag} {mg : Str → Option Value} {base : Heap} {CX : CXT} {k : Nat} {m : Str} {E : XK} {ta : TE} {t : TA} (q : ta σ H fun x H1 => rMeth P w K mg base CX k m E σ t x H1 Q) : tMethE P w K mg base CX k m E ta t σ H Q := q
theorem r_methV {P : Program} {w : World} {K : PySem.W.Frag} {mg : Str → Option Value} {base : Heap} {CX : CXT} {k : Nat} {m : Str} {E : XK} {t : TA} {p C dx : Addr} {fs : List (Str × V)} {sp : Sp} (h : H p = some (.ins C dx fs)) (l : fs.lookup m = none) (M : MethE P w K mg base CX k C m sp)
   (q : t σ H fun vs H2 => sp (.ref p :: vs) H2 Q E) : rMeth P w K mg base CX k m E σ t (.ref p) H Q := ⟨p, C, dx, fs, sp, rfl, h, l, M, q⟩
theorem r_fld {K : PySem.W.Frag} {ta : TE} {f : Str} (q : ta σ H fun x H1 => rFld K f x H1 Q) : tFld K ta f σ H Q := q
theorem r_fldV {K : PySem.W.Frag} {f : Str} {p C dx : Addr} {fs : List (Str × V)} {v : V} (h : H p = some (.ins C dx fs)) (c : Cls K C) (n : NoAttr K C f) (l : fs.lookup f = some v) (q : Q v H) : rFld K f (.ref p) H Q := ⟨p, C, dx, fs, v, rfl, h, c, n, l, q⟩
theorem r_tup {t : TA} (q : t σ H fun xs H1 => xs.length ≤ sizeLine ∧ ∀ p, H1 p = none → Q (.ref p) (upd H1 p (.tup xs))) : tTup t σ H Q := q
theorem r_lst {t : TA} (q : t σ H fun xs H1 => xs.length ≤ sizeLine ∧ ∀ p, H1 p = none → Q (.ref p) (upd H1 p (.lst xs))) : tLst t σ H Q := q
theorem r_andV {ta tb : TE} (q : ta σ H fun x H1 => ∃ c, x = .bl c ∧ if c = true then tb σ H1 Q else Q (.bl false) H1) : tAndV ta tb σ H Q := q
theorem r_notV {ta : TE} (q : ta σ H fun x H1 => ∃ c, x = .bl c ∧ Q (.bl (!c)) H1) : tNotV ta σ H Q := q
theorem r_if {t : TT} {ta tb : TE} (q : t σ H fun c H1 => if c = true then ta σ H1 Q else tb σ H1 Q) : tIf t ta tb σ H Q := q
theorem r_sl {r : V → Option Int → Option Int → Hp → VK → Prop} {te : TE} {tl th : TO} (q : te σ H fun x H1 => tl σ H1 fun l H2 => th σ H2 fun u H3 => r x l u H3 Q) : tSl r te tl th σ H Q := q
theorem r_bm {K : PySem.W.Frag} {T : String} {r : V → List V → Hp → VK → Prop} {to : TE} {t : TA} (q : to σ H fun x H1 => tyV K T x H1 ∧ t σ H1 fun xs H2 => r x xs H2 Q) : tBM K T r to t σ H Q := q
theorem r_bm0 {K : PySem.W.Frag} {T : String} {r : V → List V → Hp → VK → Prop} {to : TE} (q : to σ H fun x H1 => tyV K T x H1 ∧ r x [] H1 Q) : tBM0 K T r to σ H Q := q
end
section
variable {σ : St} {H : Hp} {Q : List V → Hp → Prop}
theorem r_nil (q : Q [] H) : tNil σ H Q := q
theorem r_cons {ta : TE} {tr : TA} (q : ta σ H fun x H1 => tr σ H1 fun xs H2 => Q (x :: xs) H2) : tCons ta tr σ H Q := q
end
section
variable {σ : St} {H : Hp} {Q : Option Int → Hp → Prop}
theorem r_noPart (q : Q none H) : tNoPart σ H Q := q
theorem r_part {t : TE} (q : t σ H fun x H1 => ∃ i, x = .int i ∧ Q (some i) H1) : tPart t σ H Q := q
end
section
variable {σ : St} {H : Hp} {Q : Bool → Hp → Prop}
theorem r_test {t : TE} (q : t σ H fun x H' => ∃ k, x = .bl k ∧ Q k H') : tTest t σ H Q := q
theorem r_and {t u : TT} (q : t σ H fun c H1 => if c = true then u σ H1 Q else Q false H1) : tAnd t u σ H Q := q
theorem r_or {t u : TT} (q : t σ H fun c H1 => if c = true then Q true H1 else u σ H1 Q) : tOr t u σ H Q := q
theorem r_not {t : TT} (q : t σ H fun c H1 => Q (!c) H1) : tNot t σ H Q := q
theorem r_true (q : Q true H) : tTrue σ H Q := q
def tTru (K : PySem.W.Frag) (ta : TE) : TT := fun σ H Q => ta σ H fun x H' => rTru K x H' Q
theorem pt_tru {X : Cx} {a : Expr} {ta : TE} (ha : PE X a ta) (he : ∀ whole, isTrue a X.env whole = (do let v ← whole; standAt a.pos; holding [v] (truthy v)) := by intro _; rfl) : PT X a (tTru X.K ta) := pt_truth ha he
theorem r_tru {K : PySem.W.Frag} {ta : TE} (q : ta σ H fun x H' => rTru K x H' Q) : tTru K ta σ H Q := q
end
section
variable {D : Ends} {σ : St} {H : Hp}
theorem r_next (q : D.nx σ H) : tNext D σ H := q
theorem r_seq {t u : TS} (q : t { D with nx := u D } σ H) : tSeq t u D σ H := q
theorem r_ret {te : TE} (q : te σ H D.rt) : tRet te D σ H := q
theorem r_ifS {c : TT} {t u : TS} (q : c σ H fun b H1 => if b = true then t D σ H1 else u D σ H1) : tIfS c t u D σ H := q
theorem r_asg {te : TE} {g : TG} (q : te σ H fun x H1 => g x σ H1 D.nx) : tAsg te g D σ H := q
theorem r_drop {te : TE} (q : te σ H fun _ H1 => D.nx σ H1) : tDrop te D σ H := q
theorem r_sFld {K : PySem.W.Frag} {ta tv : TE} {f : Str} (q : tv σ H fun y H1 => ta σ H1 fun x H2 => sFldV K f y D σ x H2) : sFld K ta tv f D σ H := q
theorem r_sFldV {K : PySem.W.Frag} {f : Str} {y : V} {p C dx : Addr} {fs : List (Str × V)} (h : H p = some (.ins C dx fs)) (c : Cls K C) (n : NoAttr K C f) (l : fs.length < 1000) (q : D.nx σ (upd H p (.ins C dx (putF f y fs)))) : sFldV K f y D σ (.ref p) H := ⟨p, C, dx, fs, rfl, h, c, n, l, q⟩
end
theorem ifDec {c A B : Prop} [Decidable c] (h1 : c → A) (h2 : ¬ c → B) : if decide c = true then A else B := by
 by_cases h : c
 · rw [if_pos (decide_eq_true h)]; exact h1 h
 · rw [if_neg (by rw [decide_eq_false h]; exact Bool.false_ne_true)]; exact h2 h
theorem ifDecN {c A B : Prop} [Decidable c] (h1 : ¬ c → A) (h2 : c → B) : if (!decide c) = true then A else B := by
 by_cases h : c
 · rw [if_neg (by rw [decide_eq_true h]; decide)]; exact h2 h
 · rw [if_pos (by rw [decide_eq_false h]; rfl)]; exact h1 h
theorem ifInt {a b : Int} {A B : Prop} (h1 : a = b → A) (h2 : a ≠ b → B) : if decide (V.int a = V.int b) = true then A else B :=
 ifDec (fun e => h1 (by cases e; rfl)) fun e => h2 fun z => e (by rw [z])
theorem ifIntN {a b : Int} {A B : Prop} (h1 : a ≠ b → A) (h2 : a = b → B) : if (!decide (V.int a = V.int b)) = true then A else B :=
 ifDecN (fun e => h1 fun z => e (by rw [z])) fun e => h2 (by cases e; rfl)
end L3
namespace L3
open PySem PySem.Spec PyProof.Rows L2
section
variable {P : Program} {w : World} {K : PySem.W.Frag} {mg : Str → Option Value} {base : Heap} {x qual : Str} {st : Stmt} {N ps : List Str} {sp : Sp} {C : Addr}
def BodyOk (P : Program) (w : World) (K : PySem.W.Frag) (mg : Str → Option Value) (base : Heap) (k : Nat) (qual : Str) (st : Stmt) (N : List Str) (sp : Sp) : Prop :=
 ∀ (f : Addr) (cdv : Value) (A : Around) (outer : List Env) (s : Shared) (H : Hp) (vs : List V) (Q : VK) (E : XK), Room k (A.deeper (envOfC qual (defScope st) s.heap.objs.size f cdv)) → sp vs H Q E →
   ∃ t, PSs (cxOf CX0 P w K mg base N qual (defScope st) f cdv A outer s H E).nox (defBody st) t ∧ t { nx := fun _ H' => Q .non H', rt := Q } (start N vs) H
theorem fnE_of (k : Nat) (h : ∃ f fd, Fun K x qual st f fd ∧ mg x = some (.ref f) ∧ Binds K fd ps []) (S : FnScope N ps (defScope st)) (len : ∀ vs H Q E, sp vs H Q E → vs.length = ps.length)
   (hbody : BodyOk P w K mg base k qual st N sp) : FnE P w K mg base CX0 (k + 1) x sp := by
 obtain ⟨f, fd, F, hm, hb⟩ := h
 exact ⟨f, fd, ps, F.ok S len (hbody f), hm, F.kp, hb⟩
theorem methE_of (k : Nat) (c : Cls K C) (h : ∃ f fd, Fun K x qual st f fd ∧ Meth K C x f ∧ Binds K fd ps []) (S : FnScope N ps (defScope st)) (len : ∀ vs H Q E, sp vs H Q E → vs.length = ps.length)
   (hbody : BodyOk P w K mg base k qual st N sp) : MethE P w K mg base CX0 (k + 1) C x sp := by
 obtain ⟨f, fd, F, hm, hb⟩ := h
 exact ⟨c, f, fd, ps, hm, F.ok S len (hbody f), hb⟩
theorem mkE_of {y : Str} (k : Nat) (hy : mg y = some (.ref C)) (h : ∃ f fd, Fun K "__init__" qual st f fd ∧ Mk K C f ∧ Binds K fd ps []) (S : FnScope N ps (defScope st)) (len : ∀ vs H Q E, sp vs H Q E → vs.length = ps.length)
   (hbody : BodyOk P w K mg base k qual st N sp) : MkE P w K mg base CX0 (k + 1) y C sp := by
 obtain ⟨f, fd, F, hm, hb⟩ := h
 exact ⟨f, fd, ps, hm, F.ok S len (hbody f), hy, hb⟩
end
end L3
namespace L3
open PySem PySem.Spec PyProof.Rows L2 PySem.SeqAt
section
variable {X : Cx} {K : PySem.W.Frag}
theorem op_plusK (h : X.K = K) : OpR X (binaryOp .Add) (rPlus K) := by subst h; exact op_plus
theorem op_eqK (h : X.K = K) (hu : X.A.units + 64 < cLine) : OpR X (compareOp .Eq) (rEqA K) := by subst h; exact op_eqA hu
theorem op_neK (h : X.K = K) (hu : X.A.units + 64 < cLine) : OpR X (compareOp .NotEq) (rNeA K) := by subst h; exact op_neA hu
theorem op_notInK (h : X.K = K) : OpR X (compareOp .NotIn) (rIn K true) := by subst h; exact op_notIn_seq
theorem ix_K (h : X.K = K) : IxR X (rIxA K) := by subst h; exact ix_any
theorem sl_K (h : X.K = K) : SlR X (rSlA K) := by subst h; exact sl_any
theorem pi_seqK {tg l : Expr} {tl : TE} (h : X.K = K) (hl : PE X l tl) : PI X tg l (iSeq K tl) := by subst h; exact pi_seq hl
theorem call_lenK (h : X.K = K) : CallR X (.builtin "len") (rLen K) := by subst h; exact call_lenA
theorem call_listK (h : X.K = K) : CallR X (.type "list") (rLst K) := by subst h; exact call_listA
theorem call_isiK (h : X.K = K) : CallR X (.builtin "isinstance") (rIsi K) := by subst h; exact call_isi
theorem call_allK (h : X.K = K) (hc : X.calm = true) : CallR X (.builtin "all") (rAll K) := by subst h; exact call_all hc
def rTup (K : PySem.W.Frag) : List V → Hp → VK → Prop := fun xs H Q => ∃ p ys, xs = [.ref p] ∧ ((SqL K H p ys ∧ ∀ l, H l = none → Q (.ref l) (upd H l (.tup ys))) ∨ (SqT K H p ys ∧ Q (.ref p) H))
theorem call_tupK (h : X.K = K) : CallR X (.type "tuple") (rTup K) := by subst h; exact call_tuple_of
theorem pe_fldK {e : Expr} {f : Str} {pos : Pos} {ta : TE} (h : X.K = K) (he : PE X e ta) (hb : attributeBase e f X.env (eval e X.env) = eval e X.env := by rfl) : PE X (.Attribute e f pos) (tFld K ta f) := by subst h; exact pe_fld he hb
theorem ps_fldK {o value : Expr} {f : Str} {pos pos' : Pos} {ta tv : TE} (h : X.K = K) (ha : PE X o ta) (hv : PE X value tv) (hs : swapsWith value (some (.Attribute o f pos')) pos.line X.env = pure false := by rfl) :
   PS X (.Assign [.Attribute o f pos'] value pos) (sFld K ta tv f) := by subst h; exact ps_fld ha hv hs
theorem pt_truK {a : Expr} {ta : TE} (h : X.K = K) (ha : PE X a ta) (he : ∀ whole, isTrue a X.env whole = (do let v ← whole; standAt a.pos; holding [v] (truthy v)) := by intro _; rfl) : PT X a (tTru K ta) := by subst h; exact pt_tru ha he
theorem pg_tupK {es : List Expr} {k : Nat} {t : TGs} {n : Nat} {pos : Pos} (hK : X.K = K) (hc : X.calm = true) (h : PGs X es t)
   (hn : (assignEach es X.env).length = n := by rfl) (hst : (assignEach es X.env).findIdx? (·.1) = none := by rfl) : PG X (.Tuple es k pos) (gTup K n t) := by subst hK; exact pg_tup hc h hn hst
theorem pe_bm0K {o : Expr} {to : TE} {name : Str} {apos cpos : Pos} {T id : String} {r : V → List V → Hp → VK → Prop} (h : X.K = K) (pa : PlainAttrs T) (slot : Slot T name id) (hty : typeOf (.builtin id) = pure (.type "method_descriptor")) (hm : MtR X id r) (ho : PE X o to)
   (hbase : attributeBase o name X.env (eval o X.env) = eval o X.env := by rfl) (hline : (apos.endLine == cpos.line) = true := by rfl) : PE X (.Call (.Attribute o name apos) [] [] cpos) (tBM0 K T r to) := by subst h; exact pe_bm0 pa slot hty hm ho hbase hline
theorem pe_bmK {o e : Expr} {es : List Expr} {to : TE} {t : TA} {name : Str} {apos cpos : Pos} {T id : String} {r : V → List V → Hp → VK → Prop} (h : X.K = K) (pa : PlainAttrs T) (slot : Slot T name id) (hty : typeOf (.builtin id) = pure (.type "method_descriptor")) (hm : MtR X id r) (ho : PE X o to) (ha : PA X (e :: es) t)
   (hbase : attributeBase o name X.env (eval o X.env) = eval o X.env := by rfl)
   (hfew : ((backTo cpos (starEach (e :: es) X.env)).all (fun x => !x.1) && (backToKw cpos (keywordEach [] X.env)).all (fun x => x.1.isSome)
     && decide ((e :: es).length + ([] : List Keyword).length + (if ([] : List Keyword).isEmpty then 0 else 1) < 30)) = true := by rfl)
   (hline : (apos.endLine == cpos.line) = true := by rfl) (hs : starEach (e :: es) X.env = (false, eval e X.env) :: starEach es X.env := by rfl) (hplain : (backTo cpos (starEach es X.env)).any (·.1) = false := by rfl) :
   PE X (.Call (.Attribute o name apos) (e :: es) [] cpos) (tBM K T r to t) := by subst h; exact pe_bm pa slot hty hm ho ha hbase hfew hline hs hplain
end
section
variable {X : Cx} {P : Program} {w : World} {K : PySem.W.Frag} {mg : Str → Option Value} {base : Heap} {CX : CXT} {k : Nat} {E : XK} {m : Str} {pos apos : Pos} {e o : Expr} {es : List Expr} {ta : TE} {t : TA}
theorem pe_methK {pl : Sem Bool} (hP : X.prog = P ∧ X.w = w ∧ X.K = K ∧ X.mg = mg ∧ X.base = base) (he : PE X o ta) (hr : Room k X.A) (hx : Passes CX X E) (ha : PA X (e :: es) t)
   (hst : starEach (e :: es) X.env = (false, eval e X.env) :: starEach es X.env := by rfl) (hpl : (backTo pos (starEach es X.env)).any (·.1) = false := by rfl)
   (ht : eval (.Call (.Attribute o m apos) (e :: es) [] pos) X.env = (do
     let ov ← eval o X.env
     standAt apos.atName
     let (f, first) ← holding [ov] (getMethod ov m pl)
     callWith pos f first (backTo pos (starEach (e :: es) X.env)) (backToKw pos (keywordEach [] X.env))) := by rfl) :
   PE X (.Call (.Attribute o m apos) (e :: es) [] pos) (tMethE P w K mg base CX k m E ta t) := by
 obtain ⟨rfl, rfl, rfl, rfl, rfl⟩ := hP
 exact pe_methE (pl := pl) he hr hx ha hst hpl ht
theorem pe_methK0 {pl : Sem Bool} (hP : X.prog = P ∧ X.w = w ∧ X.K = K ∧ X.mg = mg ∧ X.base = base) (he : PE X o ta) (hr : Room k X.A) (hx : Passes CX X E)
   (ht : eval (.Call (.Attribute o m apos) [] [] pos) X.env = (do
     let ov ← eval o X.env
     standAt apos.atName
     let (f, first) ← holding [ov] (getMethod ov m pl)
     callWith pos f first (backTo pos (starEach [] X.env)) (backToKw pos (keywordEach [] X.env))) := by rfl) :
   PE X (.Call (.Attribute o m apos) [] [] pos) (tMethE P w K mg base CX k m E ta tNil) := by
 obtain ⟨rfl, rfl, rfl, rfl, rfl⟩ := hP
 exact pe_methE0 (pl := pl) he hr hx ht
end
end L3
namespace L3
open PySem PySem.Spec PyProof.Rows L2 PySem.SeqAt
theorem r_alloc {H : Hp} {R : Addr → Prop} (q : ∀ p, H p = none → R p) : ∀ p, H p = none → R p := q
theorem r_small {n : Nat} {R : Prop} (h : n ≤ sizeLine) (q : R) : n ≤ sizeLine ∧ R := ⟨h, q⟩
theorem none_same {H H' : Hp} {q : Addr} (s : Same H H') (h : H' q = none) : H q = none := by
 cases e : H q with
 | none => rfl
 | some u => rw [s _ _ e] at h; cases h
theorem same_none {H H1 : Hp} {p : Addr} {o : HO} (s : Same H H1) (h : H1 p = none) : Same H (upd H1 p o) := s.trans (same_new h)
def CInv {α : Type} (xs : List α) (f : α → V) (Sg : St → Prop) (H : Hp) (i : Nat) (ys : List V) (σ : St) (H1 : Hp) : Prop := Same H H1 ∧ Sg σ ∧ ys = (xs.take i).map f
theorem CInv.next {α : Type} {xs : List α} {f : α → V} {Sg : St → Prop} {H H1 H5 : Hp} {i : Nat} {ys : List V} {σ σ3 : St} {x : α} {y : V} (c : CInv xs f Sg H i ys σ H1) (hx : xs[i]? = some x) (e : y = f x) (s : Same H H5) (sg : Sg σ3) : CInv xs f Sg H (i + 1) (ys ++ [y]) σ3 H5 := by
 obtain ⟨_, _, rfl⟩ := c
 refine ⟨s, sg, ?_⟩
 subst e
 rw [List.take_add_one, hx, Option.toList_some, List.map_append]; rfl
theorem comp_mapL {K : PySem.W.Frag} {a : Addr} {α : Type} {xs : List α} {emb : α → V} {g : TG} {tc : TT} {te : TE} {fin : List V → Hp → Prop} {σ0 : St} {H : Hp} (f : α → V) (Sg : St → Prop) (hl : SqL K H a (xs.map emb)) (hz : xs.length ≤ sizeLine) (h0 : Sg σ0)
   (hs : ∀ (i : Nat) (x : α) (ys : List V) (σ : St) (H1 : Hp), xs[i]? = some x → CInv xs f Sg H i ys σ H1 → Same H H1 → Sg σ →
     g (emb x) σ H1 fun σ3 H3 => tc σ3 H3 fun b H4 => if b = true then te σ3 H4 fun y H5 => CInv xs f Sg H (i + 1) (ys ++ [y]) σ3 H5 else CInv xs f Sg H (i + 1) ys σ3 H4)
   (hd : ∀ H1, Same H H1 → fin (xs.map f) H1) : CompW (Itl K a) g tc te fin σ0 H := by
 refine comp_list (xs := xs.map emb) (CInv xs f Sg H) ⟨Same.refl _, h0, rfl⟩ ?_ ?_ ?_
 · rintro i ys σ H1 hi ⟨s, _, rfl⟩
   refine ⟨s.seq hl, ?_⟩
   rw [List.length_map, List.length_take]; omega
 · intro i x ys σ H1 hx c
   rw [List.getElem?_map] at hx
   obtain ⟨z, hz, rfl⟩ := Option.map_eq_some_iff.mp hx
   exact hs i z ys σ H1 hz c c.1 c.2.1
 · rintro ys σ H1 ⟨s, _, rfl⟩
   rw [List.length_map, List.take_length]
   exact hd H1 s
theorem r_ifB {b : Bool} {A B : Prop} (h1 : b = true → A) (h2 : b = false → B) : if b = true then A else B := by
 cases b with
 | true => exact h1 rfl
 | false => exact h2 rfl
theorem r_62 {j : Int} {R : Prop} (h1 : -(2 ^ 62) ≤ j) (h2 : j < 2 ^ 62) (q : R) : -(2 ^ 62) ≤ j ∧ j < 2 ^ 62 ∧ R := ⟨h1, h2, q⟩
theorem r_itL {K : PySem.W.Frag} {H : Hp} {a : Addr} {xs : List V} {A B : Prop} (h : SqL K H a xs) (q : A) : ((∃ xs, SqL K H a xs) ∧ A) ∨ ((∃ xs, SqT K H a xs) ∧ B) := .inl ⟨⟨xs, h⟩, q⟩
theorem r_tyL {K : PySem.W.Frag} {H : Hp} {p : Addr} {xs : List V} {R : Prop} (h : H p = some (.lst xs)) (q : R) : tyV K "list" (.ref p) H ∧ R := ⟨ty_list h, q⟩
theorem r_gN {i : Nat} {v : V} {σ σ' : St} {H : Hp} {Q : St → Hp → Prop} (h : σ.set i (some v) = σ') (q : Q σ' H) : gName i v σ H Q := by subst h; exact q
theorem r_st {N : List Str} {vs : List V} {σ' : St} {t : TS} {D : Ends} {H : Hp} (h : start N vs = σ') (q : t D σ' H) : t D (start N vs) H := by subst h; exact q
theorem r_compS' {i : Nat} {own : List Str} {fr : List (Str × Nat)} {wi : TI} {g : TG} {tc : TT} {te : TE} {D : Ends} {σ σi : St} {H : Hp} (h : innerS own fr σ = σi) (q : wi σ H fun J H1 => CompW J g tc te (fun ys H3 => ∀ p, H3 p = none → gName i (.ref p) σ (upd H3 p (.lst ys)) D.nx) σi H1) : tCompS i own fr wi g tc te D σ H := by subst h; exact q
theorem r_compE' {own : List Str} {fr : List (Str × Nat)} {wi : TI} {g : TG} {tc : TT} {te : TE} {σ σi : St} {H : Hp} {Q : VK} (h : innerS own fr σ = σi) (q : wi σ H fun J H1 => CompW J g tc te (fun ys H3 => ∀ p, H3 p = none → Q (.ref p) (upd H3 p (.lst ys))) σi H1) : tCompE own fr wi g tc te σ H Q := by subst h; exact q
def rIsN : R2 := fun x y H Q => y = .non ∧ Q (.bl (decide (x = .non))) H
theorem op_isNA {X : Cx} : OpR X (compareOp .Is) rIsN := op_isN
theorem r_isNr {p : Addr} {H : Hp} {Q : VK} (q : Q (.bl false) H) : rIsN (.ref p) .non H Q := ⟨rfl, q⟩
def FInv {α : Type} (xs : List α) (f : α → V) (pr : α → Bool) (Sg : St → Prop) (H : Hp) (i : Nat) (ys : List V) (σ : St) (H1 : Hp) : Prop := Same H H1 ∧ Sg σ ∧ ys = ((xs.take i).filter pr).map f
theorem FInv.yes {α : Type} {xs : List α} {f : α → V} {pr : α → Bool} {Sg : St → Prop} {H H1 H5 : Hp} {i : Nat} {ys : List V} {σ σ3 : St} {x : α} {y : V} (c : FInv xs f pr Sg H i ys σ H1) (hx : xs[i]? = some x) (hp : pr x = true) (e : y = f x) (s : Same H H5) (sg : Sg σ3) : FInv xs f pr Sg H (i + 1) (ys ++ [y]) σ3 H5 := by
 obtain ⟨_, _, rfl⟩ := c
 refine ⟨s, sg, ?_⟩
 subst e
 rw [List.take_add_one, hx, Option.toList_some, List.filter_append, List.map_append, List.filter_cons, if_pos hp]; rfl
theorem FInv.no {α : Type} {xs : List α} {f : α → V} {pr : α → Bool} {Sg : St → Prop} {H H1 H5 : Hp} {i : Nat} {ys : List V} {σ σ3 : St} {x : α} (c : FInv xs f pr Sg H i ys σ H1) (hx : xs[i]? = some x) (hp : pr x = false) (s : Same H H5) (sg : Sg σ3) : FInv xs f pr Sg H (i + 1) ys σ3 H5 := by
 obtain ⟨_, _, rfl⟩ := c
 refine ⟨s, sg, ?_⟩
 rw [List.take_add_one, hx, Option.toList_some, List.filter_append, List.map_append, List.filter_cons, if_neg (by rw [hp]; decide)]
 simp
end L3
namespace L3
open PySem PySem.Spec PyProof.Rows L2 PySem.SeqAt
section
variable {P : Program} {w : World} {K : PySem.W.Frag} {mg : Str → Option Value} {base : Heap}
end
section
variable {X : Cx} {CX : CXT} {k : Nat} {C : Addr} {sp : Sp} {E : XK} {x m : Str} {p pos apos : Pos} {e o : Expr} {es : List Expr} {ta : TE} {t : TA}
end
section
variable {P : Program} {w : World} {K : PySem.W.Frag} {mg : Str → Option Value} {base : Heap} {x qual : Str} {st : Stmt} {N ps : List Str} {sp : Sp} {C : Addr}
end
theorem r_plusT {K : PySem.W.Frag} {a b : Addr} {xs ys : List V} {H : Hp} {Q : VK} (ha : SqT K H a xs) (hb : SqT K H b ys) (h1 : xs ≠ []) (h2 : ys ≠ []) (hz : xs.length + ys.length ≤ sizeLine) (q : ∀ p, H p = none → Q (.ref p) (upd H p (.tup (xs ++ ys)))) :
   rPlus K (.ref a) (.ref b) H Q := .inr (.inr (.inl ⟨a, b, xs, ys, rfl, rfl, ha, hb, h1, hz, fun e => absurd e h2, fun _ => q⟩))
theorem comp_filR {g : TG} {tc : TT} {te : TE} {fin : List V → Hp → Prop} {σ0 : St} {H : Hp} {lo : Int} {n : Nat} (f : Nat → V) (pr : Nat → Bool) (Sg : St → Prop) (hz : n ≤ sizeLine) (h0 : Sg σ0)
   (hs : ∀ (i : Nat) (ys : List V) (σ : St) (H1 : Hp), i < n → FInv (List.range n) f pr Sg H i ys σ H1 → Same H H1 → Sg σ →
     g (.int (lo + i)) σ H1 fun σ3 H3 => tc σ3 H3 fun b H4 => if b = true then te σ3 H4 fun y H5 => FInv (List.range n) f pr Sg H (i + 1) (ys ++ [y]) σ3 H5 else FInv (List.range n) f pr Sg H (i + 1) ys σ3 H4)
   (hd : ∀ H1, Same H H1 → fin (((List.range n).filter pr).map f) H1) : CompW (Itr lo n) g tc te fin σ0 H := by
 refine comp_range (FInv (List.range n) f pr Sg H) ⟨Same.refl _, h0, rfl⟩ ?_ ?_ ?_
 · rintro i ys σ H1 hi ⟨s, _, rfl⟩
   have h1 := List.length_filter_le pr ((List.range n).take i)
   rw [List.length_take, List.length_range] at h1
   rw [List.length_map]; omega
 · intro i ys σ H1 hi c
   exact hs i ys σ H1 hi c c.1 c.2.1
 · rintro ys σ H1 ⟨s, _, rfl⟩
   rw [List.take_of_length_le (by rw [List.length_range]; exact Nat.le_refl _)]
   exact hd H1 s
section
variable {K : PySem.W.Frag} {a : Addr} {xs : List V} {g : TG} {tc : TT} {te : TE} {fin : List V → Hp → Prop} {H : Hp}
end
end L3
namespace L3
open PySem PySem.Spec PyProof.Rows
section
variable {prog : Program} {w : World} {A : Around} {E : Value → Shared → Prop} {s : Shared}
theorem drawT0 {it t : Addr} {i : Nat} {its : Array Value} {Q : Value → Shared → Prop} (hi : s.heap.IsTupleIter it t i) (ht : s.heap.IsTuple t its)
   (q1 : ∀ x, its[i]? = some x → ∀ h', h'.IsTupleIter it t (i + 1) → Heap.SameBut it s.heap h' → Q x { s with heap := h' })
   (q2 : its[i]? = none → A.handled = none ∧ ∀ h' e, Heap.ExtBut it s.heap h' → (∃ o, h'.get? e = some o ∧ o.cls = .type "StopIteration") → E (.ref e) { s with heap := h' }) :
   wpAny (model prog w) A (Builtin.SmallTypes.nextOf (.ref it)) Q E s := by
 obtain ⟨o, ho, hc, hd⟩ := id hi
 obtain ⟨ot, hot, _, nt, hdt⟩ := ht
 unfold Builtin.SmallTypes.nextOf
 refine wpAny_bind (wpAny_callSpecial?_slot (name := Str.ofString "__next__") hi.typeIs F.slot_tuple_iterator_next (wpAny_call_entry F.slot_tuple_iterator_next hi.typeIs F.entry_tuple_iterator_next ?_ (F.args_tuple_iterator_next_1 _)))
 show wpAny _ _ (field (.ref it) 0 >>= _) _ _ _; refine wpAny_bind (wpAny_field ho hd (x := .ref t) rfl ?_)
 show wpAny _ _ (if (Value.ref t == Value.none) = true then _ else _) _ _ _; rw [if_neg (show ¬ (Value.ref t == Value.none) = true from fun z => Bool.false_ne_true z)]
 show wpAny _ _ (field (.ref it) 1 >>= _) _ _ _; refine wpAny_bind (wpAny_field ho hd (x := .int i 0) rfl ?_)
 show wpAny _ _ (seqItems? (.ref t) >>= _) _ _ _; refine wpAny_bind (wpAny_seqItems hot hdt ?_)
 cases hx : its[i]? with
 | some x =>
   simp only [Int.toNat_natCast, hx]; refine wpAny_bind (wpAny_setField ho hd (by simp) (wpAny_pure ⟨x, rfl, wpAny_pure (q1 x hx _ ?_ (Heap.SameBut.update ..))⟩))
   refine ⟨_, Heap.get?_update_self _ ho (Obj.isFreed_of_fields (Obj.data_mapFields hd _)), (Obj.cls_mapFields ..).trans hc, ?_⟩
   rw [Obj.data_mapFields hd]; simp [rawInt]
 | none =>
   obtain ⟨hh, q2⟩ := q2 hx
   simp only [Int.toNat_natCast, hx]; refine wpAny_bind (wpAny_rule (wpAny_bind (wpAny_setField ho hd (by simp) ?_)))
   show wpAny _ _ (newExc (.type "StopIteration") [] >>= _) _ _ _; refine wpAny_bind ?_
   simp only [newExc, newTuple]; refine wpAny_bind (wpAny_newObj_type ?_ (by size_fits))
   refine wpAny_bind (m := firstArgMember _ _) (wpAny_of_eq (a := Value.none) (by first | rfl | (simp only [firstArgMember]; rfl)) (wpAny_newObj_type ?_ (by size_fits)))
   simp only [raiseNew]; refine wpAny_bind (wpAny_handled ?_)
   rw [show A.in1.handled = none from hh]; refine wpAny_bind (wpAny_pure (wpAny_throw ?_))
   exact q2 _ _ (((Heap.SameBut.update ..).extBut.push _).push _) ⟨_, Heap.get?_push_size _ rfl, rfl⟩
theorem zipT {z TI TO i1 i2 t1 t2 : Addr} {k : Nat} {xs ys : Array Value} {a b : Value} {Q : Fin → Shared → Prop} (D : ZipApart z TI TO i1 i2 t1 t2) (hz : IsZip s.heap z TI TO .none) (hTI : IsPair s.heap TI (.ref i1) (.ref i2)) (hTO : IsPair s.heap TO a b)
   (h1 : s.heap.IsTupleIter i1 t1 k) (h2 : s.heap.IsTupleIter i2 t2 k) (ht1 : s.heap.IsTuple t1 xs) (ht2 : s.heap.IsTuple t2 ys)
   (q1 : ∀ x y, xs[k]? = some x → ys[k]? = some y → ∀ h', IsZip h' z TI TO (rawInt s.heap.objs.size) → IsPair h' TO x y → h'.IsTupleIter i1 t1 (k + 1) → h'.IsTupleIter i2 t2 (k + 1) → IsPair h' s.heap.objs.size x y →
     (∀ c o, c ≠ z → c ≠ TO → c ≠ i1 → c ≠ i2 → s.heap.get? c = some o → h'.get? c = some o) → Q (.done (.ret (.ref s.heap.objs.size))) { s with heap := h' })
   (q2 : (xs[k]? = none ∨ ys[k]? = none) → A.handled = none ∧ ∀ h' e, (∀ c o, c ≠ z → c ≠ TO → c ≠ i1 → c ≠ i2 → s.heap.get? c = some o → h'.get? c = some o) → (∃ o, h'.get? e = some o ∧ o.cls = .type "StopIteration") → E (.ref e) { s with heap := h' }) :
   wpAny (model prog w) A (Builtin.«zip.__next__» ⟨[.ref z], []⟩) Q E s := by
 show wpAny _ _ (field (.ref z) 2 >>= _) _ _ _; refine wpAny_bind (wpAny_field hz rfl (x := .bool false) rfl ?_)
 show wpAny _ _ (field (.ref z) 3 >>= _) _ _ _; refine wpAny_bind (wpAny_field hz rfl (x := .ref TI) rfl (wpAny_bind (wpAny_seqItems hTI rfl ?_)))
 show wpAny _ _ (Builtin.SmallTypes.ownedTupleIsFree (.ref z) >>= _) _ _ _; refine wpAny_bind ?_
 unfold Builtin.SmallTypes.ownedTupleIsFree; refine wpAny_bind (wpAny_field hz rfl (x := .none) rfl (wpAny_pure ?_))
 simp only [if_true]; refine wpAny_bind (wpAny_rule (wpAny_bind (wpAny_field hz rfl (x := .ref TO) rfl ?_)))
 refine wpAny_bind (wpAny_setField_rec hz (by simp) fun g1 hz1 s1 => ?_); replace hz1 : IsZip g1 z TI TO .ellipsis := hz1
 refine wpAny_bind ?_; simp only [List.zipIdx_cons, List.zipIdx_nil, List.forIn_cons, List.forIn_nil]
 refine wpAny_bind (wpAny_bind (wpAny_onRaise ?_)); show wpAny _ _ (Builtin.SmallTypes.nextOf (.ref i1) >>= _) _ _ _
 refine wpAny_bind (drawT0 (h1.at fun o e => s1.extBut _ o D.i1z e) (ht1.extBut s1.extBut D.l1z) (fun x hx g2 h12 s2 => wpAny_pure ?_) fun hx => ?_)
 · have hO2 : IsPair g2 TO a b := s2.extBut _ _ D.TOi1 (s1.extBut _ _ D.TOz hTO)
   refine wpAny_bind (wpAny_seqItems hO2 rfl (wpAny_bind (wpAny_updateSeq_pair hO2 fun g3 hO3 s3 => ?_))); replace hO3 : IsPair g3 TO x b := hO3
   refine wpAny_bind (wpAny_letGo (wpAny_pure ?_)); refine wpAny_bind (wpAny_bind (wpAny_onRaise ?_))
   show wpAny _ _ (Builtin.SmallTypes.nextOf (.ref i2) >>= _) _ _ _
   have k3 : ∀ c o, c ≠ z → c ≠ TO → c ≠ i1 → s.heap.get? c = some o → g3.get? c = some o := fun c o c1 c2 c3 e => s3.extBut _ _ c2 (s2.extBut _ _ c3 (s1.extBut _ _ c1 e))
   have hz3 : IsZip g3 z TI TO .ellipsis := s3.extBut _ _ D.TOz.symm (s2.extBut _ _ D.i1z.symm hz1)
   refine wpAny_bind (drawT0 (h2.at fun o e => k3 _ o D.i2z D.TOi2.symm D.i12.symm e) (ht2.at fun o e => k3 _ o D.l2z D.l2TO D.l2i1 e) (fun y hy g4 h24 s4 => wpAny_pure ?_) fun hy => ?_)
   · have hO4 : IsPair g4 TO x b := s4.extBut _ _ D.TOi2 hO3
     refine wpAny_bind (wpAny_seqItems hO4 rfl (wpAny_bind (wpAny_updateSeq_pair hO4 fun g5 hO5 s5 => ?_))); replace hO5 : IsPair g5 TO x y := hO5
     refine wpAny_bind (wpAny_letGo (wpAny_pure (wpAny_pure ?_))); refine wpAny_bind (wpAny_seqItems hO5 rfl (wpAny_bind (wpAny_newTuple ?_)))
     have z5 : g5.objs.size = s.heap.objs.size := by rw [s5.1, s4.1, s3.1, s2.1, s1.1]
     have hz5 : IsZip g5 z TI TO .ellipsis := s5.extBut _ _ D.TOz.symm (s4.extBut _ _ D.i2z.symm hz3)
     have k5 : ∀ c o, c ≠ z → c ≠ TO → c ≠ i1 → c ≠ i2 → s.heap.get? c = some o → g5.get? c = some o := fun c o c1 c2 c3 c4 e => s5.extBut _ _ c2 (s4.extBut _ _ c4 (k3 c o c1 c2 c3 e))
     have h15 : g5.IsTupleIter i1 t1 (k + 1) := h12.at fun o e => s5.extBut _ _ D.TOi1.symm (s4.extBut _ _ D.i12 (s3.extBut _ _ D.TOi1.symm e))
     have h25 : g5.IsTupleIter i2 t2 (k + 1) := h24.at fun o e => s5.extBut _ _ D.TOi2.symm e
     have zlt : z < g5.objs.size := Heap.lt_size hz5
     show wpAny _ _ (Builtin.SmallTypes.ownedTupleHandOut (.ref z) (.ref g5.objs.size) >>= _) _ _ _; refine wpAny_bind ?_
     unfold Builtin.SmallTypes.ownedTupleHandOut
     have hz6 : IsZip (g5.push { cls := .type "tuple", data := .seq #[x, y] }) z TI TO .ellipsis := Heap.get?_push_of_some _ hz5
     refine wpAny_bind (wpAny_setField_rec hz6 (by simp) fun g7 hz7 s7 => ?_); replace hz7 : IsZip g7 z TI TO (rawInt g5.objs.size) := hz7
     refine wpAny_setField_rec hz7 (by simp) fun g8 hz8 s8 => ?_; replace hz8 : IsZip g8 z TI TO (rawInt g5.objs.size) := hz8
     have up : ∀ c o, c ≠ z → g5.get? c = some o → g8.get? c = some o := fun c o c1 e => s8.extBut _ _ c1 (s7.extBut _ _ c1 (Heap.get?_push_of_some _ e))
     have hT8 : IsPair g8 g5.objs.size x y := s8.extBut _ _ (Nat.ne_of_gt zlt) (s7.extBut _ _ (Nat.ne_of_gt zlt) (Heap.get?_push_size _ rfl))
     rw [z5] at hz8 hT8; refine wpAny_pure ?_
     show Q (.done (.ret (.ref g5.objs.size))) _; rw [z5]
     exact q1 x y hx hy g8 hz8 (up _ _ D.TOz hO5) (h15.at fun o e => up _ o D.i1z e) (h25.at fun o e => up _ o D.i2z e) hT8 fun c o c1 c2 c3 c4 e => up c o c1 (k5 c o c1 c2 c3 c4 e)
   · obtain ⟨hh, q2⟩ := q2 (.inr hy)
     refine ⟨hh, fun g4 e s4 he => ?_⟩
     obtain ⟨oe, hoe, hce⟩ := he
     have hz4 : IsZip g4 z TI TO .ellipsis := s4 _ _ D.i2z.symm hz3
     have hez : e ≠ z := fun v => by subst v; rw [hz4] at hoe; cases hoe; simp at hce
     exact wpAny_setField_rec hz4 (by simp) fun g5 _ s5 => q2 g5 e (fun c o c1 c2 c3 c4 v => s5.extBut _ _ c1 (s4 _ _ c4 (k3 c o c1 c2 c3 v))) ⟨oe, s5.extBut _ _ hez hoe, hce⟩
 · obtain ⟨hh, q2⟩ := q2 (.inl hx)
   refine ⟨hh, fun g2 e s2 he => ?_⟩
   obtain ⟨oe, hoe, hce⟩ := he
   have hz2 : IsZip g2 z TI TO .ellipsis := s2 _ _ D.i1z.symm hz1
   have hez : e ≠ z := fun v => by subst v; rw [hz2] at hoe; cases hoe; simp at hce
   exact wpAny_setField_rec hz2 (by simp) fun g3 _ s3 => q2 g3 e (fun c o c1 _ c3 _ v => s3.extBut _ _ c1 (s2 _ _ c3 (s1.extBut _ _ c1 v))) ⟨oe, s3.extBut _ _ hez hoe, hce⟩
end
abbrev itO (t : Addr) : Obj := { cls := .type "tuple_iterator", data := .fields #[.ref t, .int 0 0] }
abbrev prO (a b : Value) : Obj := { cls := .type "tuple", data := .seq #[a, b] }
abbrev zG1 (h : Heap) (t : Addr) : Heap := h.push (itO t)
abbrev zG2 (h : Heap) (t u : Addr) : Heap := (zG1 h t).push (itO u)
abbrev zG3 (h : Heap) (t u : Addr) : Heap := (zG2 h t u).push (prO (.ref h.objs.size) (.ref (zG1 h t).objs.size))
abbrev zG4 (h : Heap) (t u : Addr) : Heap := (zG3 h t u).push (prO .none .none)
abbrev zG5 (h : Heap) (t u : Addr) : Heap := (zG4 h t u).push { cls := .type "zip", data := .fields #[.none, .bool false, .bool false, .ref (zG2 h t u).objs.size, .ref (zG3 h t u).objs.size] }
theorem zipT_new (t u : Addr) (xs ys : Array Value) : Meets (Builtin.«zip.__new__» ⟨[.type "zip", .ref t, .ref u], []⟩) (fun _ R s => s.heap.IsTuple t xs ∧ s.heap.IsTuple u ys ∧ R (.ok (.ret (.ref (zG4 s.heap t u).objs.size))) { s with heap := zG5 s.heap t u }) :=
 .of_wp fun prog w A R s h => by
   obtain ⟨hp, g, d, tk, os⟩ := s; obtain ⟨hl1, hl2, h⟩ := h
   have hsub := sub_zip; have hL1 : Heap.IsTuple (Shared.heap ⟨hp, g, d, tk, os⟩) t xs := hl1
   have hL2 : Heap.IsTuple (Shared.heap ⟨hp.push (itO t), g, d, tk, os⟩) u ys := hl2.at fun o e => Heap.get?_push_of_some _ e
   wp_walk using wpAny_pyIter_tuple hL1, wpAny_pyIter_tuple hL2
   exact ⟨_, rfl, h⟩
section
variable {prog : Program} {w : World} {A : Around} {E : Value → Shared → Prop} {s : Shared}
theorem callZip {t u : Addr} {xs ys : Array Value} {Q : Value → Shared → Prop} (h1 : s.heap.IsTuple t xs) (h2 : s.heap.IsTuple u ys)
   (q : ∀ h' n, n = s.heap.objs.size → IsZip h' (n + 4) (n + 2) (n + 3) .none → IsPair h' (n + 2) (.ref n) (.ref (n + 1)) → IsPair h' (n + 3) .none .none → h'.IsTupleIter n t 0 → h'.IsTupleIter (n + 1) u 0 →
     (∀ c o, s.heap.get? c = some o → h'.get? c = some o) → Q (.ref (n + 4)) { s with heap := h' }) : wpAny (model prog w) A (call (.type "zip") [.ref t, .ref u]) Q E s := by
 refine callType_new F.called_zip (by decide) (F.typeCall_zip_2 _ _) (F.newCall_zip_2 _ _) (fun obj => F.args_object_init_3 obj _ _) F.entry_zip_new (zipT_new t u xs ys) ⟨h1, h2, ?_⟩
 have z1 : (zG1 s.heap t).objs.size = s.heap.objs.size + 1 := Heap.size_push ..
 have z2 : (zG2 s.heap t u).objs.size = s.heap.objs.size + 2 := by rw [Heap.size_push, z1]
 have z3 : (zG3 s.heap t u).objs.size = s.heap.objs.size + 3 := by rw [Heap.size_push, z2]
 have z4 : (zG4 s.heap t u).objs.size = s.heap.objs.size + 4 := by rw [Heap.size_push, z3]
 have p5 : ∀ c o, (zG4 s.heap t u).get? c = some o → (zG5 s.heap t u).get? c = some o := fun c o e => Heap.get?_push_of_some _ e
 have p4 : ∀ c o, (zG3 s.heap t u).get? c = some o → (zG5 s.heap t u).get? c = some o := fun c o e => p5 c o (Heap.get?_push_of_some _ e)
 have p3 : ∀ c o, (zG2 s.heap t u).get? c = some o → (zG5 s.heap t u).get? c = some o := fun c o e => p4 c o (Heap.get?_push_of_some _ e)
 have p2 : ∀ c o, (zG1 s.heap t).get? c = some o → (zG5 s.heap t u).get? c = some o := fun c o e => p3 c o (Heap.get?_push_of_some _ e)
 have e5 : (zG5 s.heap t u).get? (zG4 s.heap t u).objs.size = some _ := Heap.get?_push_size _ rfl
 have e4 := p5 _ _ (show (zG4 s.heap t u).get? (zG3 s.heap t u).objs.size = some _ from Heap.get?_push_size _ rfl)
 have e3 := p4 _ _ (show (zG3 s.heap t u).get? (zG2 s.heap t u).objs.size = some _ from Heap.get?_push_size _ rfl)
 have e2 := p3 _ _ (show (zG2 s.heap t u).get? (zG1 s.heap t).objs.size = some _ from Heap.get?_push_size _ rfl)
 have e1 := p2 _ _ (show (zG1 s.heap t).get? s.heap.objs.size = some _ from Heap.get?_push_size _ rfl)
 rw [z2, z3, z4] at e5
 rw [z2, z1] at e3
 rw [z3] at e4
 rw [z1] at e2
 show _ ∧ _
 rw [z4]
 exact ⟨⟨_, e5, rfl⟩, q _ _ rfl e5 e3 e4 ⟨_, e1, rfl, rfl⟩ ⟨_, e2, rfl, rfl⟩ fun c o x => p2 c o (Heap.get?_push_of_some _ x)⟩
theorem nextZip {z TI TO i1 i2 t1 t2 : Addr} {k : Nat} {xs ys : Array Value} {a b : Value} {Q : Option Value → Shared → Prop} (D : ZipApart z TI TO i1 i2 t1 t2) (hz : IsZip s.heap z TI TO .none) (hTI : IsPair s.heap TI (.ref i1) (.ref i2)) (hTO : IsPair s.heap TO a b)
   (h1 : s.heap.IsTupleIter i1 t1 k) (h2 : s.heap.IsTupleIter i2 t2 k) (ht1 : s.heap.IsTuple t1 xs) (ht2 : s.heap.IsTuple t2 ys)
   (q1 : ∀ x y, xs[k]? = some x → ys[k]? = some y → ∀ h', IsZip h' z TI TO (rawInt s.heap.objs.size) → IsPair h' TO x y → h'.IsTupleIter i1 t1 (k + 1) → h'.IsTupleIter i2 t2 (k + 1) → IsPair h' s.heap.objs.size x y →
     (∀ c o, c ≠ z → c ≠ TO → c ≠ i1 → c ≠ i2 → s.heap.get? c = some o → h'.get? c = some o) → Q (some (.ref s.heap.objs.size)) { s with heap := h' })
   (q2 : (xs[k]? = none ∨ ys[k]? = none) → A.handled = none ∧ ∀ h', (∀ c o, c ≠ z → c ≠ TO → c ≠ i1 → c ≠ i2 → s.heap.get? c = some o → h'.get? c = some o) → Q none { s with heap := h' }) :
   wpAny (model prog w) A (pyNext (.ref z)) Q E s := by
 have hT : s.TypeIs (.ref z) "zip" := ⟨_, hz, rfl⟩; unfold pyNext
 refine wpAny_bind (wpAny_attempt (wpAny_callSpecial?_slot (name := Str.ofString "__next__") hT F.slot_zip_next (wpAny_call_entry F.slot_zip_next hT F.entry_zip_next ?_ (F.args_zip_next_1 _))))
 refine zipT D hz hTI hTO h1 h2 ht1 ht2 (fun x y hx hy h' a1 a2 a3 a4 a5 a6 => ⟨_, rfl, wpAny_pure (q1 x y hx hy h' a1 a2 a3 a4 a5 a6)⟩) fun he => ⟨(q2 he).1, fun h' e kk ho => ?_⟩
 obtain ⟨o, ho, hc⟩ := ho
 exact wpAny_bind (wpAny_isInstance (T := "StopIteration") (b := true) ⟨o, ho, hc⟩ isSubtype_stop (wpAny_pure ((q2 he).2 _ kk)))
end
end L3
namespace L3
open PySem PySem.Spec PyProof.Rows L2
def Itz (K : PySem.W.Frag) (a b : Addr) : It :=
 ⟨fun i H => ∃ xs ys x y, SqT K H a xs ∧ SqT K H b ys ∧ xs[i]? = some x ∧ ys[i]? = some y,
  fun i H v H' => ∃ T x y, v = .ref T ∧ H T = none ∧ H' = upd H T (.tup [x, y]) ∧ ∀ xs ys, SqT K H a xs → SqT K H b ys → xs[i]? = some x ∧ ys[i]? = some y,
  fun i H => ∃ xs ys, SqT K H a xs ∧ SqT K H b ys ∧ (xs.length ≤ i ∨ ys.length ≤ i)⟩
theorem inv_turns {X : Cx} {pins : List (Addr × Obj)} {σ : St} {H : Hp} {s : Shared} {h' : Heap} {ch : List Addr} {T : Addr} {xs : List V} (I : Inv X pins σ H s) (hf : ∀ b ∈ ch, FpOk X pins H b) (hT : s.heap.objs.size ≤ T)
   (k : ∀ b o, b ∉ ch → s.heap.get? b = some o → h'.get? b = some o) (kc : ∀ b ∈ ch, ∃ o, h'.get? b = some o) (new : ObjOk X.prog X.w (upd H T (.tup xs)) h' T (.tup xs)) : Inv X pins σ (upd H T (.tup xs)) { s with heap := h' } := by
 have hn : H T = none := I.hok.fresh hT
 have nc : ∀ b u, H b = some u → b ∉ ch := fun b u e hb => by rw [(hf b hb).1] at e; cases e
 have nT : ∀ b o, s.heap.get? b = some o → b ≠ T := fun b o e z => absurd (Heap.lt_size e) (by rw [z]; exact Nat.not_lt.mpr hT)
 refine I.call' (ch := ch) rfl ⟨fun b o e _ _ hc => k b o hc e, fun b o e _ _ hc => ⟨o.slots, k b o hc e⟩, fun b o e n _ => by rw [upd_ne (nT b o e)]; exact n, fun b o e hc => ⟨o, k b o hc e⟩, fun b xs e => ?_, fun b o u e => ?_, fun b ps e => ⟨#[], ?_⟩⟩ ?_ I.bare ?_
 · rw [upd_ne (ne_of_none e hn)]; exact e
 · rw [upd_ne (ne_of_none e hn)]; exact e
 · rw [upd_ne (ne_of_none e hn), e]; simp
 · intro b u e
   by_cases hb : b = T
   · subst hb
     rw [upd_same] at e
     cases e
     exact new
   · rw [upd_ne hb] at e
     refine (I.hok b u e).stay (fun c v hc q => k c v ?_ q) (fun c q => by rw [upd_ne (ne_of_none q hn)]; exact q) fun c ys q => by rw [upd_ne (ne_of_none q hn)]; exact q
     rcases hc with z | z
     · rw [z]; exact nc b u e
     · exact nc c _ z
 · intro b hb
   obtain ⟨f0, f1, f2, f3, f4, f5⟩ := hf b hb
   exact ⟨f3, f1, f4, f5⟩
theorem turn_zip {P : Program} {w : World} {K : PySem.W.Frag} {es : List Expr} {n : Nat} {pos : Pos} {a b z TI TO i1 i2 : Addr} (D : ZipApart z TI TO i1 i2 a b) :
   Turn P w K (.Tuple es n pos) (Itz K a b) [z, TI, TO, i1, i2] z (fun i h => IsZip h z TI TO .none ∧ IsPair h TI (.ref i1) (.ref i2) ∧ (∃ x y, IsPair h TO x y) ∧ h.IsTupleIter i1 a i ∧ h.IsTupleIter i2 b i) where
 mem := by simp
 obj := fun i h st c hc => by
   obtain ⟨hz, hI, ⟨x, y, hO⟩, ⟨o1, e1, _, d1⟩, ⟨o2, e2, _, d2⟩⟩ := st
   have hc : c = z ∨ c = TI ∨ c = TO ∨ c = i1 ∨ c = i2 := by simpa using hc
   rcases hc with rfl | rfl | rfl | rfl | rfl
   · exact ⟨_, hz, fun v e => by cases e⟩
   · exact ⟨_, hI, fun v e => by cases e⟩
   · exact ⟨_, hO, fun v e => by cases e⟩
   · exact ⟨_, e1, fun v e => by rw [d1] at e; cases e⟩
   · exact ⟨_, e2, fun v e => by rw [d2] at e; cases e⟩
 keep := fun i h h' st k => by
   obtain ⟨hz, hI, ⟨x, y, hO⟩, h1, h2⟩ := st
   exact ⟨k z (by simp) _ hz, k TI (by simp) _ hI, ⟨x, y, k TO (by simp) _ hO⟩, h1.at fun o e => k i1 (by simp) o e, h2.at fun o e => k i2 (by simp) o e⟩
 item := by
   intro X hP hw hK hc i pins s σ H E I hf st hg
   subst hP hw hK
   obtain ⟨hz, hI, ⟨x0, y0, hO⟩, h1, h2⟩ := st
   obtain ⟨xs, ys, x, y, hq1, hq2, hx, hy⟩ := hg
   obtain ⟨its1, rv1, p1, _⟩ := I.tuple hq1
   obtain ⟨its2, rv2, p2, _⟩ := I.tuple hq2
   obtain ⟨u, hu, ru⟩ := rv1.get hx
   obtain ⟨v, hv, rv⟩ := rv2.get hy
   refine nextZip D hz hI hO h1 h2 (show s.heap.IsTuple a its1.toArray from p1) (show s.heap.IsTuple b its2.toArray from p2) (fun u' v' hu' hv' h' z1 z2 z3 z4 z5 kk => ?_) fun he => ?_
   · have e1 : u' = u := by simpa [hu] using hu'.symm
     have e2 : v' = v := by simpa [hv] using hv'.symm
     subst e1 e2
     refine ⟨_, rfl, wpAny_letOwnedTupleGo_zip z1 fun h2' hz2 s2 => ?_⟩
     have T0 : H s.heap.objs.size = none := I.hok.fresh (Nat.le_refl _)
     have tz : s.heap.objs.size ≠ z := Nat.ne_of_gt (Heap.lt_size hz)
     have J : Inv X pins σ (upd H s.heap.objs.size (.tup [x, y])) { s with heap := h2' } := by
       refine inv_turns (ch := [z, TI, TO, i1, i2]) I hf (Nat.le_refl _) (fun c o hc e => ?_) (fun c hc => ?_) ?_
       · have c1 : c ≠ z := fun q => hc (by simp [q])
         exact s2.extBut _ _ c1 (kk c o c1 (fun q => hc (by simp [q])) (fun q => hc (by simp [q])) (fun q => hc (by simp [q])) e)
       · have hc : c = z ∨ c = TI ∨ c = TO ∨ c = i1 ∨ c = i2 := by simpa using hc
         rcases hc with rfl | rfl | rfl | rfl | rfl
         · exact ⟨_, hz2⟩
         · exact ⟨_, s2.extBut _ _ D.TIz (kk _ _ D.TIz D.TITO D.TIi1 D.TIi2 hI)⟩
         · exact ⟨_, s2.extBut _ _ D.TOz z2⟩
         · obtain ⟨o, e, _⟩ := z3; exact ⟨o, s2.extBut _ _ D.i1z e⟩
         · obtain ⟨o, e, _⟩ := z4; exact ⟨o, s2.extBut _ _ D.i2z e⟩
       · exact ⟨by show 2 ≤ sizeLine; decide, [u', v'], .cons ru (.cons rv .nil), ⟨_, s2.extBut _ _ tz z5, rfl, _, rfl⟩⟩
     refine ⟨.ref s.heap.objs.size, _, J, rfl, ⟨_, x, y, rfl, T0, rfl, fun xs' ys' q1 q2 => ?_⟩, ⟨hz2, s2.extBut _ _ D.TIz (kk _ _ D.TIz D.TITO D.TIi1 D.TIi2 hI), ⟨_, _, s2.extBut _ _ D.TOz z2⟩, z3.at fun o e => s2.extBut _ _ D.i1z e, z4.at fun o e => s2.extBut _ _ D.i2z e⟩, fun c hc => ?_⟩
     · rw [I.tuple_inj q1 hq1, I.tuple_inj q2 hq2]; exact ⟨hx, hy⟩
     · have hlt : c < s.heap.objs.size := by
         have hc : c = z ∨ c = TI ∨ c = TO ∨ c = i1 ∨ c = i2 := by simpa using hc
         rcases hc with e | e | e | e | e <;> rw [e]
         · exact Heap.lt_size hz
         · exact Heap.lt_size hI
         · exact Heap.lt_size hO
         · obtain ⟨o, e, _⟩ := h1; exact Heap.lt_size e
         · obtain ⟨o, e, _⟩ := h2; exact Heap.lt_size e
       rw [upd_ne (Nat.ne_of_lt hlt)]; exact (hf c hc).1
   · exfalso
     rcases he with he | he
     · simp [hu] at he
     · simp [hv] at he
 done := by
   intro X hP hw hK hc i pins s σ H E I hf st hg
   subst hP hw hK
   obtain ⟨hz, hI, ⟨x0, y0, hO⟩, h1, h2⟩ := st
   obtain ⟨xs, ys, hq1, hq2, hl⟩ := hg
   obtain ⟨its1, rv1, p1, _⟩ := I.tuple hq1
   obtain ⟨its2, rv2, p2, _⟩ := I.tuple hq2
   have l1 := rv1.length
   have l2 := rv2.length
   refine nextZip D hz hI hO h1 h2 (show s.heap.IsTuple a its1.toArray from p1) (show s.heap.IsTuple b its2.toArray from p2) (fun u' v' hu' hv' h' z1 z2 z3 z4 z5 kk => ?_) fun he => ⟨I.ok.hd hc, fun h' kk => ⟨rfl, ?_⟩⟩
   · exfalso
     have g1 : i < its1.length := by simpa using (Array.getElem?_eq_some_iff.mp hu').1
     have g2 : i < its2.length := by simpa using (Array.getElem?_eq_some_iff.mp hv').1
     omega
   · have hnc : ∀ c o, c ∉ [z, TI, TO, i1, i2] → s.heap.get? c = some o → h'.get? c = some o := fun c o hc e => kk c o (fun q => hc (by simp [q])) (fun q => hc (by simp [q])) (fun q => hc (by simp [q])) (fun q => hc (by simp [q])) e
     refine I.call' (s' := { s with heap := h' }) (ch := [z, TI, TO, i1, i2]) rfl ⟨fun b o e _ _ hc => hnc b o hc e, fun b o e _ _ hc => ⟨o.slots, hnc b o hc e⟩, fun b o e n _ => n, fun b o e hc => ⟨o, hnc b o hc e⟩, fun _ _ e => e, fun _ _ _ e => e, fun b ps e => ⟨#[], by rw [e]; simp⟩⟩ (fun b u e => ?_) I.bare ?_
     · have nc : ∀ b u, H b = some u → b ∉ [z, TI, TO, i1, i2] := fun b u e hb => by rw [(hf b hb).1] at e; cases e
       refine (I.hok b u e).stay (fun c v hc q => hnc c v ?_ q) (fun _ q => q) fun _ _ q => q
       rcases hc with q | q
       · rw [q]; exact nc b u e
       · exact nc c _ q
     · intro b hb
       obtain ⟨f0, f1, f2, f3, f4, f5⟩ := hf b hb
       exact ⟨f3, f1, f4, f5⟩
 self := fun _ _ _ _ _ st h => wpAny_pyIter_zip st.1 h
theorem b_zip : bootBuiltins "zip" = some (.type "zip") := by decide +kernel
def iZip (K : PySem.W.Frag) (ta : TA) : TI := fun σ H R => ta σ H fun vs H1 => ∃ a b xs ys, vs = [.ref a, .ref b] ∧ SqT K H1 a xs ∧ SqT K H1 b ys ∧ R (Itz K a b) H1
theorem pi_zip2 {X : Cx} {K : PySem.W.Frag} {es : List Expr} {n : Nat} {tpos : Pos} {a b : Expr} {ta : TA} {p pos : Pos} (hK : X.K = K) (hg : Gl X "zip") (hm : X.mg "zip" = none) (ha : PA X [a, b] ta) (hs : starEach [a, b] X.env = [(false, eval a X.env), (false, eval b X.env)] := by rfl) (hs2 : starEach [b] X.env = [(false, eval b X.env)] := by rfl) :
   PI X (.Tuple es n tpos) (.Call (.Name "zip" p) [a, b] [] pos) (iZip K ta) := by
 subst hK
 intro pins s σ H R I h
 refine Call_ (ld_blt I hg hm b_zip (PyProof.Rows.callWith_type1 (thn (ha pos pins s σ H _ I h) fun us s1 ⟨vs, H1, I1, r1, q1⟩ => ?_) (by rw [hs, hs2]) (by rw [hs2]; rfl)))
 obtain ⟨x, y, xs, ys, e, hx, hy, q⟩ := q1
 subst e
 cases r1 with
 | cons r rr =>
   cases rr with
   | cons r' rr =>
     cases rr
     cases r
     cases r'
     obtain ⟨its1, rv1, p1, _⟩ := I1.tuple hx
     obtain ⟨its2, rv2, p2, _⟩ := I1.tuple hy
     have lx : x < s1.heap.objs.size := p1.lt
     have ly : y < s1.heap.objs.size := p2.lt
     refine callZip (show s1.heap.IsTuple x its1.toArray from p1) (show s1.heap.IsTuple y its2.toArray from p2) fun h' m hm' z1 z2 z3 z4 z5 kk => ?_
     subst hm'
     refine wpAny_pyIter_zip z1 ⟨_, [s1.heap.objs.size + 4, s1.heap.objs.size + 2, s1.heap.objs.size + 3, s1.heap.objs.size, s1.heap.objs.size + 1], _, _, H1, rfl, I1.kept (t' := s1.toks) kk, turn_zip ⟨?_, ?_, ?_, ?_, ?_, ?_, ?_, ?_, ?_, ?_, ?_, ?_, ?_, ?_, ?_, ?_, ?_, ?_⟩, ⟨z1, z2, ⟨_, _, z3⟩, z4, z5⟩, fun c hc => ?last, q⟩
     case last =>
       have hc : c = s1.heap.objs.size + 4 ∨ c = s1.heap.objs.size + 2 ∨ c = s1.heap.objs.size + 3 ∨ c = s1.heap.objs.size ∨ c = s1.heap.objs.size + 1 := by simpa using hc
       have hge : s1.heap.objs.size ≤ c := by rcases hc with e | e | e | e | e <;> rw [e] <;> first | exact Nat.le_add_right _ _ | exact Nat.le_refl _
       exact I1.fpOk hge (I1.hok.fresh hge)
     all_goals (intro e; have e' : @Eq Nat _ _ := e; have lx' : @LT.lt Nat _ _ _ := lx; have ly' : @LT.lt Nat _ _ _ := ly; omega)
theorem r_zip {K : PySem.W.Frag} {ta : TA} {σ : St} {H : Hp} {R : It → Hp → Prop} (q : ta σ H fun vs H1 => ∃ a b xs ys, vs = [.ref a, .ref b] ∧ SqT K H1 a xs ∧ SqT K H1 b ys ∧ R (Itz K a b) H1) : iZip K ta σ H R := q
theorem comp_mapZ {K : PySem.W.Frag} {a b : Addr} {α : Type} {xs : List α} {e1 e2 : α → V} {g : TG} {tc : TT} {te : TE} {fin : List V → Hp → Prop} {σ0 : St} {H : Hp} (f : α → V) (Sg : St → Prop) (ha : SqT K H a (xs.map e1)) (hb : SqT K H b (xs.map e2)) (hz : xs.length ≤ sizeLine) (h0 : Sg σ0)
   (hs : ∀ (i : Nat) (x : α) (ys : List V) (σ : St) (H1 : Hp) (T : Addr), xs[i]? = some x → CInv xs f Sg H i ys σ H1 → Same H H1 → Sg σ → H1 T = none →
     g (.ref T) σ (upd H1 T (.tup [e1 x, e2 x])) fun σ3 H3 => tc σ3 H3 fun b H4 => if b = true then te σ3 H4 fun y H5 => CInv xs f Sg H (i + 1) (ys ++ [y]) σ3 H5 else CInv xs f Sg H (i + 1) ys σ3 H4)
   (hd : ∀ H1, Same H H1 → fin (xs.map f) H1) : CompW (Itz K a b) g tc te fin σ0 H := by
 refine ⟨fun i m ys σ H1 => m = xs.length - i ∧ i ≤ xs.length ∧ CInv xs f Sg H i ys σ H1, ⟨xs.length, by simp, Nat.zero_le _, Same.refl _, h0, rfl⟩, ?_⟩
 rintro i m ys σ H1 ⟨rfl, hi, c⟩
 obtain ⟨s, sg, rfl⟩ := id c
 by_cases hlt : i < xs.length
 · refine .inr ⟨⟨_, _, e1 xs[i], e2 xs[i], SqT_same s ha, SqT_same s hb, by simp [hlt], by simp [hlt]⟩, CInv xs f Sg H (i + 1), fun ys2 σ2 H2 p' => ⟨?_, xs.length - (i + 1), by omega, rfl, hlt, p'⟩, fun v H2 y => ?_⟩
   · obtain ⟨_, _, rfl⟩ := p'
     rw [List.length_map, List.length_take]; omega
   · obtain ⟨T, x, y', rfl, hT, rfl, hxy⟩ := y
     obtain ⟨q1, q2⟩ := hxy _ _ (SqT_same s ha) (SqT_same s hb)
     have e1' : e1 xs[i] = x := by simpa [hlt] using q1
     have e2' : e2 xs[i] = y' := by simpa [hlt] using q2
     rw [← e1', ← e2']
     exact hs i xs[i] _ σ H1 T (by simp [hlt]) c s sg hT
 · have e : i = xs.length := by omega
   subst e
   refine .inl ⟨⟨_, _, SqT_same s ha, SqT_same s hb, .inl (by simp)⟩, ?_, ?_⟩
   · rw [List.length_map, List.length_take]; omega
   · rw [List.take_length]; exact hd H1 s
end L3
namespace L3
open PySem PySem.Spec PyProof.Rows L2
def conE (w : World) (l : List (Str × Int × Tok × Tok)) : List DictEntry := l.map fun p => { hash := PyData.keyHash w.params p.1, key := .str p.1 p.2.2.1, val := .int p.2.1 p.2.2.2 }
def conV (kvs : List (Str × Int)) : List (Key × V) := kvs.map fun p => ((Sum.inr p.1 : Key), V.int p.2)
structure ConD (w : World) (K : PySem.W.Frag) (a : Addr) (kvs : List (Str × Int)) : Prop where
 sys : (a == sysModules) = false
 nd : ((conV kvs).map (·.1)).Nodup
 ex : ∃ (l : List (Str × Int × Tok × Tok)) (ep : Nat), l.map (fun p => (p.1, p.2.1)) = kvs ∧ K.lookup a = some { cls := .type "dict", dict := none, data := .dict (conE w l).toArray ep, slots := #[] }
theorem con_kv : ∀ l : List (Str × Int × Tok × Tok), KV (conV (l.map fun p => (p.1, p.2.1))) (l.map fun p => ((Sum.inr p.1 : Key), Value.int p.2.1 p.2.2.2))
 | [] => .nil
 | p :: l => .cons ⟨rfl, ⟨_, rfl⟩⟩ (con_kv l)
theorem con_pairs {P : Program} {w : World} : ∀ l : List (Str × Int × Tok × Tok), Pairs (mixKind P w) (conE w l) (l.map fun p => ((Sum.inr p.1 : Key), Value.int p.2.1 p.2.2.2))
 | [] => .nil
 | p :: l => .cons (kV_is (k := .inr p.1) ⟨_, rfl⟩) rfl (con_pairs l)
theorem ConD.dict {P : Program} {w : World} {K : PySem.W.Frag} {a : Addr} {kvs : List (Str × Int)} {h : Heap} (c : ConD w K a kvs) (x : K.In h) : ∃ vs, KV (conV kvs) vs ∧ h.DictOf (mixKind P w) a vs := by
 obtain ⟨l, ep, rfl, lk⟩ := c.ex
 refine ⟨_, con_kv l, _, (conE w l).toArray, ep, x _ _ lk, ⟨rfl, rfl, rfl⟩, rfl, fun e he => ?_, by rw [List.toList_toArray]; exact con_pairs l, ?_⟩
 · have he : e ∈ conE w l := by simpa using he
   obtain ⟨p, _, rfl⟩ := List.mem_map.mp he
   exact ⟨.inr p.1, kV_is (k := .inr p.1) ⟨_, rfl⟩, rfl⟩
 · rw [← (con_kv l).keys]; exact c.nd
def rInC (w : World) (K : PySem.W.Frag) (neg : Bool) : R2 := fun y x H Q => ∃ a kvs t, y = .str t ∧ x = .ref a ∧ ConD w K a kvs ∧ Q (.bl (if neg then !(valV (conV kvs) (.inr t)).isSome else (valV (conV kvs) (.inr t)).isSome)) H
theorem op_inC {X : Cx} {w : World} {K : PySem.W.Frag} (hw : X.w = w) (hK : X.K = K) : OpR X (compareOp .In) (rInC w K false) := by
 subst hw hK
 intro pins s σ H y x v u Q I ry rx h
 obtain ⟨a, kvs, t, rfl, rfl, c, q⟩ := h
 cases rx
 obtain ⟨vs, rel, dd⟩ := c.dict (P := X.prog) I.kIn
 refine wpAny_in_of (kV_is (k := .inr t) ry) c.sys dd.mapOf ?_
 rw [← (rel.val (.inr t)).isSome_eq]
 exact ⟨.bl _, H, I.tok _, rfl, q⟩
theorem op_notInC {X : Cx} {w : World} {K : PySem.W.Frag} (hw : X.w = w) (hK : X.K = K) : OpR X (compareOp .NotIn) (rInC w K true) := by
 subst hw hK
 intro pins s σ H y x v u Q I ry rx h
 obtain ⟨a, kvs, t, rfl, rfl, c, q⟩ := h
 cases rx
 obtain ⟨vs, rel, dd⟩ := c.dict (P := X.prog) I.kIn
 refine wpAny_notIn_of (kV_is (k := .inr t) ry) c.sys dd.mapOf ?_
 rw [← (rel.val (.inr t)).isSome_eq]
 exact ⟨.bl _, H, I.tok _, rfl, q⟩
def tCGet (w : World) (K : PySem.W.Frag) (td ty : TE) : TE := fun σ H Q => td σ H fun x H1 => ty σ H1 fun y H2 => ∃ a kvs t v, x = .ref a ∧ y = .str t ∧ ConD w K a kvs ∧ valV (conV kvs) (.inr t) = some v ∧ Q v H2
theorem pe_cget {X : Cx} {w : World} {K : PySem.W.Frag} {o i : Expr} {td ty : TE} {pos : Pos} (hw : X.w = w) (hK : X.K = K) (ho : PE X o td) (hi : PE X i ty) (hs : NoSl i) : PE X (.Subscript o i pos) (tCGet w K td ty) := by
 subst hw hK
 intro pins s σ H Q I h
 refine subD_of PySem.F.slot_dict_getitem.lookup hs (thn (ho pins s σ H _ I h) fun u s1 ⟨x, H1, I1, rx, q1⟩ => thn (hi pins s1 σ H1 _ I1 q1) fun iv s2 ⟨y, H2, I2, ry, a, kvs, t, v, ex, ey, c, e, q2⟩ => ?_)
 subst ex ey
 obtain rfl : u = Value.ref a := rx
 obtain ⟨vs, rel, dd⟩ := c.dict (P := X.prog) I2.kIn
 obtain ⟨w', hw, rw'⟩ := RelO.some_of (v := v) (o := valueAt vs (.inr t)) (by rw [← e]; exact rel.val (.inr t))
 exact ⟨dd.typeIs, wpAny_getItem_of (kV_is (k := .inr t) ry) dd.mapOf hw ⟨v, H2, I2.tok _, rw', q2⟩⟩
theorem r_inC {w : World} {K : PySem.W.Frag} {neg : Bool} {a : Addr} {kvs : List (Str × Int)} {t : Str} {H : Hp} {Q : VK} (c : ConD w K a kvs) (q : Q (.bl (if neg then !(valV (conV kvs) (.inr t)).isSome else (valV (conV kvs) (.inr t)).isSome)) H) : rInC w K neg (.str t) (.ref a) H Q := ⟨a, kvs, t, rfl, rfl, c, q⟩
theorem r_cGet {w : World} {K : PySem.W.Frag} {td ty : TE} {σ : L2.St} {H : Hp} {Q : VK} (q : td σ H fun x H1 => ty σ H1 fun y H2 => ∃ a kvs t v, x = .ref a ∧ y = .str t ∧ ConD w K a kvs ∧ valV (conV kvs) (.inr t) = some v ∧ Q v H2) : tCGet w K td ty σ H Q := q
theorem r_cgetV {w : World} {K : PySem.W.Frag} {a : Addr} {kvs : List (Str × Int)} {t : Str} {v : V} {R : V → Prop} (c : ConD w K a kvs) (e : valV (conV kvs) (.inr t) = some v) (q : R v) : ∃ a' kvs t' v, V.ref a = .ref a' ∧ V.str t = .str t' ∧ ConD w K a' kvs ∧ valV (conV kvs) (.inr t') = some v ∧ R v := ⟨a, kvs, t, v, rfl, rfl, c, e, q⟩
theorem sqtK {K : PySem.W.Frag} {a : Addr} {xs : List V} {its : Array Value} {n : Nat} {od : Option Addr} {sl : Array (Option Value)} (l : K.lookup a = some ⟨.type "tuple", od, .seq its n, sl⟩) (hz : its.size ≤ sizeLine) (v : Vals xs its.toList) : ∀ H, SqT K H a xs := fun H => .inr ⟨_, its, n, l, rfl, rfl, hz, v⟩
theorem r_pop {l : Addr} {xs : List V} {y : V} {H : Hp} {Q : VK} (h : H l = some (.lst (xs ++ [y]))) (q : Q y (upd H l (.lst xs))) : rPop (.ref l) [] H Q := by
 refine ⟨l, xs ++ [y], y, rfl, rfl, h, ?_, ?_⟩
 · simp
 · simpa using q
theorem r_extend {l b : Addr} {xs zs : List V} {H : Hp} {Q : VK} (h : H l = some (.lst xs)) (hb : H b = some (.lst zs)) (hz : xs.length + zs.length ≤ sizeLine) (q : Q .non (upd H l (.lst (xs ++ zs)))) : rExtend (.ref l) [.ref b] H Q := ⟨l, b, xs, zs, rfl, rfl, h, hb, hz, q⟩
end L3
namespace L3
open PySem PySem.Spec PyProof.Rows L2 PySem.SeqAt
theorem PS.nox {X : Cx} {st : Stmt} {t : TS} (h : PS X.nox st t) : PS X st t := fun pins s σ H D I hw =>
 wpAny_mono (h pins s σ H D (I.wish _) hw) (fun _ _ q => q.unwish) fun _ _ z => z.elim
theorem PA.nox {X : Cx} {es : List Expr} {t : TA} (h : PA X.nox es t) : PA X es t := fun pos pins s σ H Q I hw =>
 wpAny_mono (h pos pins s σ H Q (I.wish _) hw) (fun _ _ ⟨v, H', I', r, q⟩ => ⟨v, H', I'.unwish, r, q⟩) fun _ _ z => z.elim
theorem hok_stays {P : Program} {w : World} {H : Hp} {h0 h5 : Heap} {l : List Addr} (x : HOk P w H h0) (hl : ∀ b ∈ l, H b = none) (k : (PySem.W.hideAll h0 l).StaysIn h5) : HOk P w H h5 := fun a o e => by
 refine (x a o e).stay (fun b u hb q => k b u (PySem.W.hideAll_get _ q fun hm => ?_)) (fun _ q => q) fun _ _ q => q
 have hn := hl b hm
 rcases hb with rfl | hb
 · rw [e] at hn; cases hn
 · rw [hb] at hn; cases hn
theorem un_stays {fs : List Addr} {H H' : Hp} {h h0 h5 : Heap} {l : List Addr} (u : Un fs [] H H' h h0) (hl : ∀ b ∈ l, b ∈ fs ∨ h.objs.size ≤ b) (k : (PySem.W.hideAll h0 l).StaysIn h5) (up : h0.UpToSlots h5)
   (hf : ∀ b ∈ fs, H b = none ∧ ∀ o, h.get? b = some o → ∀ vs, o.data ≠ .fields vs) : Un fs [] H H' h h5 := by
 have nl : ∀ b o, h.get? b = some o → b ∉ fs → b ∉ l := fun b o q hb hm => by
   rcases hl b hm with z | z
   · exact hb z
   · exact absurd (Nat.lt_of_lt_of_le (Heap.lt_size q) z) (Nat.lt_irrefl _)
 have sl : ∀ b o, h.get? b = some o → b ∈ fs → ∃ sl, h5.get? b = some { o with slots := sl } := fun b o q hb => by
   obtain ⟨s1, e1⟩ := u.slot b o q (hf b hb).1 hb (by simp)
   obtain ⟨s2, e2⟩ := up b _ e1 ((hf b hb).2 o q)
   exact ⟨s2, e2⟩
 refine ⟨fun b o q n hb hx => k b o (PySem.W.hideAll_get _ (u.keep b o q n hb hx) (nl b o q hb)), fun b o q _ hb _ => sl b o q hb, u.free, fun b o q hx => ?_, u.tups, u.frzs, u.tbls⟩
 by_cases hb : b ∈ fs
 · obtain ⟨s2, e2⟩ := sl b o q hb
   exact ⟨_, e2⟩
 · obtain ⟨o', e'⟩ := u.there b o q hx
   exact ⟨o', k b o' (PySem.W.hideAll_get _ e' (nl b o q hb))⟩
structure Thrown (P : Program) (w : World) (outer : List Env) (H : Hp) (s : Shared) (ea C : Addr) (H' : Hp) (s' : Shared) : Prop where
 os : s'.os = s.os
 bare : AllBare s'.gens
 ex : ∃ (h0 : Heap) (l : List Addr) (a0 : Value), Un (frs outer) [] H H' s.heap h0 ∧ HOk P w H' h0 ∧ (∀ b ∈ l, H' b = none ∧ (b ∈ frs outer ∨ s.heap.objs.size ≤ b)) ∧ h0.get? ea = none ∧
   Heap.FlyingW (PySem.W.hideAll h0 l) outer ea (.ref C) a0 s'.heap ∧ h0.UpToSlots s'.heap
def CXR (P : Program) (w : World) : CXT := fun outer H s E e s' => ∃ (ea C : Addr) (H' : Hp), e = .ref ea ∧ Thrown P w outer H s ea C H' s' ∧ E (.ref C) none H'
structure ExcC (K : PySem.W.Frag) (mg : Str → Option Value) (x : Str) (C : Addr) : Prop where
 glob : mg x = some (.ref C)
 ex : PySem.W.excIn K C [.type "ValueError", .type "Exception", .type "BaseException", .type "object"] "ValueError.__new__" = true
theorem ExcC.obj {K : PySem.W.Frag} {mg : Str → Option Value} {x : Str} {C : Addr} {h : Heap} (c : ExcC K mg x C) (X : K.In h) :
   ∃ (bm : List Value) (N : Addr) (nm qn : Str) (bs : List Value) (hd : Bool) (sn : List Str) (sub : List Value) (ab : Bool) (col : Option Bool) (dd : Option Addr) (k0 k1 k2 k3 k5 : Option Value) (mN : Str → Option Value),
     h.get? C = some (excClassObj nm qn C N bs bm hd sn sub ab col dd k0 k1 k2 k3 k5 "ValueError.__new__") ∧ h.Ns N mN ∧ mN "__init__" = none ∧
     OwnTail h [.type "ValueError", .type "Exception", .type "BaseException", .type "object"] bm := by
 have hq := c.ex
 unfold PySem.W.excIn at hq
 split at hq
 · rename_i dd cd sl hlk
   split at hq
   · rename_i C' bm k0 k1 k2 k3 id k5 hmro hsl
     simp only [Bool.and_eq_true, Bool.not_eq_true', beq_iff_eq] at hq
     obtain ⟨⟨⟨⟨⟨e1, e2⟩, e3⟩, e4⟩, e5⟩, e6⟩ := hq
     subst e1 e2
     obtain ⟨nm, bs, mro, ns, qn, hd, sn, sub, ab, col, del⟩ := cd
     dsimp only at hmro e3 e5 e6
     subst hmro e3
     obtain ⟨sl⟩ := sl
     dsimp only at hsl
     subst hsl
     exact ⟨bm, ns, nm, qn, bs, hd, sn, sub, ab, col, dd, k0, k1, k2, k3, k5, _, X _ _ hlk, .of_isNs (PySem.W.isNs_of_in X e5), PySem.W.nsMap_none_of_in X e5 e6, PySem.W.tail_of_in X e4⟩
   · cases hq
 · cases hq
end L3
namespace L3
open PySem PySem.Spec PyProof.Rows L2 PySem.SeqAt
def tRaise (C : Addr) (E : XK) (t : TA) : TS := fun _ σ H => t σ H fun vs H1 => vs.length ≤ 1000 ∧ E (.ref C) none H1
theorem frs_body {X : Cx} (hst : X.stack = X.env :: X.outer) (hfr : X.env.frame = some X.env.locals) : frs X.stack = X.env.locals :: frs X.outer := by
 rw [hst]; unfold frs; rw [List.filterMap_cons, hfr]
theorem raise_leaves {X : Cx} {pins : List (Addr × Obj)} {σ : St} {H : Hp} {s : Shared} {h' : Heap} {e C : Addr} {args : List Value} {Q : Unit → Shared → Prop} {Ex : Value → Shared → Prop} (I : Inv X pins σ H s)
   (hst : X.stack = X.env :: X.outer) (hfr : X.env.frame = some X.env.locals) (hex : X.ex = []) (hx : Heap.MadeExcOf s.heap h' e (.ref C) args)
   (hQ : ∀ s', Thrown X.prog X.w X.outer X.H₀ X.s₀ e C H s' → Q () s') : wpAny (model X.prog X.w) X.A (leaving X.env (.ref e)) Q Ex { s with heap := h' } := by
 have hfs := frs_body hst hfr
 have hin : ∀ env ∈ X.stack, ∀ a, env.frame = some a → a ∈ frs X.stack := fun env he b hb => List.mem_filterMap.mpr ⟨env, he, hb⟩
 have hl : s.heap.FunFrames (PySem.W.hideAll s.heap (frs X.stack)) (X.env :: X.outer) := by
   have z := PySem.W.funFrames_hide I.stack hin
   rw [hst] at z ⊢; exact z
 refine wpAny_leaves_madeW (s := { s with heap := h' }) (by rw [← hst]; exact I.ok.frames) hfr (fun b o q => PySem.W.of_hideAll _ q) hl hx fun h2 t x1 _ _ x4 => hQ _ ⟨I.os, I.bare, ?_⟩
 have hb := I.base
 rw [hex] at hb
 refine ⟨s.heap, frs X.stack, .ref t, hb, I.hok, fun b hm => ⟨I.stkFree b hm, ?_⟩, hx.new, x1, (Heap.UpToSlots.of_keeps hx.keeps).trans x4⟩
 rw [hfs] at hm
 rcases List.mem_cons.mp hm with rfl | hm
 · exact .inr I.ok.above
 · exact .inl hm
theorem ps_raise {P : Program} {w : World} {K : PySem.W.Frag} {mg : Str → Option Value} {base : Heap} {N : List Str} {qual : Str} {scope : Scope} {f : Addr} {cd : Value} {A : Around} {outer : List Env} {s0 : Shared} {H0 : Hp} {E : XK}
   {C : Addr} {x : Str} {np cpos pos : Pos} {e0 : Expr} {es : List Expr} {t : TA} (c : ExcC K mg x C) (hg : Gl (cxOf (CXR P w) P w K mg base N qual scope f cd A outer s0 H0 E) x)
   (ha : PA (cxOf (CXR P w) P w K mg base N qual scope f cd A outer s0 H0 E).nox (e0 :: es) t) (hdb : (x == ("__debug__" : Str)) = false := by decide)
   (he : starEach (e0 :: es) (cxOf (CXR P w) P w K mg base N qual scope f cd A outer s0 H0 E).env = (false, eval e0 (cxOf (CXR P w) P w K mg base N qual scope f cd A outer s0 H0 E).env) :: starEach es (cxOf (CXR P w) P w K mg base N qual scope f cd A outer s0 H0 E).env := by rfl)
   (hpl : (backTo cpos (starEach es (cxOf (CXR P w) P w K mg base N qual scope f cd A outer s0 H0 E).env)).any (·.1) = false := by rfl) :
   PS (cxOf (CXR P w) P w K mg base N qual scope f cd A outer s0 H0 E) (.Raise (some (.Call (.Name x np) (e0 :: es) [] cpos)) none pos) (tRaise C E t) := by
 intro pins s σ H D I h
 obtain ⟨bm, N', nm, qn, bs, hd, sn, sub, ab, col, dd, k0, k1, k2, k3, k5, mN, hC, hN, hni, TL⟩ := c.obj I.ok.mod.kin
 refine wpAny_Raise_call_subU (C := C) (mN := mN) (N := N') (nm := nm) (q := qn) (bs := bs) (bm := bm) (hdct := hd) (sn := sn) (sub := sub) (ab := ab) (col := col) (dd := dd) (k0 := k0) (k1 := k1) (k2 := k2) (k3 := k3) (k5 := k5)
   PySem.F.excBase_ValueError (by decide +kernel) PySem.F.excBase_ValueError (TL.hasType (by decide +kernel)) (I.ok.hd rfl) (by rw [he]; show (false || (backTo cpos (starEach es _)).any (·.1)) = false; rw [hpl]; rfl) hni ?_
 refine ld_glob I hg c.glob ⟨rfl, ?_⟩ hdb
 have hargs := (L3.PA.nox ha) cpos pins s σ H _ I h
 rw [he] at hargs ⊢
 refine Calls.evalArgs_plain (thn hargs fun us s1 ⟨vs, H1, I1, r, hlen, q⟩ => ?_)
 refine ⟨rfl, ?_, I1.bk _ _ hC, hN.keeps I1.bk, TL.keeps I1.bk, fun h' e hm => ?_⟩
 · show us.length ≤ sizeLine
   rw [← r.length]
   exact Nat.le_trans hlen (by decide +kernel)
 · exact raise_leaves (X := cxOf (CXR P w) P w K mg base N qual scope f cd A outer s0 H0 E) I1 rfl rfl rfl hm fun s' th => ⟨e, C, H1, rfl, th, q⟩
theorem pass_on {P : Program} {w : World} {K : PySem.W.Frag} {mg : Str → Option Value} {base : Heap} {N : List Str} {qual : Str} {scope : Scope} {f : Addr} {cd : Value} {A : Around} {outer : List Env} {s0 : Shared} {H0 : Hp} {E : XK} :
   Passes (CXR P w) (cxOf (CXR P w) P w K mg base N qual scope f cd A outer s0 H0 E) E := by
 intro pins σ H s e s' I h
 obtain ⟨ea, C, H', rfl, ⟨os, bare, h0, l, a0, u, hok, hl, hn, fl, up⟩, q⟩ := h
 show wpAny _ _ (leaving _ (.ref ea)) _ _ s'
 refine wpAny_leaves_onW (outer := outer) I.ok.frames rfl fl fun h2 fl2 up2 => ⟨ea, C, H', rfl, ⟨os.trans I.os, bare, h0, l, a0, ?_, hok, fun b hb => ⟨(hl b hb).1, ?_⟩, hn, fl2, up.trans up2⟩, q⟩
 · have J := I.call (h' := h0) (g' := s'.gens) (d' := s'.drawn) (t' := s'.toks) (ch := []) u hok bare (fun b z => absurd z (by simp))
   exact J.base
 · rcases (hl b hb).2 with z | z
   · have z' : b ∈ frs (envOfC qual scope s0.heap.objs.size f cd :: outer) := z
     have e1 : frs (envOfC qual scope s0.heap.objs.size f cd :: outer) = s0.heap.objs.size :: frs outer := by unfold frs; rw [List.filterMap_cons]; rfl
     rw [e1] at z'
     rcases List.mem_cons.mp z' with rfl | z'
     · exact .inr (Nat.le_refl _)
     · exact .inl z'
   · exact .inr (Nat.le_trans I.sz z)
end L3
namespace L3
open PySem PySem.Spec PyProof.Rows L2 PySem.SeqAt
section
variable {P : Program} {w : World} {K : PySem.W.Frag} {mg : Str → Option Value} {base : Heap} {x qual : Str} {st : Stmt} {N ps : List Str} {sp : Sp} {C : Addr} {k : Nat}
def BodyX (P : Program) (w : World) (K : PySem.W.Frag) (mg : Str → Option Value) (base : Heap) (k : Nat) (qual : Str) (st : Stmt) (N : List Str) (sp : Sp) : Prop :=
 ∀ (f : Addr) (cdv : Value) (A : Around) (outer : List Env) (s : Shared) (H : Hp) (vs : List V) (Q : VK) (E : XK), Room k (A.deeper (envOfC qual (defScope st) s.heap.objs.size f cdv)) → sp vs H Q E →
   ∃ t, PSs (cxOf (CXR P w) P w K mg base N qual (defScope st) f cdv A outer s H E) (defBody st) t ∧ t { nx := fun _ H' => Q .non H', rt := Q } (start N vs) H
theorem Fun.okX {f : Addr} {fd : FuncData} (F : Fun K x qual st f fd) (S : FnScope N ps (defScope st)) (len : ∀ vs H Q E, sp vs H Q E → vs.length = ps.length) (hbody : BodyX P w K mg base k qual st N sp) : FnOk P w K mg base (CXR P w) (k + 1) f fd ps sp := by
 obtain ⟨oc, od, kV, doc, pm, an, cdv, ct, osl, rfl, lk, hcd⟩ := F.ex
 exact fn_of lk hcd S len fun A outer s H vs Q E hr hsp => hbody f cdv A outer s H vs Q E hr hsp
theorem fnX_of (k : Nat) (h : ∃ f fd, Fun K x qual st f fd ∧ mg x = some (.ref f) ∧ Binds K fd ps []) (S : FnScope N ps (defScope st)) (len : ∀ vs H Q E, sp vs H Q E → vs.length = ps.length)
   (hbody : BodyX P w K mg base k qual st N sp) : FnE P w K mg base (CXR P w) (k + 1) x sp := by
 obtain ⟨f, fd, F, hm, hb⟩ := h
 exact ⟨f, fd, ps, Fun.okX F S len hbody, hm, F.kp, hb⟩
theorem methX_of (k : Nat) (c : Cls K C) (h : ∃ f fd, Fun K x qual st f fd ∧ Meth K C x f ∧ Binds K fd ps []) (S : FnScope N ps (defScope st)) (len : ∀ vs H Q E, sp vs H Q E → vs.length = ps.length)
   (hbody : BodyX P w K mg base k qual st N sp) : MethE P w K mg base (CXR P w) (k + 1) C x sp := by
 obtain ⟨f, fd, F, hm, hb⟩ := h
 exact ⟨c, f, fd, ps, hm, Fun.okX F S len hbody, hb⟩
end
section
variable {X : Cx} {pins : List (Addr × Obj)} {σ : St} {H : Hp} {s : Shared}
theorem goes_ok {M : Model} {A : Around} {E : Value → Shared → Prop} {i : Nat} {n : Str} {pos : Pos} {Q : Unit → Shared → Prop} (I : Inv X pins σ H s) (hN : X.N.Nodup) (hi : X.N[i]? = some n) (hk : X.env.scope.names.lookup n = some .local)
   (h : ∀ s', Inv X pins (σ.set i none) H s' → Q () s') : wpAny M A (do bindName X.env n .none; unbindBehindTheSuite X.env n pos) Q E s := by
 obtain ⟨m, hn, hl⟩ := id I.loc
 have hiσ : i < σ.length := by rw [I.len]; exact (List.getElem?_eq_some_iff.mp hi).1
 have cne := I.cne
 obtain ⟨oL, _, _, hoL, _⟩ := id hn
 refine wpAny_nameGoes_keeps hk hn (by rw [I.ok.kind]; rfl) fun h' v hn' hs => h _ ?_
 have lo : ∀ b o, X.s₀.heap.get? b = some o → h'.get? b = s.heap.get? b := fun b o e => hs.2 b (Nat.ne_of_lt (Nat.lt_of_lt_of_le (Heap.lt_size e) I.ok.above))
 refine ⟨I.ok, I.os, I.bare, ⟨fun b o e n hb hx => ?_, fun b o e n hb hx => ?_, I.base.free, fun b o e hx => ?_, I.base.tups, I.base.frzs, I.base.tbls⟩, ⟨_, hn', fun j y v' e1 e2 e3 => ?_⟩, fun y c e => ?_, I.free, I.freeC, fun p hp => ?_, fun b ob e => ?_, by simpa using I.len⟩
 · rw [lo b o e]; exact I.base.keep b o e n hb hx
 · rw [lo b o e]; exact I.base.slot b o e n hb hx
 · rw [lo b o e]; exact I.base.there b o e hx
 · by_cases hj : j = i
   · subst hj
     rw [List.getElem?_set_self hiσ] at e2
     cases e2
   · rw [List.getElem?_set_ne (Ne.symm hj)] at e2
     obtain ⟨u', r', q⟩ := hl j y v' e1 e2 e3
     refine ⟨u', r', ?_⟩
     rcases q with ⟨k, e⟩ | ⟨k, c, e, z⟩
     · have ne : y ≠ n := fun e => hj (nodup_ix hN e1 (e ▸ hi))
       exact .inl ⟨k, by simp [ne, e]⟩
     · exact .inr ⟨k, c, e, z.sameBut hs (cne y c e)⟩
 · obtain ⟨w', z⟩ := I.cell y c e
   exact ⟨w', z.sameBut hs (cne y c e)⟩
 · obtain ⟨e, n, ne, nf, d⟩ := I.pin p hp
   exact ⟨(hs.2 p.1 ne).trans e, n, ne, nf, d⟩
 · refine (I.hok b ob e).stay (fun c w' hc q => (hs.2 c ?_).trans q) (fun _ q => q) fun _ _ q => q
   rintro rfl
   have hf := I.free
   rcases hc with hc | hc
   · rw [hc, e] at hf; cases hf
   · rw [hc] at hf; cases hf
abbrev Cx.sup (X : Cx) (e : Addr) (pl : List (Addr × Obj)) : Cx := { X with A := X.A.mark (some (.ref e)), calm := false, xe := fun _ _ => False, pn := X.pn ++ pl }
theorem Cx.Ok.sup {e : Addr} {pl : List (Addr × Obj)} (ok : X.Ok) : (Cx.sup X e pl).Ok :=
 ⟨ok.mod, ok.kind, ok.glob, ok.blt, ok.above, ok.inj, ok.has, ok.cab, (fun z => by cases z), ok.frames, ok.stk, ok.exf, ok.bs, ok.bsz, ok.noex, ok.exfs, ok.funs, ok.frf⟩
theorem Cx.Ok.unsup {e : Addr} {pl : List (Addr × Obj)} (ok : (Cx.sup X e pl).Ok) (h : X.calm = true → X.A.handled = none) : X.Ok :=
 ⟨ok.mod, ok.kind, ok.glob, ok.blt, ok.above, ok.inj, ok.has, ok.cab, h, ok.frames, ok.stk, ok.exf, ok.bs, ok.bsz, ok.noex, ok.exfs, ok.funs, ok.frf⟩
theorem Inv.sup {e : Addr} {pl : List (Addr × Obj)} (I : Inv X pins σ H s) (h : ∀ p ∈ pl, s.heap.get? p.1 = some p.2 ∧ H p.1 = none ∧ p.1 ≠ X.env.locals ∧ p.1 ∉ X.fs ∧ ∀ v, p.2.data ≠ .cell v) : Inv (Cx.sup X e pl) pins σ H s :=
 ⟨Cx.Ok.sup I.ok, I.os, I.bare, I.base, I.loc, I.cell, I.free, I.freeC, fun p hp => by
   rcases List.mem_append.mp hp with hp | hp
   · rcases List.mem_append.mp hp with hp | hp
     · exact I.pin p (List.mem_append_left _ hp)
     · exact h p hp
   · exact I.pin p (List.mem_append_right _ hp), I.hok, I.len⟩
theorem Inv.unsup {e : Addr} {pl : List (Addr × Obj)} (I : Inv (Cx.sup X e pl) pins σ H s) (h : X.calm = true → X.A.handled = none) : Inv X pins σ H s :=
 ⟨Cx.Ok.unsup I.ok h, I.os, I.bare, I.base, I.loc, I.cell, I.free, I.freeC, fun p hp => by
   rcases List.mem_append.mp hp with hp | hp
   · exact I.pin p (List.mem_append_left _ (List.mem_append_left _ hp))
   · exact I.pin p (List.mem_append_right _ hp), I.hok, I.len⟩
end
end L3
namespace L3
open PySem PySem.Spec PyProof.Rows L2 PySem.SeqAt
def Threw (X : Cx) (pins : List (Addr × Obj)) (σ : St) (Ew : XK) (ex : Value) (s' : Shared) : Prop :=
 ∃ (ea C : Addr) (H1 : Hp) (s1 : Shared) (H' : Hp), ex = .ref ea ∧ Inv X pins σ H1 s1 ∧ Thrown X.prog X.w X.stack H1 s1 ea C H' s' ∧ Ew (.ref C) none H'
abbrev TB := Ends → XK → St → Hp → Prop
def PB (X : Cx) (body : List Stmt) (tb : TB) : Prop :=
 ∀ (pins : List (Addr × Obj)) (s : Shared) (σ : St) (H : Hp) (D : Ends) (Ew : XK), Inv X pins σ H s → tb D Ew σ H → wpAny (model X.prog X.w) X.A (execs body X.env) (SP X pins D) (Threw X pins σ Ew) s
section
variable {X : Cx} {pins : List (Addr × Obj)} {σ : St} {H : Hp} {s : Shared} {k : Nat} {g x n : Str} {sp : Sp} {e : Expr} {es : List Expr} {t : TA} {gp cpos pos py : Pos}
theorem call_throws {Q : VK} {Ew : XK} (G : FnE X.prog X.w X.K X.mg X.base (CXR X.prog X.w) k g sp) (hr : Room k X.A) (hg : Gl X g) (ha : PA X.nox (e :: es) t) (I : Inv X pins σ H s) (h : t σ H fun vs H1 => sp vs H1 Q Ew)
   (hdb : (g == ("__debug__" : Str)) = false) (he : starEach (e :: es) X.env = (false, eval e X.env) :: starEach es X.env) (hpl : (backTo cpos (starEach es X.env)).any (·.1) = false) :
   wpAny (model X.prog X.w) X.A (eval (.Call (.Name g gp) (e :: es) [] cpos) X.env) (EP X pins σ Q) (Threw X pins σ Ew) s := by
 obtain ⟨f, fd, ps, F, hm, hk, hb⟩ := G.ex
 refine wpAny_Call_Name_kw (ld_glob I hg hm ?_ hdb)
 refine PySem.W.callWith_K (h₀ := X.base) I.ok.mod.kin hk (wpAny_mono (ha cpos pins s σ H _ (I.wish _) h) (fun us s1 ⟨vs, H1, I1, r, q⟩ => ⟨I1.kIn, ?_⟩) fun _ _ z => z.elim) he hpl
 have J : Inv X pins σ H1 s1 := I1.unwish
 have hl : us.length = ps.length := by rw [← r.length]; exact F.len _ _ _ _ q
 have hbd := hb s1 us J.kIn (by rw [List.append_nil]; exact hl)
 rw [List.append_nil] at hbd
 refine wpAny_call (codeAny_mono (F.run X.A X.stack s1 H1 ⟨us, []⟩ us vs Q Ew hr J.env0 hbd r q) fun r2 s' hq => ?_)
 cases r2 with
 | error ex =>
   obtain ⟨ea, C, H', rfl, th, q2⟩ := (show CXR X.prog X.w X.stack H1 s1 Ew ex s' from hq)
   exact ⟨ea, C, H1, s1, H', rfl, J, th, q2⟩
 | ok fl =>
   cases fl with
   | ret u => exact J.after hq
   | next => exact False.elim hq
   | brk => exact False.elim hq
   | cont => exact False.elim hq
end
end L3
namespace L3
open PySem PySem.Spec PyProof.Rows L2 PySem.SeqAt
section
variable {X : Cx} {pins : List (Addr × Obj)} {σ : St} {H H1 H' : Hp} {s s1 s' : Shared} {ea C : Addr}
theorem landed_at {h0 h5 : Heap} {l : List Addr} (I : Inv X pins σ H1 s1) (os : s'.os = s1.os) (bare : AllBare s'.gens) (u : Un (frs X.stack) [] H1 H' s1.heap h0) (hok : HOk X.prog X.w H' h0)
   (hl : ∀ b ∈ l, H' b = none ∧ (b ∈ frs X.stack ∨ s1.heap.objs.size ≤ b)) (k : (PySem.W.hideAll h0 l).StaysIn h5) (up : h0.UpToSlots h5) : Inv X pins σ H' { s' with heap := h5 } :=
 I.call' (s' := { s' with heap := h5 }) os (un_stays u (fun b hb => (hl b hb).2) k up fun b hb => ⟨I.stkFree b hb, fun o q => by
   obtain ⟨_, o', q', d⟩ := I.stack.mem hb
   rw [q] at q'; cases q'; exact d⟩) (hok_stays hok (fun b hb => (hl b hb).1) k) bare (fun b z => absurd z (by simp))
theorem apart_at (I : Inv X pins σ H' s') (hn : s'.heap.get? ea = none) : H' ea = none ∧ ea ≠ X.env.locals ∧ ea ∉ X.fs := by
 refine ⟨?_, fun z => ?_, fun z => ?_⟩
 · cases q : H' ea with
   | none => rfl
   | some o =>
     obtain ⟨o', e'⟩ : ∃ o', s'.heap.get? ea = some o' := by
       have z := I.hok ea o q
       clear q
       induction o with
       | lst xs => obtain ⟨_, _, _, _, e⟩ := z; exact ⟨_, e⟩
       | tup xs => obtain ⟨_, _, _, ob, e, _⟩ := z; exact ⟨_, e⟩
       | dK kvs => obtain ⟨_, _, _, _, ob, _, _, e, _⟩ := z; exact ⟨_, e⟩
       | dT kvs => obtain ⟨_, _, _, _, ob, _, _, e, _⟩ := z; exact ⟨_, e⟩
       | set S n => obtain ⟨ob, _, _, _, e, _⟩ := z; exact ⟨_, e⟩
       | ins C dx fs => obtain ⟨_, _, _, e, _⟩ := z; exact ⟨_, e⟩
       | own y => obtain ⟨_, e⟩ := z; exact ⟨_, e⟩
       | xd fs => obtain ⟨_, ⟨od, _, _, e, _⟩, _⟩ := z; exact ⟨_, e⟩
       | rng lo hi => obtain ⟨_, _, _, e⟩ := z; exact ⟨_, e⟩
       | frz ob u => obtain ⟨e, _⟩ := z; exact ⟨_, e⟩
       | tbl ps => exact ⟨_, z⟩
       | met f y => exact ⟨_, z⟩
       | ext φ => obtain ⟨_, ⟨_, e⟩, _⟩ := z; exact ⟨_, e⟩
     rw [hn] at e'; cases e'
 · obtain ⟨m, ⟨o, _, _, e, _⟩, _⟩ := I.loc
   rw [← z, hn] at e; cases e
 · obtain ⟨_, o, e, _⟩ := I.funs.mem z
   rw [hn] at e; cases e
end
end L3
namespace L3
open PySem PySem.Spec PyProof.Rows L2 PySem.SeqAt PySem.W Builtin Builtin.ObjectAttr Builtin.Getset_descriptor
structure ExcK (K : PySem.W.Frag) (C : Addr) : Prop where
 cl : (PySem.W.clsIn K C).isSome = true
 ga : PySem.W.findIn K (.ref C) "__getattribute__" = some (some (.builtin "BaseException.__getattribute__"))
 gt : PySem.W.findIn K (.ref C) "__getattr__" = some none
 co : PySem.W.findIn K (.ref C) "__class__" = some (some (.builtin "object.__class__"))
 gs : PySem.W.specialIn K (.builtin "object.__class__") "__get__" = some (some (.builtin "getset_descriptor.__get__"))
 tk : PySem.W.takesIn K (.builtin "object.__class__") = some true
 mo : PySem.W.mroIn K C (.type "object") = some true
 mb : PySem.W.mroIn K C (.type "BaseException") = some true
section
variable {prog : Program} {w : World} {A : Around} {E : Value → Shared → Prop} {s : Shared} {K : PySem.W.Frag} {x C : Addr} {ox : Obj}
theorem exc_type {M : Model} {h : Heap} (hx : h.get? x = some ox) (hc : ox.cls = .ref C) : Looks M h (typeOf (.ref x)) (.ref C) := by
 rw [← hc]; exact (Looks.ld hx).andThen .now
theorem exc_get {R : Result → Shared → Prop} {tp : Value} (X : K.In s.heap) (hx : s.heap.get? x = some ox) (hc : ox.cls = .ref C) (F : ExcK K C) (h : R (.ok (.ret (.ref C))) s) :
   codeAny (model prog w) A (.call (.builtin "getset_descriptor.__get__") ⟨[.builtin "object.__class__", .ref x, tp], []⟩) R s := by
 obtain ⟨hh, g, dr, t, os⟩ := s
 have LT := exc_type (M := model prog w) hx hc
 have LM := looks_mroIn (M := model prog w) X F.mo
 have hty : Shared.TypeIs ⟨hh, g, dr, t, os⟩ (.builtin "object.__class__") "getset_descriptor" := KF.type_class
 refine codeAny_call_builtin KF.slot_gs.plain KF.entry_gs ?_
 refine KF.slot_gs.check _ _ _ _ _ _ _ _ hty (KF.args_gs _ _ _) ?_
 unfold Builtin.«getset_descriptor.__get__» descrGet
 rw [dga_obj]
 refine wpAny_bind (wpAny_pure ?_)
 unfold descrGetter descrCheckInstance descrNameAndClass PySem.isInstance
 simp only [KF.owner_class]
 repeat lk
 refine ⟨Code.quiet_builtin _ (by decide +kernel), codeAny_builtin KF.entry_class ?_⟩
 unfold Builtin.«object.__class__» PySem.shownTypeOf
 repeat lk
 exact h
theorem exc_find {M : Model} {h : Heap} (X : K.In h) (F : ExcK K C) : Looks M h (find (.ref x) (.ref C) "__class__") (.bind (.builtin "getset_descriptor.__get__") (.builtin "object.__class__")) := by
 refine (looks_findIn (M := M) X F.co).andThen ?_
 refine (show Looks M h (getOf (some (.builtin "object.__class__"))) (some (.builtin "getset_descriptor.__get__")) from looks_specialIn X F.gs).andThen ?_
 have L3 := looks_takesIn (M := M) X F.tk
 exact (show Looks M h (dataDescriptor? (some (.builtin "object.__class__")) (some (.builtin "getset_descriptor.__get__"))) (some (.builtin "getset_descriptor.__get__", .builtin "object.__class__")) from L3.andThen .now).andThen (Looks.tag .now)
end
end L3
namespace L3
open PySem PySem.Spec PyProof.Rows L2 PySem.SeqAt PySem.W Builtin Builtin.ObjectAttr Builtin.Getset_descriptor
section
variable {prog : Program} {w : World} {A : Around} {E : Value → Shared → Prop} {s : Shared} {K : PySem.W.Frag} {x C : Addr} {ox : Obj}
theorem exc_entry {Q : Fin → Shared → Prop} {tk : Tok} (X : K.In s.heap) (hx : s.heap.get? x = some ox) (hc : ox.cls = .ref C) (F : ExcK K C) (h : Q (.done (.ret (.ref C))) s) :
   wpAny (model prog w) A (Builtin.«object.__getattribute__» ⟨[.ref x, .str "__class__" tk], []⟩) Q E s := by
 obtain ⟨hh, g, dr, t, os⟩ := s
 have LT := exc_type (M := model prog w) hx hc
 have LF := exc_find (M := model prog w) (x := x) X F
 unfold Builtin.«object.__getattribute__»
 repeat (first | with_reducible refine wpAny_call ?_ | lk)
 refine exc_get X hx hc F ?_
 repeat lk
 exact h
theorem exc_check {M : Model} {nameV : Value} {Q : Unit → Shared → Prop} (X : K.In s.heap) (hx : s.heap.get? x = some ox) (hc : ox.cls = .ref C) (F : ExcK K C) (h : Q () s) :
   wpAny M A (checkBuiltinCall "BaseException.__getattribute__" ⟨[.ref x, nameV], []⟩) Q E s := by
 obtain ⟨hh, g, dr, t, os⟩ := s
 have LT := exc_type (M := M) hx hc
 have LM := looks_mroIn (M := M) X F.mb
 have k1 : builtinKind "BaseException.__getattribute__" = some .slot := by decide +kernel
 have k2 : splitId "BaseException.__getattribute__" = some ("BaseException", "__getattribute__") := by decide +kernel
 have k3 := PySem.F.args_bexc_ga (.ref x) nameV
 simp only [checkBuiltinCall, k1, k2]
 refine wpAny_bind ?_
 unfold PySem.isInstance
 repeat lk
 exact h
theorem exc_class {Q : Option Value → Shared → Prop} (X : K.In s.heap) (hx : s.heap.get? x = some ox) (hc : ox.cls = .ref C) (F : ExcK K C) (h : Q (some (.ref C)) { s with toks := s.toks + 1 }) :
   wpAny (model prog w) A (getAttr? (.ref x) "__class__") Q E s := by
 obtain ⟨hh, g, dr, t, os⟩ := s
 have LT := exc_type (M := model prog w) hx hc
 have LG := looks_findIn (M := model prog w) X F.ga
 have LH := looks_findIn (M := model prog w) X F.gt
 unfold getAttr? getAttrBy? getAttrBy
 refine wpAny_bind (wpAny_mkText (wpAny_bind (wpAny_attempt (wpAny_holding (wpAny_bind (LT.at ?_))))))
 refine wpAny_bind (LG.at ?_)
 have n1 : (onTheHeap (.ref C) && Value.builtin "BaseException.__getattribute__" == Value.builtin "object.__getattribute__") = false := by
   show (true && Value.builtin "BaseException.__getattribute__" == Value.builtin "object.__getattribute__") = false
   decide +kernel
 show wpAny _ _ (if (onTheHeap (.ref C) && Value.builtin "BaseException.__getattribute__" == Value.builtin "object.__getattribute__") = true then _ else getAttrByItsOwn _ _ _ _ _ _) _ _ _
 rw [n1, if_neg Bool.false_ne_true]
 unfold getAttrByItsOwn hookBefore
 refine wpAny_bind (LH.at ?_)
 refine wpAny_bind (wpAny_attempt (wpAny_holding ?_))
 have b1 := PySem.F.excAttr_ValueError.ga.bind (.ref x)
 show wpAny _ _ (boundAndCalled _ _ _) _ _ _
 unfold boundAndCalled
 rw [b1]
 refine wpAny_bind (wpAny_pure ?_)
 refine wpAny_call (codeAny_call_builtin PySem.F.excAttr_ValueError.ga.plain PySem.F.entry_bexc_ga (exc_check (s := ⟨hh, g, dr, t + 1, os⟩) X hx hc F (exc_entry (s := ⟨hh, g, dr, t + 1, os⟩) X hx hc F ?_)))
 exact handed_on rfl (wpAny_pure h)
theorem exc_kit (hc : ox.cls = .ref C) (F : ExcK K C) : KitX K (.ref x) (.ref C) (fun h => h.get? x = some ox) where
 ty := fun _ _ _ p => exc_type p hc
 it := fun _ _ X _ => by
   obtain ⟨cd, hcd⟩ := Option.isSome_iff_exists.mp F.cl
   unfold clsIn at hcd
   split at hcd
   · rename_i hlk
     intro A' Q' E' s' k q
     unfold isType loadHead
     exact wpAny_bind (wpAny_loadPart (k _ _ (X _ _ hlk)) (wpAny_pure q))
   · cases hcd
 ne := fun h tp dd its n sl X htp => by
   obtain ⟨cd, hcd⟩ := Option.isSome_iff_exists.mp F.cl
   refine Bool.eq_false_iff.mpr fun q => ?_
   have e : C = tp := Value.ref.inj (beq_iff_eq.mp q)
   subst e
   unfold clsIn at hcd
   split at hcd
   · rename_i hlk
     have z := (X _ _ hlk).symm.trans htp
     cases z
   · cases hcd
 ca := fun X p k => exc_class X p hc F k
def rIsiX (K : PySem.W.Frag) (ea C : Addr) : List V → Hp → VK → Prop := fun xs H Q => ∃ c b, xs = [.ref ea, c] ∧ clsOf c ≠ .none ∧ kitOne K (.ref C) (clsOf c) = some b ∧ Q (.bl b) H
theorem call_isiX {X : Cx} {ea : Addr} {oe : Obj} (hp : (ea, oe) ∈ X.pn) (hc : oe.cls = .ref C) (F : ExcK X.K C) : CallR X (.builtin "isinstance") (rIsiX X.K ea C) := by
 intro pins s σ H xs us Q I r h
 obtain ⟨c, b, rfl, hn, e, q⟩ := h
 obtain ⟨u, w', rfl, rx, rc⟩ := vals2 r
 cases clsOf_eq rc hn
 cases (show u = Value.ref ea from rx)
 exact kia_one (exc_kit hc F) I.kIn (I.pin (ea, oe) (List.mem_append_left _ hp)).1 e (fun z => nomatch z) fun tk => ⟨.bl b, H, I.tok _, rfl, q⟩
theorem r_isiX {K : PySem.W.Frag} {ea C : Addr} {c : V} {H : Hp} {Q : VK} {b : Bool} (hc : clsOf c ≠ .none) (e : kitOne K (.ref C) (clsOf c) = some b) (q : Q (.bl b) H) : rIsiX K ea C [.ref ea, c] H Q := ⟨c, b, rfl, hc, e, q⟩
theorem call_isiXK {X : Cx} {K : PySem.W.Frag} {ea C : Addr} {oe : Obj} (h : X.K = K) (hp : (ea, oe) ∈ X.pn) (hc : oe.cls = .ref C) (F : ExcK K C) : CallR X (.builtin "isinstance") (rIsiX K ea C) := by subst h; exact call_isiX hp hc F
theorem r_raise {C : Addr} {E : XK} {t : TA} {D : Ends} {σ : L2.St} {H : Hp} (h : t σ H fun vs H1 => vs.length ≤ 1000 ∧ E (.ref C) none H1) : tRaise C E t D σ H := h
end
end L3
namespace L3
open PySem PySem.Spec PyProof.Rows L2 PySem.SeqAt
section
variable {X : Cx} {k : Nat} {g : Str} {sp : Sp} {e c : Expr} {es : List Expr} {t : TA} {gp cpos pos : Pos} {b1 b2 : List Stmt} {tc : TT} {t1 t2 : TB}
def bExpr (sp : Sp) (t : TA) : TB := fun D Ew σ H => t σ H fun vs H1 => sp vs H1 (fun _ H2 => D.nx σ H2) Ew
theorem pb_expr (G : FnE X.prog X.w X.K X.mg X.base (CXR X.prog X.w) k g sp) (hr : Room k X.A) (hg : Gl X g) (ha : PA X.nox (e :: es) t) (hdb : (g == ("__debug__" : Str)) = false := by decide)
   (he : starEach (e :: es) X.env = (false, eval e X.env) :: starEach es X.env := by rfl) (hpl : (backTo cpos (starEach es X.env)).any (·.1) = false := by rfl) (hi : interactive X.env = false := by rfl) :
   PB X [.Expr (.Call (.Name g gp) (e :: es) [] cpos) pos] (bExpr sp t) := by
 intro pins s σ H D Ew I h
 refine wpAny_execs_cons (wpAny_Expr_any (wpAny_mono (call_throws G hr hg ha I h hdb he hpl) (fun v s1 ⟨y, H1, I1, r1, q1⟩ => wpAny_execs_nil ⟨σ, H1, I1, q1⟩) fun _ _ z => z) hi rfl)
end
section
variable {X : Cx} {v : Expr} {tv : TE} {x y : Str} {j1 j2 : Nat} {p0 p1 p2 p3 : Pos}
def tFstr (x y : Str) (tv : TE) : TE := fun σ H Q => tv σ H fun u H1 => ∃ i, u = .int i ∧ i.natAbs.log2 < 1920 ∧ (Str.empty ++ x ++ Str.ofString (toString i)).length ≤ sizeLine ∧ (Str.empty ++ x ++ Str.ofString (toString i) ++ y).length ≤ sizeLine ∧ Q (.str (Str.empty ++ x ++ Str.ofString (toString i) ++ y)) H1
theorem pe_fstr (hv : PE X v tv) (hx : (Str.empty ++ x).length ≤ sizeLine := by decide +kernel) : PE X (.JoinedStr [.Constant (.str x) j1 p1, .FormattedValue v (-1) none p2, .Constant (.str y) j2 p3] p0) (tFstr x y tv) := by
 intro pins s σ H Q I h
 refine JoinedStr_many (joinParts_cons (thn (pe_str (X := X) pins s σ H (fun u H' => u = .str x ∧ H' = H) I ⟨rfl, rfl⟩) fun u1 s1 ⟨v1, H1, I1, r1, e1, e2⟩ => ?_))
 subst e1 e2
 obtain ⟨t1, rfl⟩ := r1
 refine ⟨hx, joinParts_cons (FormattedValue_plain (thn (hv pins s1 σ H1 _ I1 h) fun u2 s2 ⟨v2, H2, I2, r2, i, e, hd, hy, hz, q⟩ => ?_))⟩
 subst e
 obtain ⟨t2, rfl⟩ := r2
 refine formatField_int_small hd ?_
 refine ⟨hy, joinParts_cons (thn (pe_str (X := X) pins _ σ H2 (fun u H' => u = .str y ∧ H' = H2) (I2.tok _) ⟨rfl, rfl⟩) fun u3 s3 ⟨v3, H3, I3, r3, e3, e4⟩ => ?_)⟩
 subst e3 e4
 obtain ⟨t3, rfl⟩ := r3
 exact ⟨hz, joinParts_nil ⟨.str _, _, I3.tok _, ⟨_, rfl⟩, q⟩ hz⟩
end
end L3
namespace L3
open PySem PySem.Spec PyProof.Rows
section
variable {prog : Program} {w : World} {A : Around} {E : Value → Shared → Prop} {s : Shared}
end
section
variable {prog : Program} {w : World} {A : Around} {E : Value → Shared → Prop} {s : Shared}
end
end L3
namespace L3
open PySem PySem.Spec PyProof.Rows L2
end L3
namespace L3
open PySem PySem.Spec PyProof.Rows L2 PySem.SeqAt
end L3
namespace L3
open PySem PySem.Spec PyProof.Rows L2 PySem.SeqAt
section
variable {P : Program} {w : World} {K : PySem.W.Frag} {mg : Str → Option Value} {base : Heap} {dv : Value}
end
section
variable {X : Cx} {CX : CXT} {k : Nat} {C : Addr} {dV : V} {sp : Sp} {E : XK} {x m : Str} {p pos apos : Pos} {e o : Expr} {es : List Expr} {ta : TE} {t : TA}
end
section
variable {P : Program} {w : World} {K : PySem.W.Frag} {mg : Str → Option Value} {base : Heap} {x qual : Str} {st : Stmt} {N ps : List Str} {sp : Sp} {C : Addr}
end
end L3
namespace FB
open PySem PySem.Spec PyProof.Rows L2 L3 PySem.SeqAt
def isVal (n : Int) : Prop := 0 ≤ n ∧ n ≤ 4294967295
def gI (xs : List Int) (i : Int) : Int := xs.getD i.toNat 0
def sI (xs : List Int) (i v : Int) : List Int := xs.set i.toNat v
theorem sI_len (xs : List Int) (i v : Int) : (sI xs i v).length = xs.length := by unfold sI; exact List.length_set ..
theorem gI_at {xs : List Int} {i : Int} (h0 : 0 ≤ i) (h1 : i < xs.length) : atI (xs.map V.int) i = some (.int (gI xs i)) := by
 have e : i = ((i.toNat : Nat) : Int) := by omega
 have hl : i.toNat < xs.length := by omega
 have z : atI (xs.map V.int) ((i.toNat : Nat) : Int) = some (.int (gI xs i)) := atI_nat (by
   rw [List.getElem?_map, List.getElem?_eq_getElem hl]
   simp [gI, List.getD, List.getElem?_eq_getElem hl])
 rw [← e] at z; exact z
theorem r_lenI {K : PySem.W.Frag} {p : Addr} {xs : List Int} {H : Hp} {Q : VK} (h : SqL K H p (xs.map V.int)) (q : Q (.int xs.length) H) : rLen K [.ref p] H Q := r_lenL h (by rw [List.length_map]; exact q)
structure Adr where
 C_Row : Addr
 C_Set : Addr
 C_Copy : Addr
 C_Add : Addr
 C_Sub : Addr
 C_Mul : Addr
 C_Less : Addr
 C_Grow : Addr
 C_Shrink : Addr
 C_Put : Addr
 C_Get : Addr
 C_Jump : Addr
 C_Branch : Addr
 C_Call : Addr
 C_Back : Addr
 C_Drop : Addr
 C_Reckoning : Addr
 C_Reaching : Addr
 C_FrameError : Addr
 C_NoRow : Addr
 C_NoTable : Addr
 C_NoText : Addr
 C_Table : Addr
 C_Reading : Addr
 C_Machine : Addr
 C_Astray : Addr
 C_NoProgram : Addr
 C_NoLine : Addr
 C_NoName : Addr
 G_START : Addr
 G_WHICH : Addr
 G_COUNTS : Addr
 G_KEPT_BOXES : Addr
 G_SET_NAMES : Addr
 G_PARTS : Addr
 G_UNCOUNTED : Addr
def cellAt (ns : List Int) (k : Int) : Int := ns.getD k.toNat 0
def spCellAt (K : PySem.W.Frag) : Sp := fun vs H Q _ => ∃ (p : Addr) (ns : List Int) (k : Int), vs = [.ref p, .int k] ∧ SqL K H p (ns.map V.int) ∧ 0 ≤ k ∧ Q (.int (cellAt ns k)) H
theorem r_cellAt {K : PySem.W.Frag} {p : Addr} {ns : List Int} {k : Int} {H : Hp} {Q : VK} {E : XK} (h : SqL K H p (ns.map V.int)) (h0 : 0 ≤ k) (q : Q (.int (cellAt ns k)) H) : spCellAt K [.ref p, .int k] H Q E := ⟨p, ns, k, rfl, h, h0, q⟩
theorem cellAt_out {ns : List Int} {k : Int} (h0 : 0 ≤ k) (h : ¬ k < ns.length) : cellAt ns k = 0 := by
 unfold cellAt
 rw [List.getD_eq_getElem?_getD, List.getElem?_eq_none (by omega)]
 rfl
def spLaw (K : PySem.W.Frag) : Sp := fun vs H Q _ => ∃ (a : Addr) (ns : List Int), vs = [.ref a] ∧ SqL K H a (ns.map V.int) ∧ ns.length ≤ 63 ∧ ∀ H', Q (.bl true) H'
theorem look_of {fs : List (Str × V)} {f g : Str} {v w : V} (h : f ≠ g) (e : fs.lookup f = some w) : (putF g v fs).lookup f = some w := by rw [lookup_putF, if_neg h]; exact e
theorem look_hit {fs : List (Str × V)} {f : Str} {v : V} : (putF f v fs).lookup f = some v := by rw [lookup_putF, if_pos rfl]
theorem look_no {fs : List (Str × V)} {f g : Str} {v : V} (h : f ≠ g) (e : fs.lookup f = none) : (putF g v fs).lookup f = none := by rw [lookup_putF, if_neg h]; exact e
theorem len_of {fs : List (Str × V)} {f : Str} {v : V} {n : Nat} (e : fs.length ≤ n) : (putF f v fs).length ≤ n + 1 := Nat.le_trans (length_putF _ _ _) (Nat.succ_le_succ e)
end FB
namespace L3
open PySem PySem.Spec PyProof.Rows L2 PySem.SeqAt
section
variable {prog : Program} {w : World} {A : Around} {E : Value → Shared → Prop} {h : Heap} {g : Array GenState} {d : Drawn} {t : Nat} {os : OsState}
variable {nm q : Str} {C N : Addr} {bs bm bmB : List Value} {hdct : Bool} {sn : List Str} {sub : List Value} {ab : Bool} {col : Option Bool} {dd : Option Addr} {k0 k1 k2 k3 k5 : Option Value} {B Bn newId nid initId inN : String} {bmN : List Value}
end
end L3
namespace L3
open PySem PySem.Spec PyProof.Rows L2 PySem.SeqAt
end L3
namespace L3
open PySem PySem.Spec PyProof.Rows L2 PySem.SeqAt PySem.W Builtin Builtin.ObjectAttr
section
variable {prog : Program} {w : World} {A : Around} {E : Value → Shared → Prop} {s : Shared} {K : PySem.W.Frag} {x C t : Addr} {name : Str} {v : Value}
end
end L3
namespace L3
open PySem PySem.Spec PyProof.Rows L2 PySem.SeqAt
section
variable {X : Cx} {pins : List (Addr × Obj)} {σ : L2.St} {H : Hp} {s : Shared} {a C : Addr} {f : Str} {A : Around} {E : Value → Shared → Prop}
end
end L3
namespace L3
open PySem PySem.Spec PyProof.Rows L2 PySem.SeqAt
section
variable {M : Model} {A : Around} {E : Value → Shared → Prop} {s : Shared}
end
end L3
namespace L3
open PySem PySem.Spec PyProof.Rows L2 PySem.SeqAt
section
variable {M : Model} {A : Around} {E : Value → Shared → Prop} {env : Env}
variable {nm q : Str} {C N : Addr} {bs bm : List Value} {hdct : Bool} {sn : List Str} {sub : List Value} {ab : Bool} {col : Option Bool} {dd : Option Addr} {k0 k1 k2 k3 k5 : Option Value} {newId : String}
end
section
variable {prog : Program} {w : World} {A : Around} {E : Value → Shared → Prop} {s : Shared} {env : Env}
variable {nm q : Str} {C N : Addr} {bs bm bmB : List Value} {hdct : Bool} {sn : List Str} {sub : List Value} {ab : Bool} {col : Option Bool} {dd : Option Addr} {k0 k1 k2 k3 k5 : Option Value} {B Bn newId nid initId inN : String} {bmN : List Value}
end
end L3
namespace L3
open PySem PySem.Spec PyProof.Rows L2 PySem.SeqAt
section
variable {P : Program} {w : World} {K : PySem.W.Frag} {mg : Str → Option Value} {base : Heap} {x qual : Str} {st : Stmt} {N ps : List Str} {sp : Sp} {C : Addr} {k : Nat}
end
section
variable {X : Cx} {pins : List (Addr × Obj)} {σ : L2.St} {H : Hp} {s : Shared} {k : Nat} {g x n : Str} {sp : Sp} {e : Expr} {es : List Expr} {t : TA} {tx : TEX} {ta : TAX} {te : TE} {gp cpos pos py : Pos}
end
end L3
namespace L3
open PySem PySem.Spec PyProof.Rows L2 PySem.SeqAt PySem.W Builtin Builtin.ObjectAttr
section
variable {prog : Program} {w : World} {A : Around} {E : Value → Shared → Prop} {s : Shared} {K : PySem.W.Frag} {x C dx : Addr} {ox od : Obj} {name : Str} {v : Value}
end
section
variable {X : Cx} {pins : List (Addr × Obj)} {σ : L2.St} {C fI : Addr}
end
end L3
namespace L3
open PySem PySem.Spec PyProof.Rows L2 PySem.SeqAt
end L3
namespace L3
open PySem PySem.Spec PyProof.Rows L2 PySem.SeqAt
end L3
namespace L3
open PySem PySem.Spec PyProof.Rows L2 PySem.SeqAt
section
variable {prog : Program} {w : World} {A : Around} {E : Value → Shared → Prop} {s : Shared}
end
end L3
namespace L3
open PySem PySem.Spec PyProof.Rows L2 PySem.SeqAt
section
variable {M : Model} {A : Around} {E : Value → Shared → Prop}
variable {nm q : Str} {D N : Addr} {bs bm : List Value} {hdct : Bool} {sn : List Str} {sub : List Value} {ab : Bool} {col : Option Bool} {dd : Option Addr} {k0 k1 k2 k3 k5 : Option Value} {newId : String}
end
section
variable {X : Cx} {pins : List (Addr × Obj)} {σ : St} {H H1 H' : Hp} {s s1 s' : Shared} {ea C : Addr}
end
end L3
namespace L3
open PySem PySem.Spec PyProof.Rows L2
section
variable {prog : Program} {w : World} {A : Around} {E : Value → Shared → Prop} {s : Shared}
end
end L3
namespace L3
open PySem PySem.Spec PyProof.Rows L2
theorem r_chain {r r' : R2} {ta tb tc : TE} {σ : L2.St} {H : Hp} {Q : VK} (h : ta σ H fun x H1 => tb σ H1 fun y H2 => r x y H2 fun z H3 => ∃ k, z = .bl k ∧ (if k then tc σ H3 fun u H4 => r' y u H4 Q else Q (.bl false) H3)) : tChain r r' ta tb tc σ H Q := h
theorem r_tupLst {K : PySem.W.Frag} {p : Addr} {xs : List V} {H : Hp} {Q : VK} (h : SqL K H p xs) (q : ∀ l, H l = none → Q (.ref l) (upd H l (.tup xs))) : rTup K [.ref p] H Q := ⟨p, xs, rfl, .inl ⟨h, q⟩⟩
end L3
namespace L3
open PySem PySem.Spec PyProof.Rows L2 PySem.SeqAt
section
variable {X : Cx} {k : Nat} {x m : Str} {e o : Expr} {es : List Expr} {ta : TE} {t : TA} {apos cpos pos py : Pos}
end
end L3
namespace L3
open PySem PySem.Spec PyProof.Rows L2 PySem.SeqAt
section
variable {X : Cx} {pins : List (Addr × Obj)} {σ : L2.St} {C fI : Addr}
end
end L3
namespace L3
open PySem PySem.Spec PyProof.Rows L2 PySem.SeqAt
section
variable {prog : Program} {w : World} {A : Around} {E : Value → Shared → Prop} {s : Shared}
end
section
variable {M : Model} {A : Around} {E : Value → Shared → Prop} {s : Shared}
end
end L3
namespace L3
open PySem PySem.Spec PyProof.Rows L2 PySem.SeqAt
section
variable {X : Cx} {pins : List (Addr × Obj)} {σ : L2.St} {H : Hp} {s : Shared}
end
end L3
namespace L3
open PySem PySem.Spec PyProof.Rows L2 PySem.SeqAt
end L3
namespace L3
open PySem PySem.Spec PyProof.Rows L2 PySem.SeqAt
end L3
namespace L3
open PySem PySem.Spec PyProof.Rows L2 PySem.SeqAt
end L3
namespace L3
open PySem PySem.Spec PyProof.Rows L2 PySem.SeqAt
end L3
namespace L3
open PySem PySem.Spec PyProof.Rows L2 PySem.SeqAt
end L3
namespace L3
open PySem PySem.Spec PyProof.Rows L2 PySem.SeqAt
def conRE (w : World) (l : List (Str × Tok × Value)) : List DictEntry := l.map fun p => { hash := PyData.keyHash w.params p.1, key := .str p.1 p.2.1, val := p.2.2 }
def conRV (kvs : List (Str × V)) : List (Key × V) := kvs.map fun p => ((Sum.inr p.1 : Key), p.2)
inductive ConL : List (Str × V) → List (Str × Tok × Value) → Prop
 | nil : ConL [] []
 | cons {t : Str} {v : V} {u : Value} {tk : Tok} {kvs : List (Str × V)} {l : List (Str × Tok × Value)} (r : RelV v u) (h : ConL kvs l) : ConL ((t, v) :: kvs) ((t, tk, u) :: l)
structure ConR (w : World) (K : PySem.W.Frag) (a : Addr) (kvs : List (Str × V)) : Prop where
 sys : (a == sysModules) = false
 nd : ((conRV kvs).map (·.1)).Nodup
 ex : ∃ (l : List (Str × Tok × Value)) (ep : Nat), ConL kvs l ∧ K.lookup a = some { cls := .type "dict", dict := none, data := .dict (conRE w l).toArray ep, slots := #[] }
theorem conR_kv {kvs : List (Str × V)} {l : List (Str × Tok × Value)} (h : ConL kvs l) : KV (conRV kvs) (l.map fun p => ((Sum.inr p.1 : Key), p.2.2)) := by
 induction h with
 | nil => exact .nil
 | cons r _ ih => exact .cons ⟨rfl, r⟩ ih
theorem conR_pairs {P : Program} {w : World} : ∀ l : List (Str × Tok × Value), Pairs (mixKind P w) (conRE w l) (l.map fun p => ((Sum.inr p.1 : Key), p.2.2))
 | [] => .nil
 | p :: l => .cons (kV_is (k := .inr p.1) ⟨_, rfl⟩) rfl (conR_pairs l)
theorem ConR.dict {P : Program} {w : World} {K : PySem.W.Frag} {a : Addr} {kvs : List (Str × V)} {h : Heap} (c : ConR w K a kvs) (x : K.In h) : ∃ vs, KV (conRV kvs) vs ∧ h.DictOf (mixKind P w) a vs := by
 obtain ⟨l, ep, hl, lk⟩ := c.ex
 refine ⟨_, conR_kv hl, _, (conRE w l).toArray, ep, x _ _ lk, ⟨rfl, rfl, rfl⟩, rfl, fun e he => ?_, by rw [List.toList_toArray]; exact conR_pairs l, ?_⟩
 · have he : e ∈ conRE w l := by simpa using he
   obtain ⟨p, _, rfl⟩ := List.mem_map.mp he
   exact ⟨.inr p.1, kV_is (k := .inr p.1) ⟨_, rfl⟩, rfl⟩
 · rw [← (conR_kv hl).keys]; exact c.nd
def tRGet (w : World) (K : PySem.W.Frag) (td ty : TE) : TE := fun σ H Q => td σ H fun x H1 => ∃ a kvs, x = .ref a ∧ ConR w K a kvs ∧ ty σ H1 fun y H2 => ∃ t v, y = .str t ∧ valV (conRV kvs) (.inr t) = some v ∧ Q v H2
theorem pe_rget {X : Cx} {w : World} {K : PySem.W.Frag} {o i : Expr} {td ty : TE} {pos : Pos} (hw : X.w = w) (hK : X.K = K) (ho : PE X o td) (hi : PE X i ty) (hs : NoSl i) : PE X (.Subscript o i pos) (tRGet w K td ty) := by
 subst hw hK
 intro pins s σ H Q I h
 refine subD_of PySem.F.slot_dict_getitem.lookup hs (thn (ho pins s σ H _ I h) fun u s1 ⟨x, H1, I1, rx, a, kvs, ex, c, q1⟩ => thn (hi pins s1 σ H1 _ I1 q1) fun iv s2 ⟨y, H2, I2, ry, t, v, ey, e, q2⟩ => ?_)
 subst ex ey
 obtain rfl : u = Value.ref a := rx
 obtain ⟨vs, rel, dd⟩ := c.dict (P := X.prog) I2.kIn
 obtain ⟨w', hw, rw'⟩ := RelO.some_of (v := v) (o := valueAt vs (.inr t)) (by rw [← e]; exact rel.val (.inr t))
 exact ⟨dd.typeIs, wpAny_getItem_of (kV_is (k := .inr t) ry) dd.mapOf hw ⟨v, H2, I2.tok _, rw', q2⟩⟩
theorem pe_rget1 {X : Cx} {w : World} {K : PySem.W.Frag} {o e : Expr} {td ty : TE} {apos cpos : Pos} (hw : X.w = w) (hK : X.K = K) (ho : PE X o td) (he : PE X e ty) (m : M1 X o "get" apos e cpos) : PE X (.Call (.Attribute o "get" apos) [e] [] cpos) (tRGet w K td ty) := by
 subst hw hK
 intro pins s σ H Q I h
 refine wpAny_Call_method m.base m.few m.line PySem.F.plainAttrs_dict PySem.F.slot_dict_get PySem.F.type_dict_get (thn (ho pins s σ H _ I h) fun u s1 ⟨x, H1, I1, rx, a, kvs, ex, c, q1⟩ => ?_)
 subst ex
 obtain rfl : u = Value.ref a := rx
 obtain ⟨vs0, _, dd0⟩ := c.dict (P := X.prog) I1.kIn
 refine ⟨dd0.typeIs, fun b q => ?_, ?_⟩
 · cases q
   obtain ⟨ob, _, _, h1, h2, _⟩ := dd0
   exact ⟨ob, h1, h2.2.1⟩
 rw [m.trees]
 refine Calls.callWith_builtin rfl (Calls.evalArgs_plain (Calls.spliced_cons (thn (he pins s1 σ H1 _ I1 q1) fun iv s2 ⟨y, H2, I2, ry, t, v, ey, ev, q2⟩ => Calls.spliced_nil ?_)))
 subst ey
 obtain ⟨vs, rel, dd⟩ := c.dict (P := X.prog) I2.kIn
 refine call_meetsIn PySem.F.slot_dict_get dd.typeIs PySem.F.entry_dict_get (PySem.F.args_dict_get_2 _ _) (meets_dict_get (mixKind X.prog X.w) a (kV_is (k := .inr t) ry) c.sys) ⟨_, dd.mapOf, ⟨v, H2, I2.tok _, ?_, q2⟩⟩
 have := (rel.val (.inr t)).getD (d := .non) (d' := .none) rfl
 rw [ev] at this
 exact this
theorem r_rGet {w : World} {K : PySem.W.Frag} {td ty : TE} {σ : L2.St} {H : Hp} {Q : VK} (q : td σ H fun x H1 => ∃ a kvs, x = .ref a ∧ ConR w K a kvs ∧ ty σ H1 fun y H2 => ∃ t v, y = .str t ∧ valV (conRV kvs) (.inr t) = some v ∧ Q v H2) : tRGet w K td ty σ H Q := q
theorem comp_filZ {K : PySem.W.Frag} {a b : Addr} {α : Type} {xs : List α} {e1 e2 : α → V} {g : TG} {tc : TT} {te : TE} {fin : List V → Hp → Prop} {σ0 : L2.St} {H : Hp} (f : α → V) (pr : α → Bool) (Sg : L2.St → Prop) (ha : SqT K H a (xs.map e1)) (hb : SqT K H b (xs.map e2)) (hz : xs.length ≤ sizeLine) (h0 : Sg σ0)
   (hs : ∀ (i : Nat) (x : α) (ys : List V) (σ : L2.St) (H1 : Hp) (T : Addr), xs[i]? = some x → FInv xs f pr Sg H i ys σ H1 → Same H H1 → Sg σ → H1 T = none →
     g (.ref T) σ (upd H1 T (.tup [e1 x, e2 x])) fun σ3 H3 => tc σ3 H3 fun b H4 => if b = true then te σ3 H4 fun y H5 => FInv xs f pr Sg H (i + 1) (ys ++ [y]) σ3 H5 else FInv xs f pr Sg H (i + 1) ys σ3 H4)
   (hd : ∀ H1, Same H H1 → fin ((xs.filter pr).map f) H1) : CompW (Itz K a b) g tc te fin σ0 H := by
 have hlen : ∀ i, (((xs.take i).filter pr).map f).length ≤ sizeLine := fun i => by
   have h1 := List.length_filter_le pr (xs.take i)
   have h2 : (xs.take i).length ≤ xs.length := by rw [List.length_take]; omega
   rw [List.length_map]; omega
 refine ⟨fun i m ys σ H1 => m = xs.length - i ∧ i ≤ xs.length ∧ FInv xs f pr Sg H i ys σ H1, ⟨xs.length, by simp, Nat.zero_le _, Same.refl _, h0, rfl⟩, ?_⟩
 rintro i m ys σ H1 ⟨rfl, hi, c⟩
 obtain ⟨s, sg, rfl⟩ := id c
 by_cases hlt : i < xs.length
 · refine .inr ⟨⟨_, _, e1 xs[i], e2 xs[i], SqT_same s ha, SqT_same s hb, by simp [hlt], by simp [hlt]⟩, FInv xs f pr Sg H (i + 1), fun ys2 σ2 H2 p' => ⟨?_, xs.length - (i + 1), by omega, rfl, hlt, p'⟩, fun v H2 y => ?_⟩
   · obtain ⟨_, _, rfl⟩ := p'
     exact hlen _
   · obtain ⟨T, x, y', rfl, hT, rfl, hxy⟩ := y
     obtain ⟨q1, q2⟩ := hxy _ _ (SqT_same s ha) (SqT_same s hb)
     have e1' : e1 xs[i] = x := by simpa [hlt] using q1
     have e2' : e2 xs[i] = y' := by simpa [hlt] using q2
     rw [← e1', ← e2']
     exact hs i xs[i] _ σ H1 T (by simp [hlt]) c s sg hT
 · have e : i = xs.length := by omega
   subst e
   refine .inl ⟨⟨_, _, SqT_same s ha, SqT_same s hb, .inl (by simp)⟩, hlen _, ?_⟩
   rw [List.take_length]; exact hd H1 s
section
variable {X : Cx} {C : Addr}
end
end L3
namespace L3
open PySem PySem.Spec PyProof.Rows L2 PySem.SeqAt
def rIsi2 (K : PySem.W.Frag) : List V → Hp → VK → Prop := fun xs H Q => ∃ x t, xs = [.ref x, .ref t] ∧ SqT K H t [.ty "list", .ty "tuple"] ∧ ((∃ us, H x = some (.lst us)) ∨ (∃ us, H x = some (.tup us))) ∧
 PySem.W.kitOne K (.type "list") (.type "list") = some true ∧ PySem.W.kitOne K (.type "tuple") (.type "list") = some false ∧ PySem.W.kitOne K (.type "tuple") (.type "tuple") = some true ∧ Q (.bl true) H
theorem call_isi2 {X : Cx} {K : PySem.W.Frag} (hK : X.K = K) : CallR X (.builtin "isinstance") (rIsi2 K) := by
 subst hK
 intro pins s σ H xs us Q I r h
 obtain ⟨x, t, rfl, hq, hx, k1, k2, k3, q⟩ := h
 obtain ⟨u, w', rfl, rx, rt⟩ := vals2 r
 cases rx
 cases rt
 obtain ⟨its, vs, p1, _⟩ := I.tuple hq
 obtain ⟨o, h1, h2, h3⟩ := p1
 obtain ⟨u1, u2, rfl, r1, r2⟩ := vals2 vs
 cases r1
 cases r2
 obtain ⟨oc, od, odt, osl⟩ := o
 obtain ⟨n, h3⟩ := h3
 have h2 : oc = .type "tuple" := h2
 have h3 : odt = .seq #[.type "list", .type "tuple"] n := h3
 subst h2 h3
 have tk : ∀ tk, EP X pins σ Q (.bool true) { s with toks := tk } := fun tk => ⟨.bl true, H, I.tok _, rfl, q⟩
 rcases hx with ⟨us, hx⟩ | ⟨us, hx⟩
 · obtain ⟨_, its, m, _, e⟩ := I.hok x _ hx
   exact PySem.W.kia_tup PySem.W.kitx_list I.kIn ⟨_, e, rfl⟩ (its := [.type "list", .type "tuple"]) h1 (by unfold PySem.W.kitAny; rw [k1]) (fun z => nomatch z) tk
 · obtain ⟨_, its, _, o', e, e2, _⟩ := I.hok x _ hx
   exact PySem.W.kia_tup PySem.W.kitx_tuple I.kIn ⟨_, e, e2⟩ (its := [.type "list", .type "tuple"]) h1 (by unfold PySem.W.kitAny; rw [k2]; unfold PySem.W.kitAny; rw [k3]) (fun z => nomatch z) tk
theorem r_isi2 {K : PySem.W.Frag} {x t : Addr} {H : Hp} {Q : VK} (h : SqT K H t [.ty "list", .ty "tuple"]) (hx : (∃ us, H x = some (.lst us)) ∨ (∃ us, H x = some (.tup us))) (k1 : PySem.W.kitOne K (.type "list") (.type "list") = some true) (k2 : PySem.W.kitOne K (.type "tuple") (.type "list") = some false) (k3 : PySem.W.kitOne K (.type "tuple") (.type "tuple") = some true) (q : Q (.bl true) H) : rIsi2 K [.ref x, .ref t] H Q := ⟨x, t, rfl, h, hx, k1, k2, k3, q⟩
end L3
namespace L3
open PySem PySem.Spec PyProof.Rows L2 PySem.SeqAt
end L3
namespace L3
open PySem PySem.Spec PyProof.Rows L2 PySem.SeqAt
end L3
namespace L3
open PySem PySem.Spec PyProof.Rows L2 PySem.SeqAt PySem.Builtin PySem.Builtin.Str
theorem strs_of : ∀ {ts : List Str} {its : List Value}, Vals (ts.map V.str) its → ∃ l : List (Str × Tok), its = strValues l ∧ l.map (·.1) = ts
 | [], its, h => by cases h; exact ⟨[], rfl, rfl⟩
 | t :: r, its, h => by
   cases h with
   | cons h1 h2 =>
     obtain ⟨tk, rfl⟩ := h1
     obtain ⟨l, rfl, e⟩ := strs_of h2
     exact ⟨(t, tk) :: l, rfl, by rw [List.map_cons, e]⟩
theorem vals_strs : ∀ (l : List (Str × Tok)), Vals ((l.map (·.1)).map V.str) (strValues l)
 | [] => .nil
 | p :: r => .cons ⟨p.2, rfl⟩ (vals_strs r)
def rJoin (K : PySem.W.Frag) : V → List V → Hp → VK → Prop := fun x vs H Q => ∃ sep l ts, x = .str sep ∧ vs = [.ref l] ∧ SqL K H l (ts.map V.str) ∧ JoinOk sep ts = true ∧ Q (.str (PySem.Str.join sep ts)) H
theorem mt_join {X : Cx} {K : PySem.W.Frag} (hK : X.K = K) : MtR X "str.join" (rJoin K) := by
 subst hK
 intro pins s σ H x vs v us Q I rx rv h
 obtain ⟨sep, l, ts, rfl, rfl, hq, hok, q⟩ := h
 obtain ⟨tk, rfl⟩ := rx
 obtain ⟨u, rfl, ru⟩ := vals1 rv
 cases ru
 obtain ⟨its, rv', hp, _⟩ := I.list hq
 obtain ⟨pl, rfl, ht⟩ := strs_of rv'
 refine SC.join hp.isList ht hok fun t' k => ⟨.str (Txt.join sep ts), H, I.tok _, ⟨_, rfl⟩, ?_⟩
 rw [show Txt.join sep ts = PySem.Str.join sep ts from StrLaws.glued_eq_join sep ts]
 exact q
theorem r_join {K : PySem.W.Frag} {sep : Str} {l : Addr} {ts : List Str} {H : Hp} {Q : VK} (h : SqL K H l (ts.map V.str)) (hok : JoinOk sep ts = true) (q : Q (.str (PySem.Str.join sep ts)) H) : rJoin K (.str sep) [.ref l] H Q := ⟨sep, l, ts, rfl, rfl, h, hok, q⟩
def rSplit : V → List V → Hp → VK → Prop := fun x vs H Q => ∃ t sep, x = .str t ∧ vs = [.str sep] ∧ (sep.length == 0) = false ∧ t.length ≤ sizeLine ∧ (Txt.split t sep).length ≤ sizeLine ∧ ∀ p, H p = none → Q (.ref p) (upd H p (.lst ((Txt.split t sep).map V.str)))
theorem mt_split {X : Cx} : MtR X "str.split" rSplit := by
 intro pins s σ H x vs v us Q I rx rv h
 obtain ⟨t, sep, rfl, rfl, hy, z1, z3, q⟩ := h
 obtain ⟨tk, rfl⟩ := rx
 obtain ⟨u, rfl, tu, rfl⟩ := vals1 rv
 have fin : ∀ (l : List (Str × Tok)) (k : Nat), l.map (·.1) = Txt.split t sep → EP X pins σ Q (.ref s.heap.objs.size) { s with heap := s.heap.push { cls := .type "list", data := .seq (strValues l).toArray }, toks := k } := fun l k e =>
   ⟨.ref s.heap.objs.size, _, I.laid (t' := k) (fun b o w => Heap.get?_push_of_some _ w) (Nat.le_refl _) (show ObjOk X.prog X.w _ _ _ (.lst ((Txt.split t sep).map V.str)) from ⟨by rw [List.length_map]; exact z3, strValues l, 0, by rw [← e]; exact vals_strs l, Heap.get?_push_size _ rfl⟩), rfl, q _ (I.hok.fresh (Nat.le_refl _))⟩
 cases h1 : (decide (t.length < sep.length) || decide (strKind t < strKind sep)) with
 | true =>
   refine call_meets F.slot_str_split (typeIs_str _ _ _) F.entry_str_split (F.args_str_split_2 _ _) (meets_str_split_cannot_occur t sep tk tu h1) ?_
   exact fin [(t, tk)] s.toks (by unfold Txt.split; rw [if_pos h1]; rfl)
 | false =>
   have n1 : ¬ ((decide (t.length < sep.length) || decide (strKind t < strKind sep)) = true) := by rw [h1]; decide
   cases hf : (occurrences t sep 0 t.length (t.length + 1)).isEmpty with
   | true =>
     refine call_meets F.slot_str_split (typeIs_str _ _ _) F.entry_str_split (F.args_str_split_2 _ _) (meets_str_split_not_found t sep tk tu h1 hy hf) ?_
     exact fin [(t, tk)] s.toks (by unfold Txt.split; rw [if_neg n1, if_pos hf]; rfl)
   | false =>
     have n2 : ¬ ((occurrences t sep 0 t.length (t.length + 1)).isEmpty = true) := by rw [hf]; decide
     have z2 : (partsBetween t (occurrences t sep 0 t.length (t.length + 1)) sep.length).length ≤ sizeLine := by
       have z4 := z3
       unfold Txt.split at z4
       rw [if_neg n1, if_neg n2] at z4
       exact z4
     refine call_meets F.slot_str_split (typeIs_str _ _ _) F.entry_str_split (F.args_str_split_2 _ _) (meets_str_split_sep t sep tk tu h1 hy hf z1 z2) ?_
     have := fin (numbered s.toks (partsBetween t (occurrences t sep 0 t.length (t.length + 1)) sep.length)) (s.toks + (partsBetween t (occurrences t sep 0 t.length (t.length + 1)) sep.length).length) (by rw [numbered_texts]; unfold Txt.split; rw [if_neg n1, if_neg n2])
     rw [← strsFrom_eq] at this
     exact this
theorem r_split {t sep : PySem.Str} {ws : List PySem.Str} {H : Hp} {Q : VK} (hy : (sep.length == 0) = false) (z1 : t.length ≤ sizeLine) (e : Txt.split t sep = ws) (z3 : ws.length ≤ sizeLine) (q : ∀ p, H p = none → Q (.ref p) (upd H p (.lst (ws.map V.str)))) : rSplit (.str t) [.str sep] H Q := by
 subst e
 exact ⟨t, sep, rfl, rfl, hy, z1, z3, q⟩
def rIntT : List V → Hp → VK → Prop := fun xs H Q => ∃ x n, xs = [.str x] ∧ PySem.intText? x = some n ∧ x.length ≤ 640 ∧ Q (.int n) H
theorem call_intT {X : Cx} : CallR X (.type "int") rIntT := by
 intro pins s σ H xs us Q I r h
 obtain ⟨x, n, rfl, hn, hl, q⟩ := h
 obtain ⟨u, rfl, tu, rfl⟩ := vals1 r
 exact PySem.W.KIN.call_text hn hl ⟨.int n, H, I.tok _, ⟨_, rfl⟩, q⟩
end L3
namespace L3
open PySem PySem.Spec PyProof.Rows L2 PySem.SeqAt PySem.Builtin PySem.Builtin.Str PySem.StrLaws
def jn (sep : List Nat) : List (List Nat) → List Nat
 | [] => []
 | [x] => x
 | x :: y :: r => x ++ (sep ++ jn sep (y :: r))
theorem str_app (a b : PySem.Str) : (a ++ b).cps.toList = a.cps.toList ++ b.cps.toList := by
 show (a.cps ++ b.cps).toList = _
 rw [Array.toList_append]
theorem join_toList (sep : PySem.Str) : ∀ ts : List PySem.Str, (PySem.Str.join sep ts).cps.toList = jn sep.cps.toList (ts.map fun t => t.cps.toList)
 | [] => rfl
 | [x] => rfl
 | x :: y :: r => by
   show (x ++ sep ++ PySem.Str.join sep (y :: r)).cps.toList = _
   rw [str_app, str_app, join_toList sep (y :: r), List.append_assoc]; rfl
def Beg (c : Nat) (A : List Nat) : Prop := A = [] ∨ ∃ r, A = c :: r
theorem beg_uniq {c : Nat} : ∀ {w v A B : List Nat}, c ∉ w → c ∉ v → Beg c A → Beg c B → w ++ A = v ++ B → w = v ∧ A = B
 | [], [], A, B, _, _, _, _, e => ⟨rfl, e⟩
 | [], y :: v, A, B, _, hv, hA, _, e => by
   rcases hA with rfl | ⟨r, rfl⟩
   · cases e
   · have : c = y := (List.cons.inj e).1
     exact absurd (this ▸ List.mem_cons_self ..) hv
 | x :: w, [], A, B, hw, _, _, hB, e => by
   rcases hB with rfl | ⟨r, rfl⟩
   · cases e
   · have : x = c := (List.cons.inj e).1
     exact absurd (this ▸ List.mem_cons_self ..) hw
 | x :: w, y :: v, A, B, hw, hv, hA, hB, e => by
   obtain ⟨e1, e2⟩ := List.cons.inj e
   obtain ⟨k1, k2⟩ := beg_uniq (fun z => hw (List.mem_cons_of_mem _ z)) (fun z => hv (List.mem_cons_of_mem _ z)) hA hB e2
   exact ⟨by rw [e1, k1], k2⟩
def tl (sep : List Nat) : List (List Nat) → List Nat
 | [] => []
 | y :: r => sep ++ jn sep (y :: r)
theorem jn_cons (sep w : List Nat) (r : List (List Nat)) : jn sep (w :: r) = w ++ tl sep r := by
 cases r with
 | nil => exact (List.append_nil w).symm
 | cons y r => rfl
theorem tl_beg (c : Nat) (s : List Nat) (r : List (List Nat)) : Beg c (tl (c :: s) r) := by
 cases r with
 | nil => exact .inl rfl
 | cons y r => exact .inr ⟨_, rfl⟩
theorem jn_uniq {c : Nat} {s : List Nat} : ∀ {ws vs : List (List Nat)}, ws ≠ [] → vs ≠ [] → (∀ w ∈ ws, c ∉ w) → (∀ v ∈ vs, c ∉ v) → jn (c :: s) ws = jn (c :: s) vs → ws = vs
 | [], vs, h, _, _, _, _ => absurd rfl h
 | w :: r, [], _, h, _, _, _ => absurd rfl h
 | w :: r, v :: q, _, _, hw, hv, e => by
   rw [jn_cons, jn_cons] at e
   obtain ⟨e1, e2⟩ := beg_uniq (hw w (List.mem_cons_self ..)) (hv v (List.mem_cons_self ..)) (tl_beg c s r) (tl_beg c s q) e
   cases r with
   | nil =>
     cases q with
     | nil => rw [e1]
     | cons y q => cases e2
   | cons x r =>
     cases q with
     | nil => cases e2
     | cons y q =>
       have e3 : jn (c :: s) (x :: r) = jn (c :: s) (y :: q) := List.append_cancel_left e2
       rw [e1, jn_uniq (by simp) (by simp) (fun z hz => hw z (List.mem_cons_of_mem _ hz)) (fun z hz => hv z (List.mem_cons_of_mem _ hz)) e3]
def AtL (xs sep : List Nat) (k : Nat) : Prop := k + sep.length ≤ xs.length ∧ (xs.drop k).take sep.length = sep
theorem AtL.shift {xs sep p : List Nat} {k : Nat} (h : AtL xs sep k) : AtL (p ++ xs) sep (p.length + k) := by
 refine ⟨by rw [List.length_append]; have := h.1; omega, ?_⟩
 rw [List.drop_append, List.drop_eq_nil_of_le (by omega), List.nil_append, show p.length + k - p.length = k by omega]
 exact h.2
theorem jn_at {c : Nat} {s : List Nat} (hs : c ∉ s) : ∀ {ws : List (List Nat)}, (∀ w ∈ ws, c ∉ w) → ∀ k, (jn (c :: s) ws)[k]? = some c → AtL (jn (c :: s) ws) (c :: s) k
 | [], _, k, h => by simp [jn] at h
 | w :: r, hw, k, h => by
   rw [jn_cons] at h ⊢
   by_cases h1 : k < w.length
   · rw [List.getElem?_append_left h1] at h
     exact absurd (List.mem_of_getElem? h) (hw w (List.mem_cons_self ..))
   · rw [List.getElem?_append_right (by omega)] at h
     obtain ⟨j, rfl⟩ : ∃ j, k = w.length + j := ⟨k - w.length, by omega⟩
     rw [show w.length + j - w.length = j by omega] at h
     refine AtL.shift ?_
     cases r with
     | nil => simp [tl] at h
     | cons y r =>
       have ht : tl (c :: s) (y :: r) = (c :: s) ++ jn (c :: s) (y :: r) := rfl
       rw [ht] at h ⊢
       by_cases h2 : j < (c :: s).length
       · rw [List.getElem?_append_left h2] at h
         cases j with
         | zero =>
           refine ⟨by rw [List.length_append]; omega, ?_⟩
           rw [List.drop_zero, List.take_append_of_le_length (Nat.le_refl _), List.take_length]
         | succ j => exact absurd (List.mem_of_getElem? (show s[j]? = some c from h)) hs
       · rw [List.getElem?_append_right (by omega)] at h
         obtain ⟨i, rfl⟩ : ∃ i, j = (c :: s).length + i := ⟨j - (c :: s).length, by omega⟩
         rw [show (c :: s).length + i - (c :: s).length = i by omega] at h
         exact AtL.shift (jn_at hs (fun z hz => hw z (List.mem_cons_of_mem _ hz)) i h)
theorem at_of {x y : PySem.Str} {k : Nat} (h : AtL x.cps.toList y.cps.toList k) : At x y x.length k := by
 refine ⟨?_, ?_⟩
 · have := h.1
   rw [Array.length_toList, Array.length_toList] at this
   exact this
 · rw [subAt_eq, show y.length = y.cps.toList.length by rw [Array.length_toList]; rfl, h.2]
   exact beq_self_eq_true _
theorem piece_free {x y : PySem.Str} {c : Nat} (hA : ∀ k, x.cps.toList[k]? = some c → At x y x.length k) {a b : Nat} (hn : ∀ k, a ≤ k → k < b → ¬ At x y x.length k) : c ∉ (strSub x a b).cps.toList := fun hm => by
 rw [strSub_toList] at hm
 obtain ⟨j, hj⟩ := List.getElem?_of_mem hm
 have hl : j < b - a := by
   have := (List.getElem?_eq_some_iff.mp hj).1
   rw [List.length_take] at this; omega
 rw [List.getElem?_take_of_lt hl, List.getElem?_drop] at hj
 exact hn (a + j) (by omega) (by omega) (hA _ hj)
theorem pieces_free {x y : PySem.Str} {c : Nat} (hA : ∀ k, x.cps.toList[k]? = some c → At x y x.length k) : ∀ (cuts : List Nat) (a f : Nat), ChainG x y x.length a cuts f → (∀ k, f ≤ k → ¬ At x y x.length k) → ∀ p ∈ partsFrom x y.length a cuts, c ∉ p.cps.toList
 | [], a, f, h, hn, p, hp => by
   have e : f = a := h
   subst e
   have e2 : p = strSub x f x.length := List.mem_singleton.mp hp
   rw [e2]
   exact piece_free hA fun k h1 _ => hn k h1
 | d :: r, a, f, h, hn, p, hp => by
   rcases List.mem_cons.mp hp with e2 | hp2
   · rw [e2]; exact piece_free hA h.2.2.1
   · exact pieces_free hA r _ f h.2.2.2 hn p hp2
theorem str_eq {a b : PySem.Str} (h : a.cps.toList = b.cps.toList) : a = b := by
 obtain ⟨a⟩ := a
 obtain ⟨b⟩ := b
 have e : a = b := Array.toList_inj.mp h
 rw [e]
theorem strKind_pos (x : PySem.Str) : 1 ≤ Builtin.Str.strKind x := by unfold Builtin.Str.strKind; split <;> (try split) <;> decide
theorem split_joined {sep : PySem.Str} {c : Nat} {s : List Nat} (hsep : sep.cps.toList = c :: s) (hs : c ∉ s) (hk : Builtin.Str.strKind sep = 1) {ws : List PySem.Str} (hne : ws ≠ []) (hw : ∀ w ∈ ws, c ∉ w.cps.toList) : Txt.split (PySem.Str.join sep ws) sep = ws := by
 have hlen : sep.length = s.length + 1 := by
   have : sep.cps.toList.length = s.length + 1 := by rw [hsep]; rfl
   rw [Array.length_toList] at this; exact this
 have hf : ∀ w ∈ ws.map (fun t => t.cps.toList), c ∉ w := fun w hm => by
   obtain ⟨t, ht, rfl⟩ := List.mem_map.mp hm
   exact hw t ht
 generalize hx : PySem.Str.join sep ws = x
 have hxl : x.cps.toList = jn (c :: s) (ws.map fun t => t.cps.toList) := by rw [← hx, join_toList, hsep]
 have hA : ∀ k, x.cps.toList[k]? = some c → At x sep x.length k := fun k h => by
   refine at_of ?_
   rw [hsep]
   rw [hxl] at h ⊢
   exact jn_at hs hf k h
 have free : ∀ p ∈ Txt.split x sep, c ∉ p.cps.toList := by
   obtain ⟨f, hG, hn⟩ := occ_tight x sep (by rw [hlen]; omega)
   have whole : (∀ k, ¬ At x sep x.length k) → c ∉ x.cps.toList := fun h hm => by
     obtain ⟨j, hj⟩ := List.getElem?_of_mem hm
     exact h j (hA j hj)
   unfold Txt.split
   split
   · rename_i hc
     intro p hp
     rw [List.mem_singleton.mp hp]
     refine whole fun k hk2 => ?_
     rw [Bool.or_eq_true, decide_eq_true_eq, decide_eq_true_eq] at hc
     rcases hc with h | h
     · have := hk2.1; omega
     · have := strKind_pos x; omega
   · split
     · rename_i hemp
       intro p hp
       rw [List.mem_singleton.mp hp]
       rw [List.isEmpty_iff.mp hemp] at hG
       have e : f = 0 := hG
       subst e
       exact whole fun k => hn k (Nat.zero_le _)
     · intro p hp
       rw [partsBetween_eq] at hp
       exact pieces_free hA _ 0 f hG hn p hp
 have hj := join_split x sep
 have hne2 : Txt.split x sep ≠ [] := fun z => by
   unfold Txt.split at z
   split at z
   · cases z
   · split at z
     · cases z
     · rw [partsBetween_eq] at z
       obtain ⟨p, r, e⟩ := partsFrom_ne x sep.length 0 (occurrences x sep 0 x.length (x.length + 1))
       rw [e] at z; cases z
 have e1 : jn (c :: s) ((Txt.split x sep).map fun t => t.cps.toList) = jn (c :: s) (ws.map fun t => t.cps.toList) := by
   rw [← hxl, ← hsep, ← join_toList, hj]
 have e2 := jn_uniq (by simpa using hne2) (by simpa using hne) (fun w hm => by obtain ⟨t, ht, rfl⟩ := List.mem_map.mp hm; exact free t ht) hf e1
 have inj : ∀ {a b : List PySem.Str}, a.map (fun t => t.cps.toList) = b.map (fun t => t.cps.toList) → a = b := by
   intro a
   induction a with
   | nil => intro b h; cases b with
     | nil => rfl
     | cons y r => cases h
   | cons x r ih => intro b h; cases b with
     | nil => cases h
     | cons y q =>
       obtain ⟨h1, h2⟩ := List.cons.inj h
       rw [str_eq h1, ih h2]
 exact inj e2
end L3
namespace L3
open PySem PySem.Spec PyProof.Rows L2 PySem.SeqAt
def Its (x : Str) : It := ⟨fun i _ => ∃ c, x.cps[i]? = some c, fun i H v H' => H' = H ∧ ∃ c, x.cps[i]? = some c ∧ v = .str ⟨#[c]⟩, fun i _ => x.cps[i]? = none⟩
theorem turn_strA {P : Program} {w : World} {K : PySem.W.Frag} {tg : Expr} (x : Str) (t : Tok) (it : Addr) : Turn P w K tg (Its x) [it] it (fun i h => h.IsStrIter it "str_ascii_iterator" x t i) where
 mem := by simp
 obj := fun i h st b hb => by
   have e : b = it := by simpa using hb
   subst e
   obtain ⟨o, e, c, d⟩ := st
   exact ⟨o, e, fun v z => by rw [d] at z; cases z⟩
 keep := fun i h h' st k => by
   obtain ⟨o, e, c, d⟩ := st
   exact ⟨o, k it (by simp) o e, c, d⟩
 item := by
   intro X hP hw hK hc i pins s σ H E I hf st hg
   subst hP hw hK
   obtain ⟨c, hx⟩ := hg
   obtain ⟨f0, f1, f2, f3, f4, f5⟩ := hf it (by simp)
   refine wpAny_pyNext_ascii_item st hx fun h' st' sb => ?_
   have I1 : Inv X pins σ H { s with heap := h', toks := s.toks + 1 } := I.turned (t' := s.toks + 1) (fun b o hb e => (sb.2 b hb).trans e) f0 f1 f3 f4 f5
   obtain ⟨o, e, cc, d⟩ := id st'
   exact ⟨_, rfl, go_of (s := { s with heap := h', toks := s.toks + 1 }) e cc d (by decide) ⟨.str ⟨#[c]⟩, H, I1, ⟨_, rfl⟩, ⟨rfl, c, hx, rfl⟩, st', fun b hb => (hf b hb).1⟩⟩
 done := by
   intro X hP hw hK hc i pins s σ H E I hf st hg
   subst hP hw hK
   obtain ⟨f0, f1, f2, f3, f4, f5⟩ := hf it (by simp)
   exact wpAny_pyNext_ascii_end (I.ok.hd hc) st hg fun h' eb => ⟨rfl, I.turned (t' := s.toks) (fun b o hb e => eb b o hb e) f0 f1 f3 f4 f5⟩
 self := fun _ _ _ _ _ st h => wpAny_pyIter_striter_ascii st h
theorem turn_strW {P : Program} {w : World} {K : PySem.W.Frag} {tg : Expr} (x : Str) (t : Tok) (it : Addr) : Turn P w K tg (Its x) [it] it (fun i h => h.IsStrIter it "str_iterator" x t i) where
 mem := by simp
 obj := fun i h st b hb => by
   have e : b = it := by simpa using hb
   subst e
   obtain ⟨o, e, c, d⟩ := st
   exact ⟨o, e, fun v z => by rw [d] at z; cases z⟩
 keep := fun i h h' st k => by
   obtain ⟨o, e, c, d⟩ := st
   exact ⟨o, k it (by simp) o e, c, d⟩
 item := by
   intro X hP hw hK hc i pins s σ H E I hf st hg
   subst hP hw hK
   obtain ⟨c, hx⟩ := hg
   obtain ⟨f0, f1, f2, f3, f4, f5⟩ := hf it (by simp)
   refine wpAny_pyNext_wide_item st hx fun h' st' sb => ?_
   have I1 : Inv X pins σ H { s with heap := h', toks := s.toks + 1 } := I.turned (t' := s.toks + 1) (fun b o hb e => (sb.2 b hb).trans e) f0 f1 f3 f4 f5
   obtain ⟨o, e, cc, d⟩ := id st'
   exact ⟨_, rfl, go_of (s := { s with heap := h', toks := s.toks + 1 }) e cc d (by decide) ⟨.str ⟨#[c]⟩, H, I1, ⟨_, rfl⟩, ⟨rfl, c, hx, rfl⟩, st', fun b hb => (hf b hb).1⟩⟩
 done := by
   intro X hP hw hK hc i pins s σ H E I hf st hg
   subst hP hw hK
   obtain ⟨f0, f1, f2, f3, f4, f5⟩ := hf it (by simp)
   exact wpAny_pyNext_wide_end (I.ok.hd hc) st hg fun h' eb => ⟨rfl, I.turned (t' := s.toks) (fun b o hb e => eb b o hb e) f0 f1 f3 f4 f5⟩
 self := fun _ _ _ _ _ st h => wpAny_pyIter_striter_wide st h
def iStr (tl : TE) : TI := fun σ H R => tl σ H fun v H1 => ∃ x, v = .str x ∧ R (Its x) H1
theorem r_iStr {tl : TE} {σ : L2.St} {H : Hp} {R : It → Hp → Prop} (q : tl σ H fun v H1 => ∃ x, v = .str x ∧ R (Its x) H1) : iStr tl σ H R := q
theorem pi_str {X : Cx} {tg l : Expr} {tl : TE} (hl : PE X l tl) : PI X tg l (iStr tl) := by
 intro pins s σ H R I h
 refine thn (hl pins s σ H _ I h) fun v s1 ⟨x0, H1, I1, r1, q1⟩ => ?_
 obtain ⟨x, e, q⟩ := q1
 subst e
 obtain ⟨tk, rfl⟩ := r1
 cases ha : x.cps.all (· < 128)
 · refine wpAny_pyIter_wide ha ?_
   refine ⟨s1.heap.objs.size, [s1.heap.objs.size], _, _, H1, rfl, I1.kept (t' := s1.toks) fun b o e => Heap.get?_push_of_some _ e, turn_strW x tk _, ⟨_, Heap.get?_push_size _ rfl, rfl, rfl⟩, fun b hb => ?_, q⟩
   have e : b = s1.heap.objs.size := by simpa using hb
   subst e
   exact I1.fpOk (Nat.le_refl _) (I1.hok.fresh (Nat.le_refl _))
 · refine wpAny_pyIter_ascii ha ?_
   refine ⟨s1.heap.objs.size, [s1.heap.objs.size], _, _, H1, rfl, I1.kept (t' := s1.toks) fun b o e => Heap.get?_push_of_some _ e, turn_strA x tk _, ⟨_, Heap.get?_push_size _ rfl, rfl, rfl⟩, fun b hb => ?_, q⟩
   have e : b = s1.heap.objs.size := by simpa using hb
   subst e
   exact I1.fpOk (Nat.le_refl _) (I1.hok.fresh (Nat.le_refl _))
end L3
namespace L3
open PySem PySem.Spec PyProof.Rows L2 PySem.SeqAt PySem.NumText
section
variable {g : TG} {tc : TT} {te : TE} {fin : List V → Hp → Prop} {H : Hp}
theorem comp_str {σ0 : L2.St} {x : PySem.Str} (Pv : Nat → List V → L2.St → Hp → Prop) (h0 : Pv 0 [] σ0 H) (hl : ∀ i ys σ H, i ≤ x.cps.toList.length → Pv i ys σ H → ys.length ≤ sizeLine)
   (hs : ∀ i c ys σ H, x.cps.toList[i]? = some c → Pv i ys σ H → g (.str ⟨#[c]⟩) σ H fun σ3 H3 => tc σ3 H3 fun b H4 => if b = true then te σ3 H4 fun y H5 => Pv (i + 1) (ys ++ [y]) σ3 H5 else Pv (i + 1) ys σ3 H4)
   (hd : ∀ ys σ H, Pv x.cps.toList.length ys σ H → fin ys H) : CompW (Its x) g tc te fin σ0 H := by
 refine ⟨fun i m ys σ H => m = x.cps.toList.length - i ∧ i ≤ x.cps.toList.length ∧ Pv i ys σ H, ⟨x.cps.toList.length, by simp, Nat.zero_le _, h0⟩, ?_⟩
 rintro i m ys σ H ⟨rfl, hi, p⟩
 by_cases hlt : i < x.cps.toList.length
 · refine .inr ⟨⟨x.cps.toList[i], by rw [← Array.getElem?_toList]; exact List.getElem?_eq_getElem hlt⟩, Pv (i + 1), fun ys2 σ2 H2 p' => ⟨hl (i + 1) ys2 σ2 H2 hlt p', x.cps.toList.length - (i + 1), by omega, rfl, hlt, p'⟩, fun v H2 y => ?_⟩
   obtain ⟨e, c, hc, rfl⟩ := y
   subst e
   exact hs i c ys σ _ (by rw [Array.getElem?_toList]; exact hc) p
 · have e : i = x.cps.toList.length := by omega
   subst e
   exact .inl ⟨by show x.cps[_]? = none; rw [← Array.getElem?_toList]; exact List.getElem?_eq_none (Nat.le_refl _), hl _ ys σ H hi p, hd ys σ H p⟩
end
def rInS : R2 := fun x y H Q => ∃ c j, x = .str ⟨#[c]⟩ ∧ y = .str j ∧ Q (.bl (decide (c ∈ j.cps.toList))) H
theorem op_inS {X : Cx} : OpR X (compareOp .In) rInS := by
 intro pins s σ H x y v u Q I rx ry h
 obtain ⟨c, j, rfl, rfl, q⟩ := h
 exact op_in_str pins s σ H _ _ v u Q I rx ry ⟨_, j, rfl, rfl, by rw [PySem.StrLaws.found_one]; exact q⟩
def numS (n : Int) : PySem.Str := PySem.Str.ofString (toString n)
theorem numS_signs (m : Nat) : (numS (m : Int)).cps.toList = (Nat.toDigits 10 m).map Char.toNat := PySem.W.KIN.signs_num m
theorem numS_digits {n : Int} (h0 : 0 ≤ n) : AllDigits (numS n).cps.toList := by
 obtain ⟨m, rfl⟩ := Int.eq_ofNat_of_zero_le h0
 intro c hc
 rw [numS_signs] at hc
 obtain ⟨ch, hch, e⟩ := List.mem_map.mp hc
 rw [← e]
 exact digit_range (Nat.isDigit_of_mem_toDigits (by decide) (by decide) hch)
theorem numS_ne {n : Int} (h0 : 0 ≤ n) : (numS n).cps.toList ≠ [] := by
 obtain ⟨m, rfl⟩ := Int.eq_ofNat_of_zero_le h0
 rw [numS_signs]
 intro e
 have h := PySem.toDigits_len_ge 10 m
 rw [List.map_eq_nil_iff.mp e] at h
 exact absurd h (by decide)
theorem numS_len {n : Int} (h0 : 0 ≤ n) (h1 : n < 10 ^ 10) : (numS n).length ≤ 10 := PySem.W.KT.len_num h0 h1
theorem numS_reads {n : Int} (h0 : 0 ≤ n) (h1 : n < 10 ^ 10) : PySem.intText? (numS n) = some n := PySem.W.KIN.num_reads h0 h1
theorem toDigits_head : ∀ (m : Nat), 0 < m → ∀ r, (Nat.toDigits 10 m).map Char.toNat ≠ 48 :: r := by
 intro m
 induction m using Nat.strongRecOn with
 | _ m ih =>
   intro hm r
   by_cases h : m < 10
   · rw [Nat.toDigits_of_lt_base h]
     intro e
     have e1 : (Nat.digitChar m).toNat = 48 := (List.cons.inj e).1
     have := PySem.W.KIN.digit_back m h
     omega
   · have hm : m % 10 < 10 := Nat.mod_lt m (by decide)
     have t : Nat.toDigits 10 (m / 10) ++ Nat.toDigits 10 (m % 10) = Nat.toDigits 10 (10 * (m / 10) + m % 10) := Nat.toDigits_append_toDigits (by decide) (by omega) hm
     rw [Nat.div_add_mod] at t
     rw [← t, List.map_append]
     have k := ih (m / 10) (by omega) (by omega)
     cases hh : (Nat.toDigits 10 (m / 10)).map Char.toNat with
     | nil =>
       have h := PySem.toDigits_len_ge 10 (m / 10)
       rw [List.map_eq_nil_iff.mp hh] at h
       exact absurd h (by decide)
     | cons c r' =>
       intro e
       have e1 : c = 48 := (List.cons.inj e).1
       rw [e1] at hh
       exact k r' hh
theorem numS_head {n : Int} (h0 : 0 ≤ n) {r : List Nat} (e : (numS n).cps.toList = 48 :: r) : n = 0 := by
 obtain ⟨m, rfl⟩ := Int.eq_ofNat_of_zero_le h0
 rw [numS_signs] at e
 by_cases hm : m = 0
 · rw [hm]; rfl
 · exact absurd e (toDigits_head m (by omega) r)
theorem numS_free {n : Int} {c : Nat} (h0 : 0 ≤ n) (hc : c < 48 ∨ 57 < c) : c ∉ (numS n).cps.toList := fun h => by
 have := numS_digits h0 c h
 omega
end L3
namespace HT
open PySem PyProof.Rows
section
variable {prog : Program} {w : World} {A : Around} {E : Value → Shared → Prop} {s : Shared}
theorem tuple_all {t sl : Addr} {its : Array Value} {vl vu : Value} {lo hi : Option Int} {Q : Value → Shared → Prop} (ht : IsTup s.heap t its) (hs : s.heap.IsSliceOf sl vl vu .none) (pl : IsPart vl lo) (pu : IsPart vu hi)
   (e1 : sIx its.size 0 lo = 0) (e2 : sIx its.size its.size hi = its.size) (h : Q (.ref t) s) : wpAny (model prog w) A (getItem (.ref t) (.ref sl)) Q E s := by
 have hT : s.TypeIs (.ref sl) "slice" := let ⟨os, a1, a2, _⟩ := hs; ⟨os, a1, a2⟩
 unfold getItem
 try with_reducible refine wpAny_holding ?_
 first | refine wpAny_bind (wpAny_pure ?_) | skip
 refine wpAny_bind (wpAny_sequenceKey ht.typeIs (by decide) ?_)
 refine wpAny_bind (wpAny_callSpecial?_slot (name := Str.ofString "__getitem__") ht.typeIs PyProof.Rows.slot_tuple_getitem (wpAny_call_entry PyProof.Rows.slot_tuple_getitem ht.typeIs entry_tuple_getitem ?_ (args_tuple_getitem _ _)))
 show wpAny _ _ (Builtin.Tuple.tupleItemsOf (.ref t) >>= _) _ _ s
 refine wpAny_bind (tupleItemsOf_ ht (wpAny_bind (wpAny_typeOf hT ?_)))
 rw [if_pos (by decide)]
 refine wpAny_bind (sliceApplied_gen hs pl pu ?_)
 rw [e1, e2]
 show wpAny _ _ (if (((0 : Nat) : Int) == 0 && (1 : Int) == 1 && (its.size - 0) == its.size) = true then _ else _) _ _ s
 rw [if_pos (by simp)]
 refine wpAny_bind (m := Builtin.Tuple.tupleIsExact _) (wpAny_bind (wpAny_typeOf ht.typeIs (wpAny_pure ?_)))
 rw [if_pos (by decide)]
 refine wpAny_bind (wpAny_rule ?_)
 exact wpAny_pure ⟨_, rfl, wpAny_pure h⟩
end
end HT
namespace L3
open PySem PySem.Spec PyProof.Rows L2 PySem.SeqAt
def rSlW (K : PySem.W.Frag) : V → Option Int → Option Int → Hp → VK → Prop := fun x lo hi H Q => ∃ a xs, x = .ref a ∧ SqT K H a xs ∧ HT.sIx xs.length 0 lo = 0 ∧ HT.sIx xs.length xs.length hi = xs.length ∧ Q (.ref a) H
theorem sl_all {X : Cx} : SlR X (rSlW X.K) := by
 intro pins s σ H x v vl vu lo hi sl Q I rx hs pl pu h
 obtain ⟨a, xs, rfl, hx, e1, e2, q⟩ := h
 cases rx
 obtain ⟨its, r, ht, hz⟩ := I.tuple hx
 have hlen : its.toArray.size = xs.length := by rw [List.size_toArray]; exact r.length.symm
 exact ⟨"tuple", _, PyProof.Rows.slot_tuple_getitem.lookup, ht.typeIs, HT.tuple_all ht hs pl pu (by rw [hlen]; exact e1) (by rw [hlen]; exact e2) ⟨.ref a, H, I, rfl, q⟩⟩
def rSlX (K : PySem.W.Frag) : V → Option Int → Option Int → Hp → VK → Prop := fun x lo hi H Q => rSlA K x lo hi H Q ∨ rSlW K x lo hi H Q
theorem sl_XK {X : Cx} {K : PySem.W.Frag} (h : X.K = K) : SlR X (rSlX K) := by subst h; exact sl_any.or sl_all
theorem cut_fromT (xs : List V) {k : Nat} (h : k ≤ xs.length) : cutV xs (some (k : Int)) none = xs.drop k := by
 unfold cutV
 rw [HT.sIx_nat, Nat.min_eq_left h]
 show (xs.drop k).take (xs.length - k) = _
 rw [List.take_of_length_le (by rw [List.length_drop]; omega)]
theorem cut_toT (xs : List V) {k : Nat} (h : k ≤ xs.length) : cutV xs none (some (k : Int)) = xs.take k := by
 unfold cutV
 rw [HT.sIx_nat, Nat.min_eq_left h]
 show (xs.drop 0).take (k - 0) = _
 rw [List.drop_zero, Nat.sub_zero]
theorem r_headT {K : PySem.W.Frag} {p : Addr} {xs : List V} {k : Nat} {H : Hp} {Q : VK} (h : SqT K H p xs) (hk : k ≤ xs.length) (q1 : k = xs.length → Q (.ref p) H) (q2 : ∀ l, H l = none → Q (.ref l) (upd H l (.tup (xs.take k)))) : rSlX K (.ref p) none (some (k : Int)) H Q := by
 by_cases e : k = xs.length
 · refine .inr ⟨p, xs, rfl, h, rfl, ?_, q1 e⟩
   rw [HT.sIx_nat, e, Nat.min_self]
 · refine .inl (r_slT h (fun z => e ?_) (fun l hl => ?_))
   · have := z.2
     rw [HT.sIx_nat, Nat.min_eq_left hk] at this
     exact this
   · rw [cut_toT xs hk]; exact q2 l hl
theorem r_tailT {K : PySem.W.Frag} {p : Addr} {xs : List V} {k : Nat} {H : Hp} {Q : VK} (h : SqT K H p xs) (hk : k ≤ xs.length) (h0 : 0 < k) (q : ∀ l, H l = none → Q (.ref l) (upd H l (.tup (xs.drop k)))) : rSlX K (.ref p) (some (k : Int)) none H Q := by
 refine .inl (r_slT h (fun z => ?_) (fun l hl => ?_))
 · have := z.1
   rw [HT.sIx_nat, Nat.min_eq_left hk] at this
   omega
 · rw [cut_fromT xs hk]; exact q l hl
end L3
namespace L3
open PySem PySem.Spec PyProof.Rows L2 PySem.SeqAt
section
variable {X : Cx} {CX : CXT} {k : Nat} {sp : Sp} {E : XK} {x : Str} {p pos : Pos} {e : Expr} {es : List Expr} {t : TA}
end
section
variable {P : Program} {w : World} {K : PySem.W.Frag} {mg : Str → Option Value} {base : Heap} {x qual : Str} {st : Stmt} {N ps : List Str} {sp : Sp}
end
end L3
namespace L3
open PySem PySem.Spec PyProof.Rows
section
variable {prog : Program} {w : World} {A : Around} {E : Value → Shared → Prop} {s : Shared}
end
section
variable {prog : Program} {w : World} {A : Around} {E : Value → Shared → Prop} {s : Shared}
end
end L3
namespace L3
open PySem PySem.Spec PyProof.Rows L2
end L3
namespace L3
open PySem PySem.Spec PyProof.Rows L2 PySem.SeqAt
theorem noteFrame_same {e : Value} {env env' : Env} (h : env.frame = env'.frame) : noteFrame e env = noteFrame e env' := by
 unfold noteFrame PySem.frameOf
 rw [h]
theorem leaves_anyW {M : Model} {A : Around} {E : Value → Shared → Prop} {s : Shared} {base : Heap} {env : Env} {outer : List Env} {L e : Addr} {cls a0 fl : Value} {Q : Unit → Shared → Prop}
   (hfr : A.frames = some (env :: outer)) (hf : env.frame = some L) (hkb : base.StaysIn s.heap) (hen : base.get? e = none) (hl : s.heap.FunFrames base (env :: outer)) (ht : s.heap.TracedAtW base e cls a0 fl)
   (hQ : ∀ h', Heap.FlyingW base outer e cls a0 h' → s.heap.UpToSlots h' → Q () { s with heap := h' }) : wpAny M A (leaving env (.ref e)) Q E s := by
 by_cases hfl : fl = rawInt L
 · subst hfl
   unfold leaving
   refine wpAny_bind (wpAny_noteFrame_againW hf ht ?_)
   refine wpAny_landsW (base := base) (l := env :: outer) ⟨hkb, hen, hl, ht⟩ fun h' hfl up => ?_
   obtain ⟨k1, k2, ⟨_, _, k3⟩, k4⟩ := hfl
   exact hQ h' ⟨k1, k2, k3, k4⟩ up
 · obtain ⟨oe, vs, T, oT, ts, he, ⟨hcls, h0⟩, hd, h1, hnT, hTe, hT, hdT, h3⟩ := ht
   subst hcls
   unfold leaving noteFrame
   simp only [hf]
   refine wpAny_bind (wpAny_bind (wpAny_field he hd h1 ?_))
   rw [if_pos (show (Value.ref T != Value.none) = true from by simp)]
   refine wpAny_bind (wpAny_field hT hdT h3 ?_)
   rw [if_neg (show ¬ ((fl == rawInt L) = true) from fun z => hfl (by simpa using z))]
   refine wpAny_bind (wpAny_setField hT hdT (Array.getElem?_eq_some_iff.mp h3).1 ?_)
   have other : ∀ b, b ≠ T → (s.heap.update T (Obj.mapFields (·.setIfInBounds 3 Value.none))).get? b = s.heap.get? b := fun b hb => Heap.get?_update_other _ _ (Ne.symm hb)
   have noRecord : ∀ b o, s.heap.get? b = some o → (∀ vs, o.data ≠ .fields vs) → b ≠ T := fun b o hb hnf q => by
     rw [q, hT] at hb; injection hb with hb; subst hb; exact hnf ts hdT
   refine wpAny_newEntryW hfr (hl.of_keeps fun b o hb hnf => ⟨o, (other b (noRecord b o hb hnf)).trans hb, rfl⟩) hf ((other e (Ne.symm hTe)).trans he)
     (fun b o hbo => (other b fun q => by rw [q, hnT] at hbo; cases hbo).trans (hkb b o hbo)) hen hd (Array.getElem?_eq_some_iff.mp h1).1 h0
     fun h' ⟨x1, ⟨_, _, x2⟩, x3, x4⟩ => hQ h' ⟨x1, hen, x2, x3⟩ fun b o hb hnf => x4 b o ((other b (noRecord b o hb hnf)).trans hb) hnf
theorem passOn_anyW {α : Type} {M : Model} {A : Around} {E : Value → Shared → Prop} {s : Shared} {base : Heap} {l : List Env} {env : Env} {e : Addr} {cls a0 fl : Value} {what : String} {Q : α → Shared → Prop}
   (hkb : base.StaysIn s.heap) (hl : s.heap.FunFrames base l) (ht : s.heap.TracedAtW base e cls a0 fl)
   (h : ∀ h' fl', base.StaysIn h' → h'.FunFrames base l → h'.TracedAtW base e cls a0 fl' → s.heap.UpToSlots h' → E (.ref e) { s with heap := h' }) : wpAny M A (PySem.passOn what (.ref e) env : Sem α) Q E s := by
 obtain ⟨oe, vs, T, oT, ts, he, hcls, hd, h1, hnT, hTe, hT, hdT, h3⟩ := ht
 have hsz3 : 3 < ts.size := (Array.getElem?_eq_some_iff.mp h3).1
 unfold PySem.passOn
 refine wpAny_bind (wpAny_field he hd h1 ?_)
 rw [if_neg (show ¬ ((Value.ref T == Value.none) = true) from by simp)]
 refine wpAny_bind ?_
 unfold setFlight
 refine wpAny_bind (wpAny_field he hd h1 ?_)
 rw [if_pos (show (Value.ref T != Value.none) = true from by simp)]
 have other : ∀ b, b ≠ T → (s.heap.update T (Obj.mapFields (·.setIfInBounds 3 (env.frame.elim Value.none fun f => rawInt f)))).get? b = s.heap.get? b := fun b hb => Heap.get?_update_other _ _ (Ne.symm hb)
 have noRecord : ∀ b o, s.heap.get? b = some o → (∀ vs, o.data ≠ .fields vs) → b ≠ T := fun b o hb hnf q => by
   rw [q, hT] at hb; injection hb with hb; subst hb; exact hnf ts hdT
 refine wpAny_setField hT hdT hsz3 (wpAny_throw (h _ (env.frame.elim .none fun f => rawInt f) ?_ ?_ ?_ ?_))
 · exact fun b o hbo => (other b fun q => by rw [q, hnT] at hbo; cases hbo).trans (hkb b o hbo)
 · exact hl.of_keeps fun b o hb hnf => ⟨o, (other b (noRecord b o hb hnf)).trans hb, rfl⟩
 · exact ⟨oe, vs, T, _, _, (other e (Ne.symm hTe)).trans he, hcls, hd, h1, hnT, hTe, Heap.get?_update_self _ hT (Obj.isFreed_of_fields (Obj.data_mapFields hdT _)), Obj.data_mapFields hdT _, by simp [hsz3]⟩
 · exact fun b o hb hn => ⟨o.slots, (other b (noRecord b o hb hn)).trans hb⟩
section
variable {X : Cx} {tg elt iter : Expr} {ifs : List Expr} {scope : Scope} {cl : List (Str × Addr)} {own : List Str} {fr : List (Str × Nat)} {wi : TI} {g : TG} {tc : TT} {te : TE} {pos : Pos} {E : XK}
def cxCompX (X : Cx) (E : XK) (scope : Scope) (cl : List (Str × Addr)) (own : List Str) (fr : List (Str × Nat)) (C : Addr) (s2 : Shared) (H2 : Hp) (fp : List Addr) : Cx :=
 { cxComp X scope cl own fr C s2 H2 fp with xe := fun e s' => ∃ pins σ H s, Inv (cxComp X scope cl own fr C s2 H2 fp) pins σ H s ∧ CXR X.prog X.w X.stack H s E e s' }
theorem pass_c {P : Program} {w : World} {C : Addr} {s2 : Shared} {H2 : Hp} {fp : List Addr} (h1 : X.prog = P := by rfl) (h2 : X.w = w := by rfl) : Passes (CXR P w) (cxCompX X E scope cl own fr C s2 H2 fp) E := by
 subst h1 h2
 intro pins σ H s e s' I h
 exact ⟨pins, σ, H, s, I.wish _, h⟩
theorem comp_throws {pins pinsY : List (Addr × Obj)} {σ σY : St} {H2 HY : Hp} {s2 sY s' : Shared} {C : Addr} {fp : List Addr} {e : Value} (I2 : Inv X pins σ H2 s2) (hst : X.stack = X.env :: X.outer) (hfr : X.env.frame = some X.env.locals) (hex : X.ex = [])
   (IY : Inv (cxComp X scope cl own fr C s2 H2 fp) pinsY σY HY sY) (hC : s2.heap.objs.size ≤ C) (hCs : C ∉ L2.frs X.stack) (f2 : ∀ b ∈ fp, FpOk X pins H2 b) (th : CXR X.prog X.w X.stack HY sY E e s')
   {XE : Value → Shared → Prop}
   (hx : ∀ e s'', wpAny (model X.prog X.w) X.A (leaving X.env e) (fun _ s3 => CXR X.prog X.w X.outer X.H₀ X.s₀ E e s3) (fun e' s3 => CXR X.prog X.w X.outer X.H₀ X.s₀ E e' s3) s'' → XE e s'') :
   notedBy (model X.prog X.w) X.A (compEnvC scope cl C X.env) (fun x s3 => ∃ m, s3.heap.Ns C m ∧ ∀ h', Heap.SameBut C s3.heap h' → ∀ cenv : Env, cenv.locals = C → wpAny (model X.prog X.w) X.A (PySem.passOn "comprehension.variables-let-go" x cenv : Sem Value) (fun _ _ => False) XE { s3 with heap := h' }) e s' := by
 obtain ⟨ea, C', H', rfl, ⟨os, bare, h0, l, a0, u, hok, hl, hn, fl, up⟩, q⟩ := th
 have J : Inv X pins σ HY sY := I2.call' (ch := fp) IY.os IY.base IY.hok IY.bare fun b hb => ⟨(f2 b hb).2.2.2.1, (f2 b hb).2.1, (f2 b hb).2.2.2.2.1, (f2 b hb).2.2.2.2.2⟩
 obtain ⟨m, hns, _⟩ := id IY.loc
 have hCY : HY C = none := IY.free
 have hClt : C < sY.heap.objs.size := IY.lt
 have hns0 : h0.Ns C m := by
   obtain ⟨o, es, ep, ho, r⟩ := hns
   exact ⟨o, es, ep, u.keep C o ho hCY hCs (by simp), r⟩
 have hCl : C ∉ l := fun hm => by
   rcases (hl C hm).2 with z | z
   · exact hCs z
   · exact absurd hClt (Nat.not_lt.mpr z)
 have hCH' : H' C = none := by
   obtain ⟨o, es, ep, ho, r⟩ := hns
   exact u.free C o ho hCY (by simp)
 have fl' : Heap.FlyingW (PySem.W.hideAll h0 l) (X.env :: X.outer) ea (.ref C') a0 s'.heap := by rw [← hst]; exact fl
 have hbC : ∃ o, (PySem.W.hideAll h0 l).get? C = some o := by
   obtain ⟨o, es, ep, ho, r⟩ := hns0
   exact ⟨o, PySem.W.hideAll_get _ ho hCl⟩
 unfold notedBy
 rw [noteFrame_same (env' := X.env) (by rfl)]
 refine wpAny_looks_onW (by rw [← hst]; exact J.ok.frames) hfr fl' fun h4 held4 up4 => ⟨m, (up.trans up4).ns hns0, fun h5 sb cenv _ => ?_⟩
 obtain ⟨k1, k2, k3, k4⟩ := held4
 -- without the block's own names
 have hbn : ∀ b o, (PySem.W.hideAll (PySem.W.hideAll h0 [C]) l).get? b = some o → b ≠ C ∧ (PySem.W.hideAll h0 l).get? b = some o := fun b o z => by
   have z1 := PySem.W.of_hideAll _ z
   have hbC' : b ≠ C := fun e => by
     rw [e, PySem.W.hideAll_none [C] (by simp)] at z1; cases z1
   have z2 := PySem.W.of_hideAll _ z1
   refine ⟨hbC', PySem.W.hideAll_get _ z2 fun hm => ?_⟩
   rw [PySem.W.hideAll_none _ hm] at z; cases z
 have hbnone : ∀ b, (PySem.W.hideAll h0 l).get? b = none → (PySem.W.hideAll (PySem.W.hideAll h0 [C]) l).get? b = none := fun b z => by
   cases z2 : (PySem.W.hideAll (PySem.W.hideAll h0 [C]) l).get? b with
   | none => rfl
   | some o => rw [(hbn b o z2).2] at z; cases z
 have neC : ∀ b, (PySem.W.hideAll h0 l).get? b = none → b ≠ C := fun b z e => by
   obtain ⟨o, ho⟩ := hbC
   rw [e, ho] at z; cases z
 have k1' : (PySem.W.hideAll (PySem.W.hideAll h0 [C]) l).StaysIn h5 := fun b o z => (sb.2 b (hbn b o z).1).trans (k1 b o (hbn b o z).2)
 have k3' : h5.FunFrames (PySem.W.hideAll (PySem.W.hideAll h0 [C]) l) (X.env :: X.outer) := by
   have gen : ∀ L : List Env, h4.FunFrames (PySem.W.hideAll h0 l) L → h5.FunFrames (PySem.W.hideAll (PySem.W.hideAll h0 [C]) l) L := by
     intro L
     induction L with
     | nil => intro _; trivial
     | cons en rest ih =>
       rintro ⟨z1, ⟨F, o, z2, z3, z4, z5⟩, z6⟩
       exact ⟨z1, ⟨F, o, z2, hbnone _ z3, (sb.2 F (neC F z3)).trans z4, z5⟩, ih z6⟩
   exact gen _ k3
 have k4' : h5.TracedAtW (PySem.W.hideAll (PySem.W.hideAll h0 [C]) l) ea (.ref C') a0 (rawInt X.env.locals) := by
   obtain ⟨oe, vs, T, oT, ts, he, hcls, hd, h1, hnT, hTe, hT, hdT, h3⟩ := k4
   exact ⟨oe, vs, T, oT, ts, (sb.2 ea (neC ea k2)).trans he, hcls, hd, h1, hbnone _ hnT, hTe, (sb.2 T (neC T hnT)).trans hT, hdT, h3⟩
 have up5 : (PySem.W.hideAll h0 [C]).UpToSlots h5 := fun b o z hnf => by
   have hb : b ≠ C := fun e => by rw [e, PySem.W.hideAll_none [C] (by simp)] at z; cases z
   obtain ⟨sl, z2⟩ := (up.trans up4) b o (PySem.W.of_hideAll _ z) hnf
   exact ⟨sl, (sb.2 b hb).trans z2⟩
 refine passOn_anyW (s := { s' with heap := h5 }) k1' k3' k4' fun h6 fl6 s1 s2' s3 up6 => hx _ _ ?_
 refine leaves_anyW (s := { s' with heap := h6 }) (by rw [← hst]; exact J.ok.frames) hfr s1 (hbnone _ k2) s2' s3 fun h7 fl7 up7 => ⟨ea, C', H', rfl, ⟨os.trans J.os, bare, PySem.W.hideAll h0 [C], l, a0, ?_, ?_, fun b hb => ⟨(hl b hb).1, ?_⟩, ?_, fl7, (up5.trans up6).trans up7⟩, q⟩
 · have J2 := J.call (h' := h0) (g' := s'.gens) (d' := s'.drawn) (t' := s'.toks) (ch := []) u hok bare (fun b z => absurd z (by simp))
   have bs := J2.base
   rw [hex] at bs
   have low : ∀ b o, X.s₀.heap.get? b = some o → b ≠ C := fun b o z e => absurd (Heap.lt_size z) (Nat.not_lt.mpr (by rw [e]; exact Nat.le_trans I2.sz hC))
   have hid : ∀ b o o', X.s₀.heap.get? b = some o' → h0.get? b = some o → (PySem.W.hideAll h0 [C]).get? b = some o := fun b o o' z1 z2 => PySem.W.hideAll_get _ z2 (by simpa using low b o' z1)
   refine ⟨fun b o z n hb hx => hid b _ _ z (bs.keep b o z n hb hx), fun b o z n hb hx => ?_, bs.free, fun b o z hx => ?_, bs.tups, bs.frzs, bs.tbls⟩
   · obtain ⟨sl, z2⟩ := bs.slot b o z n hb hx
     exact ⟨sl, hid b _ _ z z2⟩
   · obtain ⟨o', z2⟩ := bs.there b o z hx
     exact ⟨o', hid b _ _ z z2⟩
 · intro b o z
   refine (hok b o z).stay (fun c w' hc q' => PySem.W.hideAll_get _ q' fun hm => ?_) (fun _ q' => q') fun _ _ q' => q'
   have e : c = C := by simpa using hm
   subst e
   rcases hc with rfl | hc
   · rw [z] at hCH'; cases hCH'
   · rw [hc] at hCH'; cases hCH'
 · rcases (hl b hb).2 with z | z
   · rw [hst] at z
     have e1 : L2.frs (X.env :: X.outer) = X.env.locals :: L2.frs X.outer := by unfold L2.frs; rw [List.filterMap_cons, hfr]
     rw [e1] at z
     rcases List.mem_cons.mp z with rfl | z
     · exact .inr I2.ok.above
     · exact .inl z
   · exact .inr (Nat.le_trans J.sz z)
 · cases z : (PySem.W.hideAll h0 [C]).get? ea with
   | none => rfl
   | some o => rw [PySem.W.of_hideAll _ z] at hn; cases hn
end
end L3
namespace L3
open PySem PySem.Spec PyProof.Rows L2 PySem.SeqAt
section
variable {X : Cx} {tg elt iter : Expr} {ifs : List Expr} {scope : Scope} {cl : List (Str × Addr)} {own : List Str} {fr : List (Str × Nat)} {wi : TI} {g : TG} {tc : TT} {te : TE} {pos : Pos} {E : XK}
theorem comp_coreX (hst : X.stack = X.env :: X.outer) (hfr : X.env.frame = some X.env.locals) (hex : X.ex = []) (hx : ∀ e s'', wpAny (model X.prog X.w) X.A (leaving X.env e) (fun _ s3 => CXR X.prog X.w X.outer X.H₀ X.s₀ E e s3) (fun e' s3 => CXR X.prog X.w X.outer X.H₀ X.s₀ E e' s3) s'' → X.xe e s'') (hc : X.calm = true) (S : CompSc X scope cl own fr) (hi : PI X tg iter wi) (hg : ∀ C s2 H2 fp, PG (cxCompX X E scope cl own fr C s2 H2 fp) tg g)
   (ht : ∀ C s2 H2 fp, PTs (cxCompX X E scope cl own fr C s2 H2 fp) ifs tc) (he : ∀ C s2 H2 fp, PE (cxCompX X E scope cl own fr C s2 H2 fp) elt te)
   {pins : List (Addr × Obj)} {s : Shared} {σ : St} {H : Hp} {fin : List V → Hp → Prop} (I : Inv X pins σ H s) (h : tComp own fr wi g tc te fin σ H)
   {RR : Value → Addr → Result → Shared → Prop}
   (hR : ∀ (D C : Addr) (s4 : Shared) (H3 : Hp) (ys : List V) (m : Str → Option Value), H3 D = none → Inv X pins σ (upd H3 D (.lst ys)) s4 → s4.heap.Ns C m → Off X pins (upd H3 D (.lst ys)) C → fin ys H3 → RR (.ref D) C (.ok .next) s4)
   (hE : ∀ (D C : Addr) (e : Value) (s4 : Shared), (∃ m, s4.heap.Ns C m ∧ ∀ h', Heap.SameBut C s4.heap h' → ∀ cenv : Env, cenv.locals = C → wpAny (model X.prog X.w) X.A (PySem.passOn "comprehension.variables-let-go" e cenv : Sem Value) (fun _ _ => False) X.xe { s4 with heap := h' }) → RR (.ref D) C (.error e) s4) :
   wpAny (model X.prog X.w) X.A (eval iter X.env) (fun x s1 => wpAny (model X.prog X.w) X.A (pyIter x) (fun itv s2 => wpAny (model X.prog X.w) X.A (newList []) (fun acc s3 =>
     wpAny (model X.prog X.w) X.A (newFunctionEnv scope X.env.globals cl [] X.env.qual none .none (some X.env)) (fun cenv s4 =>
       codeAny (model X.prog X.w) X.A (.compStart (.ListComp elt [⟨tg, iter, ifs, 0⟩] scope pos) 0 itv acc { cenv with scope := relabel scope X.env }) (RR acc cenv.locals) s4) X.xe s3) X.xe s2) X.xe s1) X.xe s := by
 refine thn (hi pins s σ H _ I h) fun v s1 h1 => thn h1 fun itv s2 h2 => ?_
 obtain ⟨it, fp, tn, J, H2, rfl, I2, T, st2, f2, W, ⟨m0, w0⟩, turn⟩ := h2
 refine wpAny_newObj_type (wpAny_newFunctionEnv S.nocell (by intro y hy; simp at hy) (fun h1 hns1 hsb1 => ?_) S.kind)
 dsimp only at hns1 hsb1 ⊢
 generalize hHP : s2.heap.push { cls := .type "list", dict := none, data := .seq ([] : List Value).toArray } = HP at hns1 hsb1 ⊢
 have hC : HP.objs.size = s2.heap.objs.size + 1 := by rw [← hHP, Heap.size_push]
 have hDC : s2.heap.objs.size ≠ HP.objs.size := by rw [hC]; exact Nat.ne_of_lt (Nat.lt_succ_self _)
 have below : ∀ b, b < s2.heap.objs.size → b ≠ HP.objs.size ∧ b ≠ s2.heap.objs.size := fun b hb => ⟨by rw [hC]; exact Nat.ne_of_lt (Nat.lt_succ_of_lt hb), Nat.ne_of_lt hb⟩
 have old : ∀ b o, s2.heap.get? b = some o → h1.get? b = some o := fun b o e => hsb1.extBut b o (below b (Heap.lt_size e)).1 (Heap.get?_push_of_some _ (hHP ▸ Heap.get?_push_of_some _ e))
 have hacc : h1.get? s2.heap.objs.size = some (lstO []) := hsb1.extBut _ _ hDC (Heap.get?_push_of_some _ (hHP ▸ Heap.get?_push_size _ rfl))
 have hfpo : ∀ b ∈ fp, b < s2.heap.objs.size := fun b hb => by obtain ⟨o, e, _⟩ := T.obj 0 _ st2 b hb; exact Heap.lt_size e
 have hcells : ∀ x c, cl.lookup x = some c → X.env.cells.lookup x = some c := fun x c e => S.cells.get e
 have hcD : ∀ x c, X.env.cells.lookup x = some c → c < s2.heap.objs.size := fun x c e => by obtain ⟨v, q⟩ := I2.cell x c e; exact q.lt
 have st1 : tn 0 h1 := T.keep _ _ _ st2 fun b _ o e => old b o e
 have hDfree : H2 s2.heap.objs.size = none := I2.hok.fresh (Nat.le_refl _)
 have hCfree : H2 HP.objs.size = none := I2.hok.fresh (by rw [hC]; exact Nat.le_succ _)
 have nostk : ∀ b, s2.heap.objs.size ≤ b → b ∉ L2.frs X.stack := fun b hb hm => by
   rcases List.mem_cons.mp (I2.stkSub b hm) with e | e
   · exact absurd I2.lt (by rw [← e]; exact Nat.not_lt.mpr hb)
   · exact I2.nofs hb e
 have hDlt : s2.heap.objs.size < h1.objs.size := Heap.lt_size hacc
 -- the block's context
 have YOk : (cxCompX X E scope cl own fr HP.objs.size s2 H2 fp).Ok := by
   refine ⟨I2.ok.mod, S.kind, I2.ok.glob, I2.ok.blt, ?_, fun x y c e1 e2 => I2.ok.inj x y c (hcells _ _ e1) (hcells _ _ e2), fun x hx => ?_, fun x c hf => ?_, I2.ok.hd, I2.ok.frames, .inl rfl, fun b hb => ⟨?_, fun x c e => ?_⟩,
     I2.bs, Nat.le_trans I2.ok.bsz I2.sz, fun b o e hb => ?_, fun b hb hm => ?_, I2.stack, I2.stkFree⟩
   · show s2.heap.objs.size ≤ HP.objs.size
     rw [hC]; exact Nat.le_succ _
   · exact lookup_relabel_has (env := X.env) S.nocell S.has hx
   · cases hf
   · exact (below b (hfpo b hb)).1
   · exact (f2 b hb).2.2.2.2.1 x c (hcells _ _ e)
   · rcases (f2 b hb).2.2.2.1 with z | z
     · exact I2.ok.noex b o e z
     · exact absurd (Heap.lt_size (I2.ok.bs b o e).1) (Nat.not_lt.mpr z)
   · rcases List.mem_cons.mp (I2.stkSub b hm) with e | e
     · exact (f2 b hb).2.1 e
     · exact (f2 b hb).2.2.1 e
 have hpinD : ∀ {h' : Heap} {its : List Value} {H' : Hp}, h'.get? s2.heap.objs.size = some (lstO its) → H' s2.heap.objs.size = none → ∀ p ∈ ([(s2.heap.objs.size, lstO its)] : List (Addr × Obj)),
     h'.get? p.1 = some p.2 ∧ H' p.1 = none ∧ p.1 ≠ HP.objs.size ∧ p.1 ∉ L2.frs X.stack ∧ ∀ v, p.2.data ≠ .cell v := fun {h' its H'} e n p hp => by
   have e1 : p = (s2.heap.objs.size, lstO its) := by simpa using hp
   subst e1
   exact ⟨e, n, hDC, nostk _ (Nat.le_refl _), fun v z => by cases z⟩
 have IY : Inv (cxCompX X E scope cl own fr HP.objs.size s2 H2 fp) [(s2.heap.objs.size, lstO [])] (innerS own fr σ) H2 { s2 with heap := h1, toks := s2.toks + ([] : List (Str × Value)).length } := by
   refine ⟨YOk, rfl, I2.bare, Un.kept old, ⟨_, hns1, fun i x v e1 e2 e3 => ?_⟩, fun x c e => ?_, hCfree, fun x c e => I2.freeC x c (hcells _ _ e), hpinD hacc hDfree, I2.hok.kept old, ?_⟩
   · have e1' : (own ++ fr.map (·.1))[i]? = some x := e1
     have e2' : (own.map (fun _ => (none : Option V)) ++ fr.map fun p => (σ[p.2]?).join)[i]? = some (some v) := e2
     by_cases hi' : i < own.length
     · rw [List.getElem?_append_left (by simpa using hi'), List.getElem?_map] at e2'
       rw [List.getElem?_eq_getElem hi'] at e2'
       cases e2'
     · rw [List.getElem?_append_right (by simpa using hi'), List.getElem?_map] at e2'
       rw [List.getElem?_append_right (Nat.not_lt.mp hi'), List.getElem?_map] at e1'
       rw [List.length_map] at e2'
       cases ef : fr[i - own.length]? with
       | none => rw [ef] at e1'; cases e1'
       | some p =>
         rw [ef] at e1' e2'
         have ex : p.1 = x := Option.some.inj e1'
         have ev : (σ[p.2]?).join = some v := Option.some.inj e2'
         obtain ⟨hN, hk, hk2, hs⟩ := S.frs.get ef
         have eσ : σ[p.2]? = some (some v) := by
           cases q : σ[p.2]? with
           | none => rw [q] at ev; cases ev
           | some o => rw [q] at ev; exact congrArg some ev
         obtain ⟨m, hn, hl⟩ := I2.loc
         obtain ⟨u, r, l⟩ := hl p.2 p.1 v hN eσ (by rcases hk with k | k; exact .inr (.inl k); exact .inr (.inr k))
         subst ex
         obtain ⟨c, ec⟩ := Option.isSome_iff_exists.mp hs
         refine ⟨u, r, .inr ⟨hk2, c, ec, ?_⟩⟩
         rcases l with ⟨hl1, _⟩ | ⟨_, c', ec', z⟩
         · have hl1' : X.env.scope.names.lookup p.1 = some .local := hl1
           rcases hk with z | z
           · rw [z] at hl1'; cases hl1'
           · rw [z] at hl1'; cases hl1'
         · have := hcells _ _ ec
           rw [ec'] at this
           cases this
           exact z.keeps old
   · obtain ⟨v, z⟩ := I2.cell x c (hcells _ _ e)
     exact ⟨v, z.keeps old⟩
   · show (own.map (fun _ => (none : Option V)) ++ fr.map fun p => (σ[p.2]?).join).length = (own ++ fr.map (·.1)).length
     simp
 have stat : ∀ {its : List Value} {H' : Hp}, (∀ b ∈ fp, H' b = none) → ∀ b ∈ fp, FpOk (cxCompX X E scope cl own fr HP.objs.size s2 H2 fp) [(s2.heap.objs.size, lstO its)] H' b := fun {its H'} hn b hb =>
   ⟨hn b hb, (below b (hfpo b hb)).1, fun hm => by
       rcases List.mem_cons.mp (I2.stkSub b hm) with e | e
       · exact (f2 b hb).2.1 e
       · exact (f2 b hb).2.2.1 e, .inl hb, fun x c e => (f2 b hb).2.2.2.2.1 x c (hcells _ _ e), fun p hp => by
       have e1 : p = (s2.heap.objs.size, lstO its) := by
         have hp' : p ∈ ([] : List (Addr × Obj)) ++ [(s2.heap.objs.size, lstO its)] := hp
         simpa using hp'
       subst e1
       exact (below b (hfpo b hb)).2.symm⟩
 have loop : ∀ s3 : Shared, s3 = { s2 with heap := h1, toks := s2.toks + ([] : List (Str × Value)).length } →
     codeAny (model X.prog X.w) X.A (.compLoop (.ListComp elt [⟨tg, iter, ifs, 0⟩] scope pos) 0 (.ref it) (.ref s2.heap.objs.size) (compEnvC scope cl HP.objs.size X.env)) (RR (.ref s2.heap.objs.size) HP.objs.size) s3 := by
   rintro s3 rfl
   refine compLoop_go (fun n s' => ∃ i ys its σ' H', Inv (cxCompX X E scope cl own fr HP.objs.size s2 H2 fp) [(s2.heap.objs.size, lstO its)] σ' H' s' ∧ Vals ys its ∧ tn i s'.heap ∧ (∀ b ∈ fp, H' b = none) ∧ W i n ys σ' H') ?_ m0
     ⟨0, [], [], innerS own fr σ, H2, IY, .nil, st1, fun b hb => (f2 b hb).1, w0⟩
   have thr : ∀ e s', (cxCompX X E scope cl own fr HP.objs.size s2 H2 fp).xe e s' → notedBy (model X.prog X.w) X.A (compEnvC scope cl HP.objs.size X.env) (fun e s' => RR (.ref s2.heap.objs.size) HP.objs.size (.error e) s') e s' := by
     rintro e s' ⟨pinsY, σY, HY, sY, IY', th⟩
     have z := comp_throws (XE := X.xe) I2 hst hfr hex IY' (by rw [hC]; exact Nat.le_succ _) (nostk _ (by rw [hC]; exact Nat.le_succ _)) f2 th hx
     unfold notedBy at z ⊢
     exact wpAny_mono z (fun _ s3 h3 => hE _ _ _ _ h3) fun e3 s3 h3 => hE _ _ _ _ h3
   rintro n s3 ⟨i, ys, its, σ3, H3, I3, rv, st3, fr3, w3⟩
   rcases turn i n ys σ3 H3 w3 with ⟨stop, hz, qn⟩ | ⟨go, N, hN, step⟩
   · refine wpAny_mono (T.done (cxCompX X E scope cl own fr HP.objs.size s2 H2 fp) rfl rfl rfl hc i _ s3 σ3 H3 (fun _ _ => False) I3 (stat fr3) st3 stop) (fun r s4 h4 => ?_) fun _ _ f => f.elim
     obtain ⟨hr, I4⟩ := h4
     subst hr
     obtain ⟨eD, nD, _⟩ := I4.pin (s2.heap.objs.size, lstO its) (by simp [cxCompX, cxComp])
     obtain ⟨m, hn, _⟩ := id I4.loc
     have nC : H3 HP.objs.size = none := I4.free
     have bu := I4.base
     have J4 : Inv X pins σ (upd H3 s2.heap.objs.size (.lst ys)) s4 := by
       refine I2.call' (ch := fp) I4.os ⟨fun b o e n hb hx => bu.keep b o e n hb hx, fun b o e n hb hx => bu.slot b o e n hb hx, fun b o e n hx => ?_, fun b o e hx => bu.there b o e hx, fun b xs e => ?_, fun b o u e => ?_, fun b ps e => ?_⟩ ?_ I4.bare ?_
       · rw [upd_ne (below b (Heap.lt_size e)).2]; exact bu.free b o e n hx
       · have z := bu.tups b xs e
         rw [upd_ne (ne_of_none z nD)]; exact z
       · have z := bu.frzs b o u e
         rw [upd_ne (ne_of_none z nD)]; exact z
       · obtain ⟨more, z⟩ := bu.tbls b ps e
         exact ⟨more, by rw [upd_ne (ne_of_none z nD)]; exact z⟩
       · intro b o e
         by_cases hb : b = s2.heap.objs.size
         · subst hb
           rw [upd_same] at e
           cases e
           exact ⟨hz, its, its.length, rv, eD⟩
         · rw [upd_ne hb] at e
           exact (I4.hok b o e).stay (fun c u _ q => q) (fun c q => by rw [upd_ne (ne_of_none q nD)]; exact q) fun c xs q => by rw [upd_ne (ne_of_none q nD)]; exact q
       · intro b hb
         exact ⟨(f2 b hb).2.2.2.1, (f2 b hb).2.1, (f2 b hb).2.2.2.2.1, (f2 b hb).2.2.2.2.2⟩
     refine hR _ _ s4 H3 ys m nD J4 hn ⟨?_, ?_, ?_, ?_, ?_⟩ qn
     · rw [upd_ne hDC.symm]; exact nC
     · exact Nat.ne_of_gt (Nat.lt_of_lt_of_le I2.lt (by rw [hC]; exact Nat.le_succ _))
     · exact Nat.le_trans I2.sz (by rw [hC]; exact Nat.le_succ _)
     · exact fun x c e => (below c (hcD x c e)).1
     · exact fun p hp => (below p.1 (Heap.lt_size (I2.pin p hp).1)).1
   · refine wpAny_mono (T.item (cxCompX X E scope cl own fr HP.objs.size s2 H2 fp) rfl rfl rfl hc i _ s3 σ3 H3 (fun _ _ => False) I3 (stat fr3) st3 go) (fun r s4 h4 => ?_) fun _ _ f => f.elim
     obtain ⟨u, hr, h4⟩ := h4
     subst hr
     refine wpAny_mono h4 (fun _ s5 h5 => ?_) fun _ _ f => f.elim
     obtain ⟨x, H5, I5, r5, y5, st5, fr5⟩ := h5
     have I5' := I5.pinned (stat fr5) (T.obj _ _ st5)
     refine wpAny_mono (hg _ _ _ _ _ s5 σ3 H5 x u _ I5' r5 (step x H5 y5)) (fun _ s6 h6 => ?_) thr
     obtain ⟨σ6, H6, I6, q6⟩ := h6
     refine wpAny_mono (ht _ _ _ _ _ s6 σ6 H6 _ I6 q6) (fun ok s7 h7 => ?_) thr
     obtain ⟨H7, I7, q7⟩ := h7
     have keepT : ∀ {σ8 : St} {H8 : Hp} {s8 : Shared} {l : List (Addr × Obj)}, Inv (cxCompX X E scope cl own fr HP.objs.size s2 H2 fp) (l ++ pinsAt fp s5.heap) σ8 H8 s8 → tn (i + 1) s8.heap ∧ ∀ b ∈ fp, H8 b = none := fun {σ8 H8 s8 l} I8 => by
       refine ⟨T.keep _ _ _ st5 fun b hb o e => (I8.pin (b, o) (List.mem_append_right _ (List.mem_append_right _ (mem_pinsAt hb e)))).1, fun b hb => ?_⟩
       obtain ⟨o, e, _⟩ := T.obj _ _ st5 b hb
       exact (I8.pin (b, o) (List.mem_append_right _ (List.mem_append_right _ (mem_pinsAt hb e)))).2.1
     cases ok with
     | false =>
       rw [if_neg Bool.false_ne_true] at q7 ⊢
       obtain ⟨_, m', hm, w7⟩ := hN _ _ _ q7
       exact ⟨m', hm, i + 1, ys, its, σ6, H7, I7.unpinned, rv, (keepT I7).1, (keepT I7).2, w7⟩
     | true =>
       rw [if_pos rfl] at q7 ⊢
       refine wpAny_mono (he _ _ _ _ _ s7 σ6 H7 _ I7 q7) (fun y s8 h8 => ?_) thr
       obtain ⟨yv, H8, I8, r8, n8⟩ := h8
       obtain ⟨hlt', m', hm, w8⟩ := hN _ _ _ n8
       have hlt : ys.length < sizeLine := by rw [List.length_append] at hlt'; exact hlt'
       obtain ⟨eD, nD, nL, _, _⟩ := I8.pin (s2.heap.objs.size, lstO its) (by simp [cxCompX, cxComp])
       refine append_at (its := its.toArray) (n := its.length) (hsz := by rw [List.size_toArray, ← rv.length]; exact Nat.le_of_lt hlt) eD fun h9 sb9 eD9 => ?_
       have I8p : Inv (cxCompX X E scope cl own fr HP.objs.size s2 H2 fp) (pinsAt fp s5.heap) σ6 H8 s8 := I8.pins_of fun p hp => I8.pin p (List.mem_append_right _ (List.mem_append_right _ hp))
       have I9p : Inv (cxCompX X E scope cl own fr HP.objs.size s2 H2 fp) (pinsAt fp s5.heap) σ6 H8 { s8 with heap := h9 } :=
         I8p.turned (t' := s8.toks) (fun b o hb e => (sb9.2 b hb).trans e) nD nL (.inr (Nat.le_refl _)) (fun x c e => (below c (hcD x c (hcells _ _ e))).2) fun p hp => by
           have hp' : p ∈ pinsAt fp s5.heap := by simpa [cxCompX, cxComp] using hp
           exact (below p.1 (hfpo _ (of_pinsAt hp').1)).2
       have eD9' : h9.get? s2.heap.objs.size = some (lstO (its ++ [y])) := eD9.trans (congrArg some (lstO_snoc its y))
       have I9 : Inv (cxCompX X E scope cl own fr HP.objs.size s2 H2 fp) [(s2.heap.objs.size, lstO (its ++ [y]))] σ6 H8 { s8 with heap := h9 } := I9p.pins_of (hpinD eD9' nD)
       have K9 := keepT (l := []) (by simpa using I9p)
       exact ⟨m', hm, i + 1, ys ++ [yv], its ++ [y], σ6, H8, I9, rv.append (.cons r8 .nil), K9.1, K9.2, w8⟩
 exact codeAny_compStart_list (loop _ rfl) (T.self _ 0 _ _ _ st1 (loop _ rfl))
theorem pe_compX (hst : X.stack = X.env :: X.outer) (hfr : X.env.frame = some X.env.locals) (hex : X.ex = []) (hx : ∀ e s'', wpAny (model X.prog X.w) X.A (leaving X.env e) (fun _ s3 => CXR X.prog X.w X.outer X.H₀ X.s₀ E e s3) (fun e' s3 => CXR X.prog X.w X.outer X.H₀ X.s₀ E e' s3) s'' → X.xe e s'') (hc : X.calm = true) (S : CompSc X scope cl own fr) (hi : PI X tg iter wi) (hg : ∀ C s2 H2 fp, PG (cxCompX X E scope cl own fr C s2 H2 fp) tg g)
   (ht : ∀ C s2 H2 fp, PTs (cxCompX X E scope cl own fr C s2 H2 fp) ifs tc) (he : ∀ C s2 H2 fp, PE (cxCompX X E scope cl own fr C s2 H2 fp) elt te)
   (hs : ∀ x, foldedSetIterable iter X.env x = pure x := by intro _; rfl) : PE X (.ListComp elt [⟨tg, iter, ifs, 0⟩] scope pos) (tCompE own fr wi g tc te) := by
 intro pins s σ H Q I h
 rw [eval_ListComp]
 refine wpAny_comprehension_free (use := none) rfl hs S.clos S.kind S.names ?_
 refine comp_coreX hst hfr hex hx hc S hi hg ht he I h (fun D C s4 H3 ys m nD J hn off q => ?_) (fun D C e s4 z => z)
 refine ⟨m, hn, fun h' sb => ⟨.ref D, _, J.turned (t' := s4.toks) (fun b o hb e => (sb.2 b hb).trans e) off.none off.loc (.inr off.above) off.cell off.pin, rfl, q D nD⟩⟩
end
end L3
namespace L3
open PySem PySem.Spec PyProof.Rows L2 PySem.SeqAt
section
variable {X : Cx} {tg elt iter : Expr} {ifs : List Expr} {scope : Scope} {cl : List (Str × Addr)} {own : List Str} {fr : List (Str × Nat)} {wi : TI} {g : TG} {tc : TT} {te : TE} {pos : Pos} {E : XK}
end
end L3
namespace L3
open PySem PySem.Spec PyProof.Rows L2 PySem.SeqAt
section
variable {X : Cx} {k km : Nat} {x gn m : Str} {sp : Sp} {e : Expr} {es : List Expr} {t : TA} {gp cpos apos mpos pos py : Pos}
end
section
variable {X : Cx} {tg elt : Expr} {ifs : List Expr} {scope : Scope} {cl : List (Str × Addr)} {own : List Str} {fr : List (Str × Nat)} {g : TG} {tc : TT} {te : TE} {pos : Pos} {k : Nat} {gn : Str} {sp : Sp} {e : Expr} {es : List Expr} {t : TA} {gp cpos : Pos}
end
section
variable {M : Model} {A : Around} {E : Value → Shared → Prop}
variable {nm q : Str} {D N : Addr} {bs bm : List Value} {hdct : Bool} {sn : List Str} {sub : List Value} {ab : Bool} {col : Option Bool} {dd : Option Addr} {k0 k1 k2 k3 k5 : Option Value} {newId : String}
theorem excMatches_b {K : PySem.W.Frag} {h : Heap} {g : Array GenState} {d : Drawn} {t : Nat} {os : OsState} {e C : Addr} {oe : Obj} {Q : Bool → Shared → Prop} {b : Bool} (X : K.In h)
   (hD : h.get? D = some (excClassObj nm q D N bs bm hdct sn sub ab col dd k0 k1 k2 k3 k5 newId)) (hbase : bm.contains (.type "BaseException") = true) (he : h.get? e = some oe) (hcls : oe.cls = .ref C) (hup : PySem.W.mroIn K C (.ref D) = some b)
   (hq : Q b ⟨h, g, d, t, os⟩) : wpAny M A (excMatches (.ref e) (.ref D)) Q E ⟨h, g, d, t, os⟩ := by
 have hcB : (Value.ref D :: bm).contains (.type "BaseException") = true := by rw [List.contains_cons, hbase, Bool.or_true]
 have f := tc_notTuple
 unfold excMatches
 cases b
 all_goals repeat (first | (with_reducible refine wpAny_loadPart_at he ?_; rw [hcls]) | with_reducible refine wpAny_loadPart_at hD ?_ | (with_reducible refine (PySem.W.looks_mroIn X hup).at ?_) | (with_reducible refine wpAny_isSubtype_exc hD ?_; rw [hcB]) | wp_step)
 all_goals exact hq
end
section
variable {X : Cx} {pins : List (Addr × Obj)} {σ : St} {H H1 H' : Hp} {s s1 s' : Shared} {ea C : Addr}
def thEnds (D : Ends) (i : Nat) : Ends := { nx := fun σ' H' => D.nx (σ'.set i none) H', rt := fun _ _ => False }
theorem catch_here {x n : Str} {np hpos : Pos} {b0 : Stmt} {suite : List Stmt} {rest : List ExceptHandler} {i : Nat} {th : Addr → TS} {D : Ends} {h0 h5 : Heap} {l : List Addr} {a0 : Value} (hh : X.calm = true → X.A.handled = none)
   (c : ExcC X.K X.mg x C) (hg : Gl X x) (hN : X.N.Nodup) (hi : X.N[i]? = some n) (hn : X.env.scope.names.lookup n = some .local)
   (hs : ∀ ea oe, oe.cls = .ref C → (∃ vs, oe.data = .fields vs) → PSs (Cx.sup X ea [(ea, oe)]) (b0 :: suite) (th ea)) (hdb : (x == ("__debug__" : Str)) = false)
   (I : Inv X pins σ H1 s1) (os : s'.os = s1.os) (bare : AllBare s'.gens) (u : Un (L2.frs X.stack) [] H1 H' s1.heap h0) (hok : HOk X.prog X.w H' h0) (hl : ∀ b ∈ l, H' b = none ∧ (b ∈ L2.frs X.stack ∨ s1.heap.objs.size ≤ b))
   (fl5 : Heap.FlyingW (PySem.W.hideAll h0 l) (X.env :: X.outer) ea (.ref C) a0 h5) (up : h0.UpToSlots h5) (ap : H' ea = none ∧ ea ≠ X.env.locals ∧ ea ∉ X.fs)
   (q : th ea (thEnds D i) (σ.set i (some (.ref ea))) H') :
   wpAny (model X.prog X.w) X.A (handleBy (.ref ea) X.env (.ExceptHandler (some (.Name x np)) (some n) (b0 :: suite) hpos :: rest)) (SP X pins D) X.xe { s' with heap := h5 } := by
 have I5 : Inv X pins σ H' { s' with heap := h5 } := landed_at I os bare u hok hl fl5.1 up
 obtain ⟨oe, hoe, hoec⟩ := fl5.there
 refine wpAny_handleBy_cons (codeAny_handlers_test (ld_glob (X := Cx.sup X ea []) (Inv.sup I5 (fun p hp => nomatch hp)) hg c.glob ?_ hdb)) (by intro z; cases z)
 obtain ⟨bm, N', nm, qn, bs, hd, sn, sub, ab, col, dd, k0, k1, k2, k3, k5, mN, hC, hNs, hni, TL⟩ := c.obj I5.kIn
 refine wpAny_excMatches_sub_self hC hoe hoec (TL.hasType (by decide +kernel)) (codeAny_handlers_suite_as ?_)
 refine lands_againW fl5 fun h6 fl6 up6 => ?_
 have I6 : Inv X pins σ H' { s' with heap := h6 } := landed_at I os bare u hok hl fl6.1 (up.trans up6)
 obtain ⟨oe6, vs6, hoe6, hoec6, hoed6, _⟩ := fl6.first
 have I6p : Inv (Cx.sup X ea [(ea, oe6)]) pins σ H' { s' with heap := h6 } := Inv.sup I6 fun p hp => by
   have e : p = (ea, oe6) := by simpa using hp
   subst e
   exact ⟨hoe6, ap.1, ap.2.1, ap.2.2, fun v z => by rw [hoed6] at z; cases z⟩
 refine store_ok (X := Cx.sup X ea [(ea, oe6)]) I6p hN hi (.inl hn) (show RelV (.ref ea) (.ref ea) from rfl) (fun s7 I7 => ?_) (.inr hn)
 refine wpAny_mono (hs ea oe6 hoec6 ⟨vs6, hoed6⟩ pins s7 _ H' _ I7 q) (fun f s8 q8 => ?_) fun _ _ z => z.elim
 cases f with
 | next =>
   obtain ⟨σ', H'', I8, q9⟩ := q8
   exact goes_ok (Inv.unsup I8 hh) hN hi hn fun s9 I9 => ⟨_, H'', I9, q9⟩
 | brk => obtain ⟨_, _, _, z⟩ := q8; exact z.elim
 | cont => obtain ⟨_, _, _, z⟩ := q8; exact z.elim
 | ret v => obtain ⟨_, _, _, _, _, z⟩ := q8; exact z.elim
def tTry2 (tb : TB) (C1 C2 : Addr) (i : Nat) (th1 th2 : Addr → TS) : TS := fun D σ H =>
 tb D (fun c _ H2 => (c = .ref C1 ∧ ∀ ea, H2 ea = none → th1 ea (thEnds D i) (σ.set i (some (.ref ea))) H2) ∨ (c = .ref C2 ∧ ∀ ea, H2 ea = none → th2 ea (thEnds D i) (σ.set i (some (.ref ea))) H2)) σ H
theorem ps_try2 {body : List Stmt} {tb : TB} {x1 x2 n : Str} {np1 np2 hp1 hp2 pos : Pos} {b1 b2 : Stmt} {su1 su2 : List Stmt} {i : Nat} {th1 th2 : Addr → TS} {C1 C2 : Addr} (hst : X.stack = X.env :: X.outer) (hfr : X.env.frame = some X.env.locals) (hc : X.calm = true)
   (hb : PB X body tb) (c1 : ExcC X.K X.mg x1 C1) (c2 : ExcC X.K X.mg x2 C2) (hno : PySem.W.mroIn X.K C2 (.ref C1) = some false) (hg1 : Gl X x1) (hg2 : Gl X x2) (hN : X.N.Nodup) (hi : X.N[i]? = some n) (hn : X.env.scope.names.lookup n = some .local)
   (hs1 : ∀ ea oe, oe.cls = .ref C1 → (∃ vs, oe.data = .fields vs) → PSs (Cx.sup X ea [(ea, oe)]) (b1 :: su1) (th1 ea))
   (hs2 : ∀ ea oe, oe.cls = .ref C2 → (∃ vs, oe.data = .fields vs) → PSs (Cx.sup X ea [(ea, oe)]) (b2 :: su2) (th2 ea)) (hdb1 : (x1 == ("__debug__" : Str)) = false := by decide) (hdb2 : (x2 == ("__debug__" : Str)) = false := by decide) :
   PS X (.Try body [.ExceptHandler (some (.Name x1 np1)) (some n) (b1 :: su1) hp1, .ExceptHandler (some (.Name x2 np2)) (some n) (b2 :: su2) hp2] [] [] pos) (tTry2 tb C1 C2 i th1 th2) := by
 intro pins s σ H D I0 h
 refine wpAny_Try_except (wpAny_mono (hb pins s σ H D _ I0 h) (fun f s1 q => ?_) fun ex s' q => ?_)
 · cases f with
   | next => exact wpAny_execs_nil q
   | brk => exact q
   | cont => exact q
   | ret u => exact q
 obtain ⟨ea, C', H1, s1, H', rfl, I, ⟨os, bare, h0, l, a0, u, hok, hl, hnew, fl, up⟩, q⟩ := q
 have hh : X.calm = true → X.A.handled = none := I.ok.hd
 have fl' : Heap.FlyingW (PySem.W.hideAll h0 l) (X.env :: X.outer) ea (.ref C') a0 s'.heap := by rw [← hst]; exact fl
 have ap := apart_at (I.call (h' := h0) (g' := s'.gens) (d' := s'.drawn) (t' := s'.toks) (ch := []) u hok bare (fun b z => absurd z (by simp))) hnew
 refine wpAny_looks_onW (by rw [← hst]; exact I.ok.frames) hfr fl' fun h4 held4 up4 => ?_
 refine wpAny_landsW held4 fun h5 fl5 up5 => ?_
 rcases q with ⟨ec, q⟩ | ⟨ec, q⟩
 · cases ec
   exact catch_here hh c1 hg1 hN hi hn hs1 hdb1 I os bare u hok hl fl5 ((up.trans up4).trans up5) ap (q ea ap.1)
 · cases ec
   have I5 : Inv X pins σ H' { s' with heap := h5 } := landed_at I os bare u hok hl fl5.1 ((up.trans up4).trans up5)
   obtain ⟨oe, hoe, hoec⟩ := fl5.there
   refine wpAny_handleBy_cons (codeAny_handlers_test (ld_glob (X := Cx.sup X ea []) (Inv.sup I5 (fun p hp => nomatch hp)) hg1 c1.glob ?_ hdb1)) (by intro z; cases z)
   obtain ⟨bm, N', nm, qn, bs, hd, sn, sub, ab, col, dd, k0, k1, k2, k3, k5, mN, hC, hNs, hni, TL⟩ := c1.obj I5.kIn
   refine excMatches_b I5.kIn hC (TL.hasType (by decide +kernel)) hoe hoec hno ?_
   exact catch_here hh c2 hg2 hN hi hn hs2 hdb2 I os bare u hok hl fl5 ((up.trans up4).trans up5) ap (q ea ap.1)
theorem r_try2 {tb : TB} {C1 C2 : Addr} {i : Nat} {th1 th2 : Addr → TS} {D : Ends} {σ : St} {H : Hp}
   (h : tb D (fun c _ H2 => (c = .ref C1 ∧ ∀ ea, H2 ea = none → th1 ea (thEnds D i) (σ.set i (some (.ref ea))) H2) ∨ (c = .ref C2 ∧ ∀ ea, H2 ea = none → th2 ea (thEnds D i) (σ.set i (some (.ref ea))) H2)) σ H) : tTry2 tb C1 C2 i th1 th2 D σ H := h
end
end L3
namespace L3
open PySem PySem.Spec PyProof.Rows L2 PySem.SeqAt PySem.Builtin PySem.Builtin.Str
def tFst2S (x : PySem.Str) (tv : TE) : TE := fun σ H Q => tv σ H fun u H1 => ∃ t, u = .str t ∧ t.length ≤ 2000000 ∧ Q (.str (Str.empty ++ x ++ t)) H1
theorem pe_fst2S {X : Cx} {v : Expr} {tv : TE} {x : PySem.Str} {j1 : Nat} {p0 p1 p2 : Pos} (hv : PE X v tv) (hx : (Str.empty ++ x).length ≤ 1000 := by decide +kernel) : PE X (.JoinedStr [.Constant (.str x) j1 p1, .FormattedValue v (-1) none p2] p0) (tFst2S x tv) := by
 intro pins s σ H Q I h
 refine JoinedStr_many (joinParts_cons (thn (pe_str (X := X) pins s σ H (fun u H' => u = .str x ∧ H' = H) I ⟨rfl, rfl⟩) fun u1 s1 ⟨v1, H1, I1, r1, e1, e2⟩ => ?_))
 subst e1 e2
 obtain ⟨t1, rfl⟩ := r1
 refine ⟨by rw [sizeLine_eq]; omega, joinParts_cons (FormattedValue_plain (thn (hv pins s1 σ H1 _ I1 h) fun u2 s2 ⟨v2, H2, I2, r2, i, e, hd, q⟩ => ?_))⟩
 subst e
 obtain ⟨t2, rfl⟩ := r2
 have hz : (Str.empty ++ x ++ i).length ≤ sizeLine := by
   rw [sizeLine_eq]
   have : (Str.empty ++ x ++ i).length = (Str.empty ++ x).length + i.length := by
     show Array.size _ = Array.size _ + Array.size _
     exact Array.size_append
   omega
 refine formatField_str (fun t' tk => ?_) (by rw [sizeLine_eq]; omega)
 exact ⟨hz, joinParts_nil ⟨.str _, _, (I2.tok _).tok _, ⟨_, rfl⟩, q⟩ hz⟩
theorem r_fst2S {x t : PySem.Str} {tv : TE} {σ : L2.St} {H : Hp} {Q : VK} (h : tv σ H fun u H1 => ∃ t, u = .str t ∧ t.length ≤ 2000000 ∧ Q (.str (Str.empty ++ x ++ t)) H1) : tFst2S x tv σ H Q := h
theorem gives_rep4 (x y z : PySem.Str) (t u v w : Tok) (h0 : (u == 0 || v == 0) = false) (huv : (u == v) = false) (hyz : (y == z) = false) (hl : tooLong (x.length + (occurrences x y 0 x.length 1).length * z.length) = false) :
   Gives («str.replace» ⟨[.str x t, .str y u, .str z v, .int 1 w], []⟩) (if ((occurrences x y 0 x.length 1).isEmpty || (y.length == 0 && z.length == 0)) = true then .val (.str x t) else .str (glued z (partsBetween x (occurrences x y 0 x.length 1) y.length))) := by
 show Gives (if ((occurrences x y 0 x.length 1).isEmpty || (y.length == 0 && z.length == 0)) = true then (do rule "str.replace.nothing"; ret (.str x t)) else
         (do let same ← isSame (.str y u) (.str z v)
             if same = true then (do rule "str.replace.old-is-new"; ret (.str x t)) else
             if tooLong (x.length + (occurrences x y 0 x.length 1).length * z.length) = true then unsupported "str.replace:memory" else
             retStr (glued z (partsBetween x (occurrences x y 0 x.length 1) y.length)))) _
 cases hc : ((occurrences x y 0 x.length 1).isEmpty || (y.length == 0 && z.length == 0))
 · rw [isSame_str_other y z u v h0 huv hyz, hl]
   exact .of_eq rfl
 · exact .rule (.of_eq rfl)
theorem rep4_len (x y z : PySem.Str) (hy : 1 ≤ y.length) : (glued z (partsBetween x (occurrences x y 0 x.length 1) y.length)).length ≤ x.length + z.length := by
 have h1 := StrLaws.occ_length_le x y 0 x.length 1
 have hs : (glued y (partsBetween x (occurrences x y 0 x.length 1) y.length)).length = x.length := by rw [StrLaws.glued_between_self]
 rw [size_glued, length_partsBetween, Nat.add_sub_cancel] at hs
 rw [size_glued, length_partsBetween, Nat.add_sub_cancel]
 have h2 : (occurrences x y 0 x.length 1).length * z.length ≤ 1 * z.length := Nat.mul_le_mul_right _ h1
 omega
section
variable {X : Cx} {x y : PySem.Str} {o n : PySem.Str} {k : Int}
theorem name_at {pins : List (Addr × Obj)} {σ : L2.St} {H : Hp} {s : Shared} {E : Value → Shared → Prop} {i : Nat} {x : PySem.Str} {v : V} {pos : Pos} {Q : Value → Shared → Prop} (I : Inv X pins σ H s) (hN : X.N[i]? = some x) (hv : Vis X.env.scope x) (e : σ[i]? = some (some v)) (h : ∀ u, RelV v u → Q u s)
   (hd : (x == ("__debug__" : Str)) = false := by decide) (hcd : (x == ("__classdict__" : Str)) = false := by decide) : wpAny (model X.prog X.w) X.A (eval (.Name x pos) X.env) Q E s := by
 obtain ⟨m, hn, hl⟩ := I.loc
 obtain ⟨u, r, l⟩ := hl i x v hN e hv
 have fin := h u r
 rcases l with ⟨hk, hm⟩ | ⟨hk, c, hc, hcell⟩
 · exact wpAny_Name (wpAny_loadName_local I.ok.kind hk hn hm fin) hd
 · rcases hk with hk | hk
   · exact wpAny_Name (wpAny_loadName_cell I.ok.kind hk hc hcell fin) hd
   · exact wpAny_Name (wpAny_loadName_free I.ok.kind hk hc hcell fin hcd) hd
end
end L3
namespace L3
open PySem PySem.Spec PyProof.Rows L2 PySem.SeqAt PySem.Builtin PySem.Builtin.Str
def repT (n : Nat) (x : PySem.Str) : PySem.Str := ⟨(List.replicate n x.cps).foldl (· ++ ·) #[]⟩
theorem repT_list (x : PySem.Str) (n : Nat) : (repT n x).cps.toList = (List.replicate n x.cps.toList).flatten := by
 have h : ∀ (m : Nat) (a : Array Nat), ((List.replicate m x.cps).foldl (· ++ ·) a).toList = a.toList ++ (List.replicate m x.cps.toList).flatten := by
   intro m
   induction m with
   | zero => intro a; simp
   | succ m ih => intro a; rw [List.replicate_succ, List.foldl_cons, ih, List.replicate_succ, List.flatten_cons]; simp
 have := h n #[]
 simpa [repT] using this
def rRepS : R2 := fun x y H Q => ∃ i k, x = .str i ∧ y = .int k ∧ 2 ≤ k ∧ k < 2 ^ 31 ∧ 1 ≤ i.length ∧ i.length * k.toNat ≤ sizeLine ∧ Q (.str (repT k.toNat i)) H
variable {X : Cx} {x y : PySem.Str} {o n : PySem.Str} {k : Int}
theorem op_repS : OpR X (binaryOp .Mult) rRepS := by
 intro pins s σ H x y v u Q I rx ry h
 obtain ⟨i, k, rfl, rfl, h2, hk, h1, hz, q⟩ := h
 obtain ⟨t, rfl⟩ := rx
 obtain ⟨t', rfl⟩ := ry
 have n1 : ¬ k < 1 := by omega
 have n2 : (k == 1 || i.length == 0) = false := by
   rw [Bool.or_eq_false_iff]
   exact ⟨by simp; omega, by simp; omega⟩
 have nl : Builtin.Str.tooLong (i.length * k.toNat) = false := by unfold Builtin.Str.tooLong; exact decide_eq_false (by omega)
 refine PySem.P.mul_str ?_ (fun _ _ => ?_) (fun _ _ => ?_) ?_
 · rw [decide_eq_false (by omega), decide_eq_false (by omega)]; rfl
 · have hz2 : (i.length : Int) * k ≤ (2 ^ 63 - 1 : Int) := by
     have e : ((i.length * k.toNat : Nat) : Int) = (i.length : Int) * k := by rw [Int.natCast_mul, Int.toNat_of_nonneg (by omega)]
     have hs : sizeLine ≤ 2 ^ 63 - 1 := by decide
     omega
   have := Int.le_ediv_of_mul_le (show (0 : Int) < k by omega) hz2
   omega
 · exact nl
 · rw [if_neg n1, n2, if_neg Bool.false_ne_true]
   exact ⟨PySem.fits_reps nl, ⟨.str (repT k.toNat i), H, I.tok _, ⟨_, rfl⟩, q⟩⟩
def tIfEnd (j : Nat) (o n : PySem.Str) : TS := fun D σ H => ∃ t, σ[j]? = some (some (.str t)) ∧ t.length ≤ 1000000 ∧ (occurrences t o 0 t.length 1 = [] → D.nx σ H) ∧ (∀ p, occurrences t o 0 t.length 1 = [p] → D.rt (.str (glued n (partsBetween t [p] o.length))) H)
theorem ps_ifEnd {j c1 c2 c3 c4 : Nat} {py cp cpos px apos p1 p2 p3 callpos rpos pos : Pos} (hNj : X.N[j]? = some x) (hvj : Vis X.env.scope x) (ho : 1 ≤ o.length) (hn : n.length ≤ 100) (hon : (o == n) = false)
   (hdj : (x == ("__debug__" : Str)) = false := by decide) (hcj : (x == ("__classdict__" : Str)) = false := by decide)
   (hm : behindInMarks .In (.Name x py) = false := by first | exact nobehind _ (by decide) (by decide) | rfl)
   (hbase : attributeBase (.Name x px) "replace" X.env (eval (.Name x px) X.env) = eval (.Name x px) X.env := by rfl)
   (hfew : ((backTo callpos (starEach [.Constant (.str o) c2 p1, .Constant (.str n) c3 p2, .Constant (.int 1) c4 p3] X.env)).all (fun x => !x.1) && (backToKw callpos (keywordEach [] X.env)).all (fun x => x.1.isSome)
     && decide (([.Constant (.str o) c2 p1, .Constant (.str n) c3 p2, .Constant (.int 1) c4 p3] : List Expr).length + ([] : List Keyword).length + (if ([] : List Keyword).isEmpty then 0 else 1) < 30)) = true := by rfl)
   (hline : (apos.endLine == callpos.line) = true := by rfl) :
   PS X (.If (.Compare (.Constant (.str o) c1 cp) [.In] [.Name x py] cpos) [.Return (some (.Call (.Attribute (.Name x px) "replace" apos) [.Constant (.str o) c2 p1, .Constant (.str n) c3 p2, .Constant (.int 1) c4 p3] [] callpos)) rpos] [] pos) (tIfEnd j o n) := by
 intro pins s σ H D I h
 obtain ⟨t, ej, hz, q1, q2⟩ := h
 refine wpAny_If (wpAny_isTrue_Compare1 (Calls.Constant_str (k := c1) (pos := cp) ?_) hm)
 have I1 : Inv X pins σ H { s with toks := s.toks + 1 } := I.tok _
 refine name_at I1 hNj hvj ej (fun u ru => ?_) hdj hcj
 obtain ⟨tk, rfl⟩ := ru
 refine in_str ?_
 refine wpAny_truthy_bool ?_
 have h1 := StrLaws.occ_length_le t o 0 t.length 1
 cases hc : occurrences t o 0 t.length 1 with
 | nil =>
   rw [show (!([] : List Nat).isEmpty) = false from rfl, if_neg Bool.false_ne_true]
   exact wpAny_execs_nil ⟨σ, H, I1, q1 hc⟩
 | cons p r =>
   have hr : r = [] := by
     rw [hc, List.length_cons] at h1
     exact List.length_eq_zero_iff.mp (by omega)
   subst hr
   rw [show (!([p] : List Nat).isEmpty) = true from rfl, if_pos rfl]
   refine wpAny_execs_cons (wpAny_Return_some ?_)
   refine wpAny_Call_method_late hbase hfew hline rfl (name_at I1 hNj hvj ej (fun u ru => ?_) hdj hcj)
   obtain ⟨tx, rfl⟩ := ru
   refine ⟨"str", "str.replace", PySem.F.plainAttrs_str, PySem.F.slot_str_replace, PySem.F.type_str_replace, typeIs_str _ _ _, (fun b z => by cases z), ?_⟩
   refine Calls.callWith_builtin rfl (Calls.evalArgs_plain ?_)
   refine Calls.spliced_cons (x := eval (.Constant (.str o) c2 p1) X.env) (rest := [(false, eval (.Constant (.str n) c3 p2) X.env), (false, eval (.Constant (.int 1) c4 p3) X.env)]) (Calls.Constant_str (k := c2) (pos := p1) (Calls.spliced_cons (Calls.Constant_str (k := c3) (pos := p2) (Calls.spliced_cons (wpAny_Constant_int (Calls.spliced_nil ?_))))))
   refine call_gives PySem.F.slot_str_replace (typeIs_str _ _ _) PySem.F.entry_str_replace (PySem.F.args_str_replace_4 _ _ _ _) (gives_rep4 t o n tx _ _ _ (by simp) (by simp) hon ?_) ?_
   · have h2 : (occurrences t o 0 t.length 1).length * n.length ≤ 1 * n.length := Nat.mul_le_mul_right _ h1
     unfold tooLong
     rw [sizeLine_eq]
     exact decide_eq_false (by omega)
   · have hl := rep4_len t o n ho
     rw [hc] at hl ⊢
     rw [if_neg (by rw [show (([p] : List Nat).isEmpty || (o.length == 0 && n.length == 0)) = (o.length == 0 && n.length == 0) from rfl, show (o.length == 0) = false from by simp; omega]; exact Bool.false_ne_true)]
     exact ⟨by rw [sizeLine_eq]; omega, .str _, σ, H, ((((I1.tok _).tok _).tok _).tok _), ⟨_, rfl⟩, q2 p hc⟩
theorem cut_one {t o : PySem.Str} {p : Nat} (h : occurrences t o 0 t.length 1 = [p]) : t.cps.toList.drop p = o.cps.toList ++ t.cps.toList.drop (p + o.length) ∧ (glued "" (partsBetween t [p] o.length)).cps.toList = t.cps.toList.take p ++ t.cps.toList.drop (p + o.length) := by
 obtain ⟨f, hf⟩ := PySem.StrLaws.occ_chain t o 1
 rw [h] at hf
 have hs : subAt t o p = true := hf.2.1.2
 have hle : p + o.length ≤ t.length := hf.2.1.1
 have hl : t.cps.toList.length = t.length := rfl
 constructor
 · unfold subAt at hs
   have e := congrArg Array.toList (eq_of_beq hs)
   rw [Array.toList_extract] at e
   rw [← e, List.extract_eq_drop_take, Nat.add_sub_cancel_left, ← List.drop_drop, List.take_append_drop]
 · show ((strSub t 0 p).cps ++ ("" : PySem.Str).cps ++ (strSub t (p + o.length) t.length).cps).toList = _
   unfold strSub
   rw [Array.toList_append, Array.toList_append, Array.toList_extract, Array.toList_extract, List.extract_eq_drop_take, List.extract_eq_drop_take]
   rw [show (PySem.Str.ofString "").cps.toList = [] from rfl, List.append_nil, List.drop_zero, Nat.sub_zero]
   rw [List.take_of_length_le (l := t.cps.toList.drop (p + o.length)) (by rw [List.length_drop]; omega)]
def rSlT : V → Option Int → Option Int → Hp → VK → Prop := fun x lo hi H Q => ∃ u, x = .str u ∧ u.length ≤ sizeLine ∧ Q (.str (Txt.slice u lo hi)) H
theorem sl_str2 {X : Cx} : SlR X rSlT := by
 intro pins s σ H x v vl vu lo hi sl Q I rx hs pl pu h
 obtain ⟨u, rfl, hz, q⟩ := h
 obtain ⟨t, rfl⟩ := rx
 refine ⟨"str", _, F.slot_str_getitem.lookup, typeIs_str _ _ _, ?_⟩
 obtain ⟨l, rfl, hl⟩ : ∃ l : Option (Int × Tok), vl = partValue l ∧ l.map (·.1) = lo := by
   cases pl with
   | none => exact ⟨none, rfl, rfl⟩
   | int i t => exact ⟨some (i, t), rfl, rfl⟩
 obtain ⟨u', rfl, hu⟩ : ∃ l : Option (Int × Tok), vu = partValue l ∧ l.map (·.1) = hi := by
   cases pu with
   | none => exact ⟨none, rfl, rfl⟩
   | int i t => exact ⟨some (i, t), rfl, rfl⟩
 refine wpAny_getItem_str_slice (l := l) (u := u') (st := none) hs rfl ?_
 have hle : (⟨((slicePicked u l u' none).filterMap (u.cps[·]?)).toArray⟩ : PySem.Str).length ≤ u.length := by
   show (List.toArray _).size ≤ _
   rw [List.size_toArray]
   exact Nat.le_trans (List.length_filterMap_le ..) (sliceIndices_le _ _ _)
 subst hl hu
 unfold Txt.slice at q
 unfold sliceMade
 have e : (((none : Option (Int × Tok)).map (·.1)).getD 1 == 1 && (slicePicked u l u' none).length == u.length) = ((1 : Int) == 1 && (Builtin.Str.strSliceIndices (l.map (·.1)) (u'.map (·.1)) 1 u.length).length == u.length) := rfl
 rw [e]
 split
 · rename_i hc
   rw [if_pos hc] at q
   exact ⟨.str u, H, I, ⟨t, rfl⟩, q⟩
 · rename_i hc
   rw [if_neg hc] at q
   exact ⟨Nat.le_trans hle hz, .str _, H, I.tok _, ⟨_, rfl⟩, q⟩
theorem r_slTo {u : PySem.Str} {k : Nat} {H : Hp} {Q : VK} (hz : u.length ≤ sizeLine) (hk : k ≤ u.length) (q : ∀ t : PySem.Str, t.cps.toList = u.cps.toList.take k → Q (.str t) H) : rSlT (.str u) none (some (k : Int)) H Q := by
 refine ⟨u, rfl, hz, q _ ?_⟩
 have hk2 : k ≤ u.cps.toList.length := hk
 rw [eq_of_beq (PyProof.Rows.slice_closes_to (x := u) (j := (k : Int)) ⟨by omega, by omega⟩)]
 show (u.cps.toList.drop 0).take ((k : Int) - 0).toNat = _
 rw [List.drop_zero, show ((k : Int) - 0).toNat = k by omega]
theorem r_slFrom {u : PySem.Str} {k : Nat} {H : Hp} {Q : VK} (hz : u.length ≤ sizeLine) (hk : k ≤ u.length) (q : ∀ t : PySem.Str, t.cps.toList = u.cps.toList.drop k → Q (.str t) H) : rSlT (.str u) (some (k : Int)) none H Q := by
 refine ⟨u, rfl, hz, q _ ?_⟩
 have hk2 : k ≤ u.cps.toList.length := hk
 rw [PyProof.Rows.slice_from_eq (x := u) (i := (k : Int)) (b := (u.length : Int)) (by omega) (by omega) rfl]
 show (u.cps.toList.drop (k : Int).toNat).take ((u.length : Int) - (k : Int)).toNat = _
 rw [show ((k : Int)).toNat = k by omega, List.take_of_length_le (by rw [List.length_drop]; show u.length - k ≤ _; omega)]
end L3
namespace FB
open PySem PySem.Spec PyProof.Rows L2 L3 PySem.SeqAt
local macro_rules | `(tactic| walk_at "clok") => `(tactic| repeat (first | exact True.intro | refine ⟨rfl, ?_⟩))
local macro_rules | `(tactic| walk_at "frok") => `(tactic| repeat (first | exact True.intro | refine ⟨⟨rfl, (by first | exact Or.inl rfl | exact Or.inr rfl), (by first | exact Or.inl rfl | exact Or.inr rfl), rfl⟩, ?_⟩))
local macro_rules | `(tactic| walk_at "hlk") => `(tactic| first | (with_reducible assumption) | (exact upd_same) | ((with_reducible refine' look_new ?x ?y); (case y => with_reducible assumption); (case x => walk_at "hlk")) | ((fail_if_success (((with_reducible refine' look_new ?x ?y); (case y => with_reducible assumption)))); (with_reducible refine' look_ne ?x ?y); (case x => walk_at "ne"); (case y => walk_at "hlk")) | ((with_reducible refine' same_at ?x ?y); (case x => with_reducible assumption); (case y => walk_at "hlk")))
local macro_rules | `(tactic| walk_at "ne") => `(tactic| first | (with_reducible assumption) | (apply Ne.symm; (with_reducible assumption)) | ((with_reducible refine' ne_of_none ?x ?y); (case y => with_reducible assumption); (case x => walk_at "hlk")) | (apply Ne.symm; (with_reducible refine' ne_of_none ?x ?y); (case y => with_reducible assumption); (case x => walk_at "hlk")))
local macro_rules | `(tactic| walk_at "sql") => `(tactic| first | (with_reducible assumption) | (refine' SqL.of ?x; (case x => first | (with_reducible assumption) | (exact upd_same))) | ((with_reducible refine' sql_new ?x ?y); (case y => with_reducible assumption); (case x => walk_at "sql")) | ((fail_if_success (((with_reducible refine' sql_new ?x ?y); (case y => with_reducible assumption)))); first | ((with_reducible refine' sql_upd ?s ?h ?q); (case h => with_reducible assumption); (case s => walk_at "same"); (case q => walk_at "sql")) | (refine' SqL.of ?x; (case x => (with_reducible refine' look_ne ?x2 ?y2); (case x2 => walk_at "ne"); (case y2 => walk_at "hlk")))) | ((with_reducible refine' Same.seq ?x ?y); (case x => with_reducible assumption); (case y => walk_at "sql")))
local macro_rules | `(tactic| walk_at "sqt") => `(tactic| first | (with_reducible assumption) | (refine' SqT.of ?x; (case x => first | (with_reducible assumption) | (exact upd_same))) | ((with_reducible refine' sqt_new ?x ?y); (case y => with_reducible assumption); (case x => walk_at "sqt")) | ((fail_if_success (((with_reducible refine' sqt_new ?x ?y); (case y => with_reducible assumption)))); first | ((with_reducible refine' sqt_upd ?s ?h ?q); (case h => with_reducible assumption); (case s => walk_at "same"); (case q => walk_at "sqt")) | (refine' SqT.of ?x; (case x => (with_reducible refine' look_ne ?x2 ?y2); (case x2 => walk_at "ne"); (case y2 => walk_at "hlk")))) | ((with_reducible refine' SqT_same ?x ?y); (case x => with_reducible assumption); (case y => walk_at "sqt")))
local macro_rules | `(tactic| walk_at "lk") => `(tactic| first | (with_reducible exact look_hit) | (refine' look_of ?x ?y; (case x => decide +kernel); (case y => walk_at "lk")) | exact look_hit)
local macro_rules | `(tactic| walk_at "nolk") => `(tactic| first | (with_reducible rfl) | (refine' look_no ?x ?y; (case x => decide +kernel); (case y => walk_at "nolk")) | rfl)
local macro_rules | `(tactic| walk_at "fewf") => `(tactic| first | exact Nat.lt_of_le_of_lt (Nat.le_refl 0) (by decide) | exact Nat.lt_of_le_of_lt (len_of (Nat.le_refl 0)) (by decide) | exact Nat.lt_of_le_of_lt (len_of (len_of (Nat.le_refl 0))) (by decide) | exact Nat.lt_of_le_of_lt (len_of (len_of (len_of (Nat.le_refl 0)))) (by decide))
local macro_rules | `(tactic| walk_at "small") => `(tactic| first | exact Nat.le_of_ble_eq_true rfl | (show _ ≤ sizeLine; rw [sizeLine_eq]; first | omega | (simp only [List.length_map, List.length_cons, List.length_nil, List.length_append, List.length_replicate, List.length_set, List.length_range]; omega)))
local macro_rules | `(tactic| walk_at "r1") => `(tactic| with_reducible first
 | refine r_var (by with_unfolding_all rfl) ?_
 | refine r_c ?_ | refine r_op ?_ | refine r_I0 ?_ | refine r_plusI ?_ | refine r_seq ?_ | refine r_asg ?_ | (refine' r_gN ?x ?_; (case x => simp only [List.set_cons_succ, List.set_cons_zero]; rfl)) | refine r_ret ?_ | refine r_ifS ?_ | refine r_test ?_
 | refine r_cons ?_ | refine r_nil ?_ | refine r_cb ?_ | refine r_callE ?_ | refine r_makeE ?_ | refine r_methE ?_ | refine r_fld ?_ | refine r_tru ?_ | refine r_truB ?_ | refine r_truI ?_
 | refine r_not ?_ | refine r_and ?_ | refine r_or ?_ | refine r_next ?_ | refine r_drop ?_ | refine r_sFld ?_ | refine r_retN ?_ | refine r_un ?_ | refine r_U ?_ | refine r_if ?_
 | refine r_andV ?_ | refine r_orV ?_ | refine r_notV ?_ | refine r_sl ?_ | refine r_part ?_ | refine r_noPart ?_ | refine r_bm ?_ | refine r_bm0 ?_ | refine r_tup ?_ | refine r_lst ?_ | refine r_two ?_
 | (refine' r_compE' ?x ?_; (case x => with_unfolding_all rfl)) | (refine' r_compS' ?x ?_; (case x => with_unfolding_all rfl)) | refine r_for ?_ | refine r_iSeq ?_ | refine r_rng1 ?_ | refine r_rng2 ?_ | refine r_true ?_
 | refine r_isNr ?_ | refine r_isNn ?_ | refine r_isNi ?_ | refine r_notNr ?_ | refine r_notNn ?_ | refine r_notNi ?_
 | refine iteT ?_ | refine iteF ?_ | refine iteNT ?_ | refine iteNF ?_
 | refine ⟨_, rfl, ?_⟩)
local macro_rules | `(tactic| walk_at "r2") => `(tactic| first
 | ((with_reducible refine' r_fldV ?h ?c ?n ?l ?_); (case h => walk_at "hlk"); (case c => walk_at "cls"); (case n => walk_at "noat"); (case l => walk_at "lk"))
 | ((with_reducible refine' r_sFldV ?h ?c ?n ?l ?_); (case h => walk_at "hlk"); (case c => walk_at "cls"); (case n => walk_at "noat"); (case l => walk_at "fewf"))
 | ((with_reducible refine' r_lenI ?h ?_); (case h => walk_at "sql"))
 | ((with_reducible refine' r_lenL ?h ?_); (case h => walk_at "sql"))
 | ((with_reducible refine' r_lenT ?h ?_); (case h => walk_at "sqt"))
 | ((with_reducible refine' r_listL ?h ?_); (case h => walk_at "sql"))
 | ((with_reducible refine' r_listT ?h ?_); (case h => walk_at "sqt"))
 | ((with_reducible refine' r_eqS ?h ?_); (case h => rfl))
 | ((with_reducible refine' r_neS ?h ?_); (case h => rfl)))
local macro_rules | `(tactic| walk_at "none") => `(tactic| first | (with_reducible assumption) | ((with_reducible refine' none_same ?x ?y); (case y => with_reducible assumption); (case x => walk_at "same")))
local macro_rules | `(tactic| walk_at "same") => `(tactic| first | (with_reducible assumption) | (with_reducible exact Same.refl _) | ((with_reducible refine' same_none ?x ?y); (case y => with_reducible assumption); (case x => walk_at "same")) | ((fail_if_success (((with_reducible refine' same_none ?x ?y); (case y => with_reducible assumption)))); (with_reducible refine' same_upd ?x ?y); (case y => walk_at "none"); (case x => walk_at "same")) | ((with_reducible refine' Same.trans ?x ?y); (case y => with_reducible assumption); (case x => walk_at "same")))
local macro_rules | `(tactic| walk_at "tt") => `(tactic| first | assumption | omega | with_unfolding_all rfl | decide | (simp only [List.length_map, List.length_cons, List.length_nil, List.length_append, List.length_replicate, List.length_set, sI_len]; omega))
local macro_rules | `(tactic| walk_at "nn") => `(tactic| first | assumption | omega | decide | (simp only [List.length_map, List.length_cons, List.length_nil, List.length_append, List.length_replicate, List.length_set, sI_len]; omega))
local macro_rules | `(tactic| walk_at "cond") => `(tactic| first
 | ((with_reducible refine' r_I ?h ?_); (case h => first | exact ⟨by decide, by decide⟩ | (show (0 : Int) < _; first | decide | omega) | (show (0 : Int) ≤ _; first | decide | omega)))
 | ((with_reducible refine' r_ifB ?x ?_); (case x => intro hh; exact absurd hh (by decide)); intro _)
 | ((with_reducible refine' r_ifB ?_ ?x); (case x => intro hh; exact absurd hh (by decide)); intro _)
 | ((with_reducible refine' ifInt ?x ?_); (case x => intro hh; exact absurd hh (by walk_at "nn")); intro _)
 | ((with_reducible refine' ifInt ?_ ?x); (case x => intro hh; exact absurd (by walk_at "tt") hh); intro _)
 | ((with_reducible refine' ifIntN ?x ?_); (case x => intro hh; exact absurd (by walk_at "tt") hh); intro _)
 | ((with_reducible refine' ifIntN ?_ ?x); (case x => intro hh; exact absurd hh (by walk_at "nn")); intro _)
 | ((with_reducible refine' ifDec ?x ?_); (case x => intro hh; exact absurd hh (by walk_at "nn")); intro _)
 | ((with_reducible refine' ifDec ?_ ?x); (case x => intro hh; exact absurd (by walk_at "tt") hh); intro _)
 | ((with_reducible refine' ifDecN ?x ?_); (case x => intro hh; exact absurd (by walk_at "tt") hh); intro _)
 | ((with_reducible refine' ifDecN ?_ ?x); (case x => intro hh; exact absurd hh (by walk_at "nn")); intro _))
local macro_rules | `(tactic| walk_at "at") => `(tactic| first | assumption | ((with_reducible refine' gI_at ?x ?y); (case x => walk_at "tt"); (case y => walk_at "tt")) | ((with_reducible refine' gI_neg ?x ?y); (case x => walk_at "tt"); (case y => walk_at "tt")) | rfl)
local macro_rules | `(tactic| walk_at "calls") => `(tactic| first
 | ((with_reducible refine' r_bounded ?a ?b ?_); (case a => omega); (case b => omega))
 | ((with_reducible refine' r_withBox ?h ?a ?b ?_); (case h => walk_at "sql"); (case a => omega); (case b => omega))
 | ((with_reducible refine' r_cellAt ?h ?a ?_); (case h => walk_at "sql"); (case a => omega))
 | (with_reducible refine r_whole ?_) | (with_reducible refine r_without ?_) | (with_reducible refine r_filled ?_)
 | ((with_reducible refine' r_boxPl ?a ?b ?_); (case a => omega); (case b => omega))
 | ((with_reducible refine' r_cellPl ?a ?b ?c ?_); (case a => omega); (case b => omega); (case c => omega))
 | ((with_reducible refine' r_setI ?x ?y ?z ?_); (case x => walk_at "hlk"); (case y => walk_at "tt"); (case z => walk_at "tt"))
 | ((with_reducible refine' r_setIN ?x ?y ?z ?_); (case x => walk_at "hlk"); (case y => walk_at "tt"); (case z => walk_at "tt"))
 | ((with_reducible refine' r_ixT ?h ?e ?_); (case h => walk_at "sqt"); (case e => walk_at "at"))
 | ((with_reducible refine' r_ixL ?h ?e ?_); (case h => walk_at "sql"); (case e => walk_at "at"))
 | (with_reducible refine r_gSub ?_))
local macro_rules | `(tactic| walk_at "ty") => `(tactic| first | (with_reducible exact TyOf.int _) | (with_reducible exact TyOf.bl _) | (with_reducible exact TyOf.str _) | (with_reducible exact TyOf.non) | (refine' TyOf.lst ?x; (case x => walk_at "hlk")) | (refine' TyOf.tup ?x; (case x => walk_at "hlk")))
local macro_rules | `(tactic| walk_at "dp") => `(tactic| first | (with_reducible exact dp_int _) | (with_reducible exact dp_str _) | (with_reducible exact dp_bool _) | (with_reducible exact dp_none) | ((with_reducible refine' dp_ints ?x); (case x => walk_at "sql")) | ((with_reducible refine' dp_lst ?x ?y); (case x => walk_at "sql"); (case y => walk_at "dps")) | ((with_reducible refine' dp_tup ?x ?y); (case x => walk_at "sqt"); (case y => walk_at "dps")))
local macro_rules | `(tactic| walk_at "dps") => `(tactic| first | (with_reducible exact dpAll_nil) | ((with_reducible refine' dpAll_cons ?x ?y); (case x => walk_at "dp"); (case y => walk_at "dps")))
local macro_rules | `(tactic| walk_at "shaped") => `(tactic| first | exact shaped_ints _ | (unfold shaped; simp [PyData.canLay0, PyData.canLayAll0, canLay_ints, PyData.depth, PyData.depthAll, depth_ints]))
local macro_rules | `(tactic| walk_at "eqd") => `(tactic| first
 | ((with_reducible refine' r_eqT ?d ?x ?y ?s ?_); (case x => walk_at "dp"); (case y => walk_at "dp"); (case s => walk_at "shaped"))
 | ((with_reducible refine' r_neT ?d ?x ?y ?s ?_); (case x => walk_at "dp"); (case y => walk_at "dp"); (case s => walk_at "shaped")))
local macro_rules | `(tactic| walk_at "r3") => `(tactic| first
 | (with_reducible refine r_alloc (fun _ _ => ?_))
 | ((with_reducible refine' r_small ?x ?_); (case x => walk_at "small"))
 | ((with_reducible refine' r_62 ?x ?y ?_); (case x => walk_at "tt"); (case y => walk_at "tt"))
 | ((with_reducible refine' r_62b ?x ?y ?z ?u ?_); (case x => walk_at "tt"); (case y => walk_at "tt"); (case z => walk_at "tt"); (case u => walk_at "tt"))
 | ((with_reducible refine' r_itL ?x ?_); (case x => walk_at "sql"))
 | ((with_reducible refine' r_itT ?x ?_); (case x => walk_at "sqt"))
 | ((with_reducible refine' r_slI ?x ?_); (case x => walk_at "sql"))
 | ((with_reducible refine' r_slL ?x ?_); (case x => walk_at "sql"))
 | ((with_reducible refine' r_timesZ ?x ?y ?z ?_); (case x => walk_at "hlk"); (case y => walk_at "tt"); (case z => walk_at "tt"))
 | ((with_reducible refine' r_plusII ?x ?y ?z ?_); (case x => walk_at "hlk"); (case y => walk_at "hlk"); (case z => walk_at "small"))
 | ((with_reducible refine' r_tyL ?x ?_); (case x => walk_at "hlk"))
 | ((with_reducible refine' r_timesI ?h ?_); (case h => walk_at "cmul"))
 | ((with_reducible refine' r_sum ?h ?_); (case h => walk_at "sql"))
 | ((with_reducible refine' r_inT ?h ?x ?y ?_); (case h => walk_at "sqt"); (case x => rfl); (case y => rfl))
 | ((with_reducible refine' r_clear ?x ?_); (case x => walk_at "hlk"))
 | ((with_reducible refine' r_append ?x ?y ?_); (case x => walk_at "hlk"); (case y => walk_at "small"))
 | ((with_reducible refine' r_isi ?c ?t ?e ?_); (case c => exact fun z => nomatch z); (case t => walk_at "ty"); (case e => walk_at "kit")))
local macro_rules | `(tactic| walk_at "rd") => `(tactic| repeat (first | walk_at "r1" | walk_at "r3" | walk_at "r2" | walk_at "cond" | walk_at "calls" | walk_at "mine"))
local macro_rules | `(tactic| walk_at "rds") => `(tactic| repeat' (first | walk_at "r1" | walk_at "r3" | walk_at "r2" | walk_at "cond" | walk_at "calls" | walk_at "mine" | walk_at "cs"))
local macro_rules | `(tactic| walk_at "sp") => `(tactic| (repeat' split) <;> first | assumption | rfl | (exfalso; omega))
local macro_rules | `(tactic| walk_at "rok") => `(tactic| first | assumption | exact ⟨by omega, by omega⟩)
local macro_rules | `(tactic| walk_at "cmul") => `(tactic| first | exact Or.inl ⟨by decide, by decide⟩ | exact Or.inr ⟨by decide, by decide⟩ | exact Or.inl ⟨by omega, by omega⟩ | exact Or.inr ⟨by omega, by omega⟩)
set_option hygiene false
local macro_rules | `(tactic| walk_at "cs") => `(tactic| with_reducible first | refine ifInt (fun hh => ?_) (fun hh => ?_) | refine ifIntN (fun hh => ?_) (fun hh => ?_) | refine ifDec (fun hh => ?_) (fun hh => ?_) | refine ifDecN (fun hh => ?_) (fun hh => ?_) | (refine' r_ixDi ?h (fun hh => ?_) (fun hh => ?_); (case h => walk_at "sql")) | (refine' r_ixD ?h (fun hh => ?_) (fun hh => ?_); (case h => walk_at "sql")))
local macro_rules | `(tactic| walk_at "tf") => `(tactic| (show Q _ _; refine' q _ _ _ _ ?zs ?znt ?znb ?znp ?ze1 ?ze2 ?ze3 ?zt ?zb ?zp; (case zt => walk_at "hlk"); (case zb => walk_at "hlk"); (case zp => walk_at "hlk"); (case zs => walk_at "same"); (case znt => walk_at "none"); (case znb => walk_at "none"); (case znp => walk_at "none"); (case ze1 => walk_at "ne"); (case ze2 => walk_at "ne"); (case ze3 => walk_at "ne")))
local macro_rules | `(tactic| walk_at "cls") => `(tactic| first | assumption | exact T.cl_ProgramRows)
local macro_rules | `(tactic| walk_at "noat") => `(tactic| first | assumption | exact T.n_ProgramRows_rows | exact T.n_ProgramRows_mark)
local macro_rules | `(tactic| walk_at "kit") => `(tactic| first | assumption | exact T.k_int_int | exact T.k_int_bool | exact T.k_tuple_tuple | exact T.k_str_str | exact T.k_list_list | exact T.k_tuple_list | exact T.k_NoneType_str | exact T.k_int_str | exact T.k_list_str | exact T.k_tuple_str)
set_option hygiene true
set_option maxHeartbeats 4000000
abbrev Adr.C_ProgramRows (a : Adr) : Addr := a.C_Table
abbrev Adr.G_AHEAD_OF_NAMES (a : Adr) : Addr := a.G_WHICH
abbrev Adr.G_NO_STATEMENT (a : Adr) : Addr := a.G_SET_NAMES
local macro_rules | `(tactic| walk_at "sc") => `(tactic| exact ⟨rfl, rfl, rfl, by decide +kernel, rfl, by decide +kernel, by decide +kernel⟩)
def top (i : Nat) : Stmt := PySem.Challenge.pw_frameback_k72_program_texts_refused.main.body.getD i (.Pass ⟨0, 0, 0, 0⟩)
abbrev s_is_number : Stmt := top 7
theorem sc_is_number : FnScope ["word"] ["word"] (defScope s_is_number) := by walk_at "sc"
abbrev s_read_number : Stmt := top 8
theorem sc_read_number : FnScope ["word"] ["word"] (defScope s_read_number) := by walk_at "sc"
abbrev s_is_whole : Stmt := top 11
theorem sc_is_whole : FnScope ["number"] ["number"] (defScope s_is_whole) := by walk_at "sc"
abbrev s_asked_for_text : Stmt := top 13
theorem sc_asked_for_text : FnScope ["text"] ["text"] (defScope s_asked_for_text) := by walk_at "sc"
abbrev s_is_up_to : Stmt := top 21
theorem sc_is_up_to : FnScope ["thing", "top"] ["thing", "top"] (defScope s_is_up_to) := by walk_at "sc"
abbrev s_is_name : Stmt := top 22
theorem sc_is_name : FnScope ["thing"] ["thing"] (defScope s_is_name) := by walk_at "sc"
abbrev s_are_names : Stmt := top 23
theorem sc_are_names : FnScope ["things"] ["things"] (defScope s_are_names) := by walk_at "sc"
abbrev s_is_part : Stmt := top 24
theorem sc_is_part : FnScope ["part", "kind", "functions"] ["part", "kind", "functions"] (defScope s_is_part) := by walk_at "sc"
abbrev s_is_statement : Stmt := top 25
theorem sc_is_statement : FnScope ["statement", "handed", "kinds"] ["statement", "handed"] (defScope s_is_statement) := by walk_at "sc"
abbrev s_lists_within : Stmt := top 26
theorem sc_lists_within : FnScope ["statement"] ["statement"] (defScope s_lists_within) := by walk_at "sc"
abbrev s_are_statements : Stmt := top 27
theorem sc_are_statements : FnScope ["bodies", "handed", "waiting", "many", "found", "statement", "inner"] ["bodies", "handed"] (defScope s_are_statements) := by walk_at "sc"
abbrev s_is_function : Stmt := top 28
theorem sc_is_function : FnScope ["function"] ["function"] (defScope s_is_function) := by walk_at "sc"
abbrev s_is_program : Stmt := top 29
theorem sc_is_program : FnScope ["program"] ["program"] (defScope s_is_program) := by walk_at "sc"
abbrev s_asked_for_program : Stmt := top 30
theorem sc_asked_for_program : FnScope ["program"] ["program"] (defScope s_asked_for_program) := by walk_at "sc"
abbrev s_has_count : Stmt := top 38
theorem sc_has_count : FnScope ["word", "many"] ["word", "many"] (defScope s_has_count) := by walk_at "sc"
abbrev s_read_words : Stmt := top 39
theorem sc_read_words : FnScope ["row", "words"] ["row"] (defScope s_read_words) := by walk_at "sc"
abbrev s_plain_statement : Stmt := top 40
theorem sc_plain_statement : FnScope ["row", "ahead"] ["row"] (defScope s_plain_statement) := by walk_at "sc"
abbrev s_ProgramRows_init : Stmt := inClass (top 41) 0
theorem sc_ProgramRows_init : FnScope ["self", "rows"] ["self", "rows"] (defScope s_ProgramRows_init) := by walk_at "sc"
abbrev s_ProgramRows_next_word : Stmt := inClass (top 41) 1
theorem sc_ProgramRows_next_word : FnScope ["self"] ["self"] (defScope s_ProgramRows_next_word) := by walk_at "sc"
abbrev s_ProgramRows_take_row : Stmt := inClass (top 41) 2
theorem sc_ProgramRows_take_row : FnScope ["self", "word"] ["self", "word"] (defScope s_ProgramRows_take_row) := by walk_at "sc"
abbrev s_ProgramRows_statements : Stmt := inClass (top 41) 3
theorem sc_ProgramRows_statements : FnScope ["self", "within", "told"] ["self", "within"] (defScope s_ProgramRows_statements) := by walk_at "sc"
abbrev s_ProgramRows_statement : Stmt := inClass (top 41) 4
theorem sc_ProgramRows_statement : FnScope ["self", "within", "row", "some", "between", "others"] ["self", "within"] (defScope s_ProgramRows_statement) := by walk_at "sc"
abbrev s_ProgramRows_functions : Stmt := inClass (top 41) 5
theorem sc_ProgramRows_functions : FnScope ["self", "told", "row"] ["self"] (defScope s_ProgramRows_functions) := by walk_at "sc"
abbrev s_read_program : Stmt := top 42
theorem sc_read_program : FnScope ["text", "program"] ["text"] (defScope s_read_program) := by walk_at "sc"
abbrev s_law_cell_at : Stmt := top 44
theorem sc_law_cell_at : FnScope ["_law_script", "_law_k"] ["_law_script", "_law_k"] (defScope s_law_cell_at) := by walk_at "sc"
abbrev s_law_row : Stmt := top 45
theorem sc_law_row : FnScope ["_law_cell", "_law_x", "_law_y", "_law_some"] ["_law_cell"] (defScope s_law_row) := by walk_at "sc"
abbrev s_law_blocked : Stmt := top 46
theorem sc_law_blocked : FnScope ["_law_row_here", "_law_cell", "_law_x"] ["_law_row_here", "_law_cell"] (defScope s_law_blocked) := by walk_at "sc"
abbrev s_law_text : Stmt := top 47
theorem sc_law_text : FnScope ["_law_script", "_law_rows", "_law_k"] ["_law_script"] (defScope s_law_text) := by walk_at "sc"
abbrev s_law_places : Stmt := top 48
theorem sc_law_places : FnScope ["_law_text_here", "_law_sign"] ["_law_text_here", "_law_sign"] (defScope s_law_places) := by walk_at "sc"
abbrev s_law_without_end : Stmt := top 49
theorem sc_law_without_end : FnScope ["_law_text_here"] ["_law_text_here"] (defScope s_law_without_end) := by walk_at "sc"
abbrev s_law_numbered : Stmt := top 50
theorem sc_law_numbered : FnScope ["_law_text_here", "_law_cell", "_law_number"] ["_law_text_here", "_law_cell"] (defScope s_law_numbered) := by walk_at "sc"
abbrev s_law_spoiled : Stmt := top 51
theorem sc_law_spoiled : FnScope ["_law_text_here", "_law_way", "_law_cell", "_law_blanks", "_law_at"] ["_law_text_here", "_law_way", "_law_cell"] (defScope s_law_spoiled) := by walk_at "sc"
abbrev s_law_no_program : Stmt := top 52
theorem sc_law_no_program : FnScope ["_law_way", "_law_far"] ["_law_way", "_law_far"] (defScope s_law_no_program) := by walk_at "sc"
abbrev s_law_told : Stmt := top 53
theorem sc_law_told : FnScope ["_law_text_here", "_law_word", "_law_fits", "e"] ["_law_text_here"] (defScope s_law_told) := by walk_at "sc"
abbrev s_law : Stmt := top 54
theorem sc_law : FnScope ["_law_script", "_law_text_here", "_law_cell", "_law_way", "_law_long"] ["_law_script"] (defScope s_law) := by walk_at "sc"
abbrev TFn (K : PySem.W.Frag) (mg : Str → Option Value) (x : Str) (st : Stmt) (ps : List Str) : Prop := ∃ f fd, Fun K x x st f fd ∧ mg x = some (.ref f) ∧ Binds K fd ps []
abbrev TMt (K : PySem.W.Frag) (C : Addr) (x q : Str) (st : Stmt) (ps : List Str) : Prop := ∃ f fd, Fun K x q st f fd ∧ Meth K C x f ∧ Binds K fd ps []
abbrev TIn (K : PySem.W.Frag) (C : Addr) (q : Str) (st : Stmt) (ps : List Str) : Prop := ∃ f fd, Fun K "__init__" q st f fd ∧ Mk K C f ∧ Binds K fd ps []
structure Txt (w : World) (K : PySem.W.Frag) (mg : Str → Option Value) (a : Adr) : Prop where
 z_all : mg "all" = none
 z_bool : mg "bool" = none
 z_int : mg "int" = none
 z_isinstance : mg "isinstance" = none
 z_len : mg "len" = none
 z_list : mg "list" = none
 z_range : mg "range" = none
 z_str : mg "str" = none
 z_tuple : mg "tuple" = none
 z_zip : mg "zip" = none
 s_AHEAD_OF_NAMES : mg "AHEAD_OF_NAMES" = some (.ref a.G_AHEAD_OF_NAMES)
 d_AHEAD_OF_NAMES : ConD w K a.G_AHEAD_OF_NAMES [("call", 2), ("hand", 1)]
 s_COUNTS : mg "COUNTS" = some (.ref a.G_COUNTS)
 d_COUNTS : ConD w K a.G_COUNTS [("fun", 1), ("set", 2), ("copy", 2), ("sum", 3), ("minus", 3), ("product", 3), ("less", 3), ("drop", 1), ("give", 1), ("if", 1), ("else", 0), ("while", 1), ("try", 0), ("landing", 1), ("end", 0)]
 g_FIGURES : ∃ t, mg "FIGURES" = some (Value.str "0123456789" t)
 g_MOST_FIGURES : ∃ t, mg "MOST_FIGURES" = some (Value.int 10 t)
 s_NO_STATEMENT : mg "NO_STATEMENT" = some (.ref a.G_NO_STATEMENT)
 t_NO_STATEMENT : (∀ H, SqT K H a.G_NO_STATEMENT [.str "fun", .str "else", .str "landing", .str "end", .str ""])
 g_PARTING : ∃ t, mg "PARTING" = some (Value.str "; " t)
 s_PARTS : mg "PARTS" = some (.ref a.G_PARTS)
 d_PARTS : ∃ q0 q1 q2 q3 q4 q5 q6 q7 q8 q9 q10 q11 q12 : Addr, ConR w K a.G_PARTS [("set", .ref q0), ("copy", .ref q1), ("sum", .ref q2), ("minus", .ref q3), ("product", .ref q4), ("less", .ref q5), ("call", .ref q6), ("if", .ref q7), ("while", .ref q8), ("try", .ref q9), ("drop", .ref q10), ("give", .ref q11), ("hand", .ref q12)] ∧ (∀ H, SqT K H q0 [.str "name", .str "value"]) ∧ (∀ H, SqT K H q1 [.str "name", .str "name"]) ∧ (∀ H, SqT K H q2 [.str "name", .str "name", .str "name"]) ∧ (∀ H, SqT K H q3 [.str "name", .str "name", .str "name"]) ∧ (∀ H, SqT K H q4 [.str "name", .str "name", .str "name"]) ∧ (∀ H, SqT K H q5 [.str "name", .str "name", .str "name"]) ∧ (∀ H, SqT K H q6 [.str "name", .str "function", .str "names"]) ∧ (∀ H, SqT K H q7 [.str "name", .str "statements", .str "statements"]) ∧ (∀ H, SqT K H q8 [.str "name", .str "statements"]) ∧ (∀ H, SqT K H q9 [.str "statements", .str "name", .str "statements"]) ∧ (∀ H, SqT K H q10 [.str "name"]) ∧ (∀ H, SqT K H q11 [.str "name"]) ∧ (∀ H, SqT K H q12 [.str "function", .str "names"])
 g_TOP_FUNCTIONS : ∃ t, mg "TOP_FUNCTIONS" = some (Value.int 8 t)
 g_TOP_HANDED : ∃ t, mg "TOP_HANDED" = some (Value.int 3 t)
 g_TOP_NAME : ∃ t, mg "TOP_NAME" = some (Value.int 5 t)
 g_TOP_READ_WITHIN : ∃ t, mg "TOP_READ_WITHIN" = some (Value.int 40 t)
 g_TOP_SIGNS : ∃ t, mg "TOP_SIGNS" = some (Value.int 8000 t)
 g_TOP_STATEMENTS : ∃ t, mg "TOP_STATEMENTS" = some (Value.int 80 t)
 g_TOP_VALUE : ∃ t, mg "TOP_VALUE" = some (Value.int 4294967295 t)
 g_TOP_WITHIN : ∃ t, mg "TOP_WITHIN" = some (Value.int 4 t)
 c_FrameError : mg "FrameError" = some (.ref a.C_FrameError)
 c_NoProgram : mg "NoProgram" = some (.ref a.C_NoProgram)
 c_NoText : mg "NoText" = some (.ref a.C_NoText)
 c_ProgramRows : mg "ProgramRows" = some (.ref a.C_ProgramRows)
 cl_ProgramRows : Cls K a.C_ProgramRows
 n_ProgramRows_rows : NoAttr K a.C_ProgramRows "rows"
 n_ProgramRows_mark : NoAttr K a.C_ProgramRows "mark"
 i_ProgramRows : TIn K a.C_ProgramRows "ProgramRows.__init__" s_ProgramRows_init ["self", "rows"]
 m_ProgramRows_functions : TMt K a.C_ProgramRows "functions" "ProgramRows.functions" s_ProgramRows_functions ["self"]
 m_ProgramRows_next_word : TMt K a.C_ProgramRows "next_word" "ProgramRows.next_word" s_ProgramRows_next_word ["self"]
 m_ProgramRows_statement : TMt K a.C_ProgramRows "statement" "ProgramRows.statement" s_ProgramRows_statement ["self", "within"]
 m_ProgramRows_statements : TMt K a.C_ProgramRows "statements" "ProgramRows.statements" s_ProgramRows_statements ["self", "within"]
 m_ProgramRows_take_row : TMt K a.C_ProgramRows "take_row" "ProgramRows.take_row" s_ProgramRows_take_row ["self", "word"]
 x_FrameError : ExcC K mg "FrameError" a.C_FrameError
 xk_FrameError : ExcK K a.C_FrameError
 x_NoText : ExcC K mg "NoText" a.C_NoText
 xk_NoText : ExcK K a.C_NoText
 x_NoProgram : ExcC K mg "NoProgram" a.C_NoProgram
 xk_NoProgram : ExcK K a.C_NoProgram
 no_NoProgram_NoText : PySem.W.mroIn K a.C_NoProgram (.ref a.C_NoText) = some false
 is_NoText_FrameError : PySem.W.kitOne K (.ref a.C_NoText) (.ref a.C_FrameError) = some true
 is_NoText_NoProgram : PySem.W.kitOne K (.ref a.C_NoText) (.ref a.C_NoProgram) = some false
 is_NoProgram_FrameError : PySem.W.kitOne K (.ref a.C_NoProgram) (.ref a.C_FrameError) = some true
 is_NoProgram_NoText : PySem.W.kitOne K (.ref a.C_NoProgram) (.ref a.C_NoText) = some false
 k_int_int : PySem.W.kitOne K (.type "int") (.type "int") = some true
 k_int_bool : PySem.W.kitOne K (.type "int") (.type "bool") = some false
 k_tuple_tuple : PySem.W.kitOne K (.type "tuple") (.type "tuple") = some true
 k_str_str : PySem.W.kitOne K (.type "str") (.type "str") = some true
 k_list_list : PySem.W.kitOne K (.type "list") (.type "list") = some true
 k_tuple_list : PySem.W.kitOne K (.type "tuple") (.type "list") = some false
 k_NoneType_str : PySem.W.kitOne K (.type "NoneType") (.type "str") = some false
 k_int_str : PySem.W.kitOne K (.type "int") (.type "str") = some false
 k_list_str : PySem.W.kitOne K (.type "list") (.type "str") = some false
 k_tuple_str : PySem.W.kitOne K (.type "tuple") (.type "str") = some false
 fn_is_number : TFn K mg "is_number" s_is_number ["word"]
 fn_read_number : TFn K mg "read_number" s_read_number ["word"]
 fn_is_whole : TFn K mg "is_whole" s_is_whole ["number"]
 fn_asked_for_text : TFn K mg "asked_for_text" s_asked_for_text ["text"]
 fn_is_up_to : TFn K mg "is_up_to" s_is_up_to ["thing", "top"]
 fn_is_name : TFn K mg "is_name" s_is_name ["thing"]
 fn_are_names : TFn K mg "are_names" s_are_names ["things"]
 fn_is_part : TFn K mg "is_part" s_is_part ["part", "kind", "functions"]
 fn_is_statement : TFn K mg "is_statement" s_is_statement ["statement", "handed"]
 fn_lists_within : TFn K mg "lists_within" s_lists_within ["statement"]
 fn_are_statements : TFn K mg "are_statements" s_are_statements ["bodies", "handed"]
 fn_is_function : TFn K mg "is_function" s_is_function ["function"]
 fn_is_program : TFn K mg "is_program" s_is_program ["program"]
 fn_asked_for_program : TFn K mg "asked_for_program" s_asked_for_program ["program"]
 fn_has_count : TFn K mg "has_count" s_has_count ["word", "many"]
 fn_read_words : TFn K mg "read_words" s_read_words ["row"]
 fn_plain_statement : TFn K mg "plain_statement" s_plain_statement ["row"]
 fn_read_program : TFn K mg "read_program" s_read_program ["text"]
 fn_law_cell_at : TFn K mg "_law_cell_at" s_law_cell_at ["_law_script", "_law_k"]
 fn_law_row : TFn K mg "_law_row" s_law_row ["_law_cell"]
 fn_law_blocked : TFn K mg "_law_blocked" s_law_blocked ["_law_row_here", "_law_cell"]
 fn_law_text : TFn K mg "_law_text" s_law_text ["_law_script"]
 fn_law_places : TFn K mg "_law_places" s_law_places ["_law_text_here", "_law_sign"]
 fn_law_without_end : TFn K mg "_law_without_end" s_law_without_end ["_law_text_here"]
 fn_law_numbered : TFn K mg "_law_numbered" s_law_numbered ["_law_text_here", "_law_cell"]
 fn_law_spoiled : TFn K mg "_law_spoiled" s_law_spoiled ["_law_text_here", "_law_way", "_law_cell"]
 fn_law_no_program : TFn K mg "_law_no_program" s_law_no_program ["_law_way", "_law_far"]
 fn_law_told : TFn K mg "_law_told" s_law_told ["_law_text_here"]
 fn_law : TFn K mg "law" s_law ["_law_script"]
theorem r_gTup {K : PySem.W.Frag} {p : Addr} {xs : List V} {n : Nat} {t : TGs} {σ : L2.St} {H : Hp} {Q : L2.St → Hp → Prop} (h : SqT K H p xs) (hl : xs.length = n) (q : t xs σ H Q) : gTup K n t (.ref p) σ H Q := ⟨p, xs, rfl, h, hl, q⟩
theorem r_gCons {t : TG} {u : TGs} {v : V} {r : List V} {σ : L2.St} {H : Hp} {Q : L2.St → Hp → Prop} (q : t v σ H fun σ' H' => u r σ' H' Q) : gCons t u (v :: r) σ H Q := ⟨v, r, rfl, q⟩
theorem r_gNil {σ : L2.St} {H : Hp} {Q : L2.St → Hp → Prop} (q : Q σ H) : gNil [] σ H Q := ⟨rfl, q⟩
theorem putF_len {f : Str} {v w : V} : ∀ {fs : List (Str × V)}, fs.lookup f = some w → (putF f v fs).length = fs.length
 | [], h => by cases h
 | (g, x) :: r, h => by
   by_cases e : g = f
   · show (if g = f then (g, v) :: r else (g, x) :: putF f v r).length = _
     rw [if_pos e]; rfl
   · have hb : (f == g) = false := beq_eq_false_iff_ne.mpr (fun z => e z.symm)
     rw [List.lookup_cons, hb] at h
     show (if g = f then (g, v) :: r else (g, x) :: putF f v r).length = _
     rw [if_neg e, List.length_cons, putF_len h]; rfl
theorem cut_tailV (x : V) (r : List V) : cutV (x :: r) (some 1) none = r := by
 unfold cutV
 have e1 : HT.sIx (x :: r).length 0 (some 1) = 1 := by
   rw [show HT.sIx (x :: r).length 0 (some 1) = min 1 (x :: r).length from HT.sIx_nat _ _ 1, List.length_cons]; omega
 have e2 : HT.sIx (x :: r).length (x :: r).length none = (x :: r).length := rfl
 rw [e1, e2, List.length_cons, List.drop_succ_cons, List.drop_zero, Nat.add_sub_cancel, List.take_length]
inductive Sm where
 | set (x v : Int) | copy (x y : Int) | sum (x y z : Int) | minus (x y z : Int) | product (x y z : Int) | less (x y z : Int) | give (x : Int) | leave (x : Int)
def Sm.vs : Sm → List V
 | .set x v => [.str "set", .int x, .int v]
 | .copy x y => [.str "copy", .int x, .int y]
 | .sum x y z => [.str "sum", .int x, .int y, .int z]
 | .minus x y z => [.str "minus", .int x, .int y, .int z]
 | .product x y z => [.str "product", .int x, .int y, .int z]
 | .less x y z => [.str "less", .int x, .int y, .int z]
 | .give x => [.str "give", .int x]
 | .leave x => [.str "leave", .int x]
def isN (x : Int) : Prop := 0 ≤ x ∧ x ≤ 5
def Sm.ok : Sm → Prop
 | .set x v => isN x ∧ isVal v
 | .copy x y => isN x ∧ isN y
 | .sum x y z | .minus x y z | .product x y z | .less x y z => isN x ∧ isN y ∧ isN z
 | .give x => isN x
 | .leave _ => False
theorem at_head (x : V) (xs : List V) : atI (x :: xs) 0 = some x := atI_nat (xs := x :: xs) (j := 0) (v := x) rfl
theorem cut_tail_neV (x : V) (r : List V) : ¬ (HT.sIx (x :: r).length 0 (some 1) = 0 ∧ HT.sIx (x :: r).length (x :: r).length none = (x :: r).length) := by
 intro z
 have e1 : HT.sIx (x :: r).length 0 (some 1) = 1 := by
   rw [show HT.sIx (x :: r).length 0 (some 1) = min 1 (x :: r).length from HT.sIx_nat _ _ 1, List.length_cons]; omega
 rw [e1] at z
 exact Nat.noConfusion z.1
inductive Stm where
 | pl (s : Sm) | call (x f : Int) (ns : List Int) (l : Bool) | hand (f : Int) (ns : List Int) (l : Bool) | drop (x : Int)
 | ifS (x : Int) (a b : List Stm) | whileS (x : Int) (a : List Stm) | tryS (a : List Stm) (x : Int) (b : List Stm)
def nmO (ns : List Int) (l : Bool) : HO := if l = true then .lst (ns.map V.int) else .tup (ns.map V.int)
def Each {α : Type} (R : Addr → α → Prop) (ps : List Addr) (xs : List α) : Prop := ps.length = xs.length ∧ ∀ (i : Nat) (p : Addr) (x : α), ps[i]? = some p → xs[i]? = some x → R p x
theorem Each.mono {α : Type} {R R' : Addr → α → Prop} {ps : List Addr} {xs : List α} (h : Each R ps xs) (k : ∀ p x, R p x → R' p x) : Each R' ps xs := ⟨h.1, fun i p x e1 e2 => k p x (h.2 i p x e1 e2)⟩
theorem Each.nil {α : Type} {R : Addr → α → Prop} : Each R [] [] := ⟨rfl, fun i p r e => by simp at e⟩
theorem Each.snoc {α : Type} {R : Addr → α → Prop} {ps : List Addr} {ss : List α} {p : Addr} {s : α} (h : Each R ps ss) (q : R p s) : Each R (ps ++ [p]) (ss ++ [s]) := by
 refine ⟨by rw [List.length_append, List.length_append, h.1]; rfl, fun i p' r' e1 e2 => ?_⟩
 by_cases hi : i < ss.length
 · rw [List.getElem?_append_left (by rw [h.1]; exact hi)] at e1
   rw [List.getElem?_append_left hi] at e2
   exact h.2 i p' r' e1 e2
 · rw [List.getElem?_append_right (by rw [h.1]; omega), h.1] at e1
   rw [List.getElem?_append_right (by omega)] at e2
   cases hj : i - ss.length with
   | zero => rw [hj] at e1 e2; simp at e1 e2; subst e1 e2; exact q
   | succ j => rw [hj] at e1; simp at e1
def BdAt (R : Addr → Stm → Prop) (H : Hp) (l : Addr) (ss : List Stm) : Prop := ∃ ps : List Addr, H l = some (.lst (ps.map V.ref)) ∧ Each R ps ss
def StAt (H : Hp) : Nat → Addr → Stm → Prop
 | 0, _, _ => False
 | d + 1, p, s => match s with
   | .pl s => H p = some (.tup s.vs)
   | .call x f ns l => ∃ q, H p = some (.tup [.str "call", .int x, .int f, .ref q]) ∧ H q = some (nmO ns l)
   | .hand f ns l => ∃ q, H p = some (.tup [.str "hand", .int f, .ref q]) ∧ H q = some (nmO ns l)
   | .drop x => H p = some (.tup [.str "drop", .int x])
   | .ifS x a b => ∃ la lb, H p = some (.tup [.str "if", .int x, .ref la, .ref lb]) ∧ BdAt (StAt H d) H la a ∧ BdAt (StAt H d) H lb b
   | .whileS x a => ∃ la, H p = some (.tup [.str "while", .int x, .ref la]) ∧ BdAt (StAt H d) H la a
   | .tryS a x b => ∃ la lb, H p = some (.tup [.str "try", .ref la, .int x, .ref lb]) ∧ BdAt (StAt H d) H la a ∧ BdAt (StAt H d) H lb b
theorem BdAt.same {R R' : Addr → Stm → Prop} {H H' : Hp} {l : Addr} {ss : List Stm} (s : Same H H') (k : ∀ p x, R p x → R' p x) (h : BdAt R H l ss) : BdAt R' H' l ss := let ⟨ps, e, q⟩ := h; ⟨ps, s _ _ e, q.mono k⟩
theorem StAt.same {H H' : Hp} (s : Same H H') : ∀ {d : Nat} {p : Addr} {x : Stm}, StAt H d p x → StAt H' d p x
 | 0, _, _, h => h.elim
 | d + 1, p, x, h => by
   cases x with
   | pl x => exact s _ _ h
   | call x f ns l => obtain ⟨q, h1, h2⟩ := h; exact ⟨q, s _ _ h1, s _ _ h2⟩
   | hand f ns l => obtain ⟨q, h1, h2⟩ := h; exact ⟨q, s _ _ h1, s _ _ h2⟩
   | drop x => exact s _ _ h
   | ifS x a b => obtain ⟨la, lb, h1, h2, h3⟩ := h; exact ⟨la, lb, s _ _ h1, h2.same s (fun _ _ => StAt.same s), h3.same s (fun _ _ => StAt.same s)⟩
   | whileS x a => obtain ⟨la, h1, h2⟩ := h; exact ⟨la, s _ _ h1, h2.same s (fun _ _ => StAt.same s)⟩
   | tryS a x b => obtain ⟨la, lb, h1, h2, h3⟩ := h; exact ⟨la, lb, s _ _ h1, h2.same s (fun _ _ => StAt.same s), h3.same s (fun _ _ => StAt.same s)⟩
def OkS (hd : List Int) : Nat → Stm → Prop
 | 0, _ => False
 | d + 1, s => match s with
   | .pl s => s.ok
   | .call x f ns _ => isN x ∧ 0 ≤ f ∧ (∀ n ∈ ns, isN n) ∧ hd[f.toNat]? = some (ns.length : Int)
   | .hand f ns _ => 0 ≤ f ∧ (∀ n ∈ ns, isN n) ∧ hd[f.toNat]? = some (ns.length : Int)
   | .drop x => isN x
   | .ifS x a b => isN x ∧ 0 < d ∧ (∀ s ∈ a, OkS hd d s) ∧ (∀ s ∈ b, OkS hd d s)
   | .whileS x a => isN x ∧ 0 < d ∧ (∀ s ∈ a, OkS hd d s)
   | .tryS a x b => isN x ∧ 0 < d ∧ (∀ s ∈ a, OkS hd d s) ∧ (∀ s ∈ b, OkS hd d s)
def cnt1 : Nat → Stm → Nat
 | 0, _ => 1
 | d + 1, s => match s with
   | .ifS _ a b => 1 + (a.map (cnt1 d)).sum + (b.map (cnt1 d)).sum
   | .whileS _ a => 1 + (a.map (cnt1 d)).sum
   | .tryS a _ b => 1 + (a.map (cnt1 d)).sum + (b.map (cnt1 d)).sum
   | _ => 1
def cntL (d : Nat) (ss : List Stm) : Nat := (ss.map (cnt1 d)).sum
def kindsT : List (Str × List Str) := [("set", ["name", "value"]), ("copy", ["name", "name"]), ("sum", ["name", "name", "name"]), ("minus", ["name", "name", "name"]), ("product", ["name", "name", "name"]), ("less", ["name", "name", "name"]), ("call", ["name", "function", "names"]), ("if", ["name", "statements", "statements"]), ("while", ["name", "statements"]), ("try", ["statements", "name", "statements"]), ("drop", ["name"]), ("give", ["name"]), ("hand", ["function", "names"])]
def spWhI : Sp := fun vs H Q _ => ∃ i : Int, vs = [.int i] ∧ 0 ≤ i ∧ Q (.bl true) H
def spWithin : Sp := fun vs H Q _ => ∃ (p : Addr) (w : Str) (xs : List (V × Str)) (ls : List Addr), vs = [.ref p] ∧ H p = some (.tup (.str w :: xs.map (·.1))) ∧ (w, xs.map (·.2)) ∈ kindsT ∧ xs.length ≤ 3 ∧ (xs.filter fun x => decide (x.2 = ("statements" : Str))).map (·.1) = ls.map V.ref ∧ ∀ l H', Same H H' → H' l = some (.lst (ls.map V.ref)) → H l = none → Q (.ref l) H'
theorem tup_upd {H : Hp} {l : Addr} {ys : List V} {o : HO} (h : H l = some (.lst ys)) (b : Addr) (xs : List V) (e : H b = some (.tup xs)) : (upd H l o) b = some (.tup xs) := by
 rw [upd_ne (fun z => by subst z; rw [h] at e; cases e)]; exact e
structure ProgOk (fs : List (Int × List Stm)) : Prop where
 one : 1 ≤ fs.length
 few : fs.length ≤ 8
 hd : ∀ f ∈ fs, 0 ≤ f.1 ∧ f.1 ≤ 3
 ok : ∀ f ∈ fs, ∀ s ∈ f.2, OkS (fs.map (·.1)) 5 s
 cnt : (fs.map fun f => cntL 5 f.2).sum ≤ 80
def bodyOf : Option HO → Addr
 | some (.tup [_, .ref l]) => l
 | _ => 0
def numOf : Option HO → Int
 | some (.tup [.int n, _]) => n
 | _ => 0
theorem Each.map_eq {α β : Type} {R : Addr → α → Prop} {ps : List Addr} {xs : List α} {g : Addr → β} {k : α → β} (h : Each R ps xs) (hr : ∀ p x, R p x → g p = k x) : ps.map g = xs.map k := by
 refine List.ext_getElem? fun i => ?_
 rw [List.getElem?_map, List.getElem?_map]
 by_cases hi : i < xs.length
 · have hp : i < ps.length := by rw [h.1]; exact hi
   rw [List.getElem?_eq_getElem hi, List.getElem?_eq_getElem hp]
   exact congrArg some (hr _ _ (h.2 i _ _ (List.getElem?_eq_getElem hp) (List.getElem?_eq_getElem hi)))
 · have hl := h.1
   rw [List.getElem?_eq_none (show ps.length ≤ i by omega), List.getElem?_eq_none (show xs.length ≤ i by omega)]; rfl
theorem r_tyS {K : PySem.W.Frag} {x : Str} {H : Hp} {R : Prop} (q : R) : tyV K "str" (.str x) H ∧ R := ⟨rfl, q⟩
def FIGS : List Nat := [48, 49, 50, 51, 52, 53, 54, 55, 56, 57]
theorem ifStr {s t : Str} {A B : Prop} (h1 : s = t → A) (h2 : s ≠ t → B) : if decide (V.str s = V.str t) = true then A else B := by
 by_cases h : s = t
 · rw [if_pos (decide_eq_true (by rw [h]))]; exact h1 h
 · rw [if_neg (by rw [decide_eq_false (fun z => h (V.str.inj z))]; exact Bool.false_ne_true)]; exact h2 h
theorem r_plusS {K : PySem.W.Frag} {i j : Str} {H : Hp} {Q : VK} (hz : i.length + j.length ≤ sizeLine) (q : Q (.str (i ++ j)) H) : rPlus K (.str i) (.str j) H Q := .inr (.inr (.inr ⟨i, j, rfl, rfl, hz, q⟩))
theorem log_num {n : Int} (h0 : 0 ≤ n) (h1 : n < 10 ^ 10) : n.natAbs.log2 < 1920 := by
 by_cases h : n.natAbs = 0
 · rw [h]; decide
 · refine (Nat.log2_lt h).mpr (Nat.lt_of_lt_of_le (show n.natAbs < 2 ^ 34 by omega) (Nat.pow_le_pow_right (by decide) (by decide)))
local macro_rules | `(tactic| walk_at "mine") => `(tactic| first | (with_reducible refine r_rGet ?_) | (with_reducible refine r_gCons ?_) | (with_reducible refine r_gNil ?_) | (with_reducible refine r_zip ?_) | (with_reducible refine r_chain ?_) | (with_reducible refine r_dGet ?_) | (with_reducible refine r_raise ?_) | (with_reducible refine r_tyS ?_) | (with_reducible refine r_iStr ?_))
local macro_rules | `(tactic| walk_at "lk") => `(tactic| first | with_reducible assumption | (with_reducible exact look_hit) | (refine' look_of ?x ?y; (case x => decide +kernel); (case y => walk_at "lk")) | exact look_hit)
local macro_rules | `(tactic| walk_at "nolk") => `(tactic| first | with_reducible assumption | (with_reducible rfl) | (refine' look_no ?x ?y; (case x => decide +kernel); (case y => walk_at "nolk")) | rfl)
local macro_rules | `(tactic| walk_at "fewf") => `(tactic| first | exact Nat.lt_of_le_of_lt (by assumption) (by decide : 9 < 1000) | exact Nat.lt_of_le_of_lt (len_of (by assumption)) (by decide : 9 + 1 < 1000) | exact Nat.lt_of_le_of_lt (len_of (len_of (by assumption))) (by decide : 9 + 1 + 1 < 1000) | exact Nat.lt_of_le_of_lt (Nat.le_refl 0) (by decide) | exact Nat.lt_of_le_of_lt (len_of (Nat.le_refl 0)) (by decide) | exact Nat.lt_of_le_of_lt (len_of (len_of (Nat.le_refl 0))) (by decide) | exact Nat.lt_of_le_of_lt (len_of (len_of (len_of (Nat.le_refl 0)))) (by decide) | exact Nat.lt_of_le_of_lt (len_of (len_of (len_of (len_of (Nat.le_refl 0))))) (by decide))
local macro_rules | `(tactic| walk_at "rq") => `(tactic| (walk_at "rk"; repeat (((with_reducible refine' r_plusL ?x ?y ?z (fun _ _ => ?_)); (case x => walk_at "hlk"); (case y => walk_at "hlk"); (case z => walk_at "small")); walk_at "rk")))
local macro_rules | `(tactic| walk_at "rk") => `(tactic| repeat (first | walk_at "r1" | walk_at "r3" | walk_at "cond" | walk_at "calls" | walk_at "mine" | ((with_reducible refine' r_eqS ?h ?_); (case h => rfl)) | ((with_reducible refine' r_neS ?h ?_); (case h => rfl)) | ((with_reducible refine' r_fldV ?h ?c ?n ?l ?_); (case h => walk_at "hlk"); (case c => walk_at "cls"); (case n => walk_at "noat"); (case l => walk_at "lk"))))
section
variable {P : Program} {w : World} {K : PySem.W.Frag} {mg : Str → Option Value} {base : Heap} {a : Adr}
theorem r_inCN {w : World} {K : PySem.W.Frag} {a : Addr} {kvs : List (Str × Int)} {t : Str} {H : Hp} {Q : VK} (c : ConD w K a kvs) (e : valV (conV kvs) (.inr t) = none) (q : Q (.bl false) H) : rInC w K false (.str t) (.ref a) H Q := r_inC c (by rw [if_neg (by decide), e]; exact q)
theorem r_inCY {w : World} {K : PySem.W.Frag} {a : Addr} {kvs : List (Str × Int)} {t : Str} {v : V} {H : Hp} {Q : VK} (c : ConD w K a kvs) (e : valV (conV kvs) (.inr t) = some v) (q : Q (.bl true) H) : rInC w K false (.str t) (.ref a) H Q := r_inC c (by rw [if_neg (by decide), e]; exact q)
theorem r_nCN {w : World} {K : PySem.W.Frag} {a : Addr} {kvs : List (Str × Int)} {t : Str} {H : Hp} {Q : VK} (c : ConD w K a kvs) (e : valV (conV kvs) (.inr t) = none) (q : Q (.bl true) H) : rInC w K true (.str t) (.ref a) H Q := r_inC c (by rw [if_pos rfl, e]; exact q)
theorem r_nCY {w : World} {K : PySem.W.Frag} {a : Addr} {kvs : List (Str × Int)} {t : Str} {v : V} {H : Hp} {Q : VK} (c : ConD w K a kvs) (e : valV (conV kvs) (.inr t) = some v) (q : Q (.bl false) H) : rInC w K true (.str t) (.ref a) H Q := r_inC c (by rw [if_pos rfl, e]; exact q)
theorem zip_l {α β : Type} {g : α → V} {a : List α} {b : List β} (h : a.length = b.length) : (a.zip b).map (fun x => g x.1) = a.map g := by
 have e := congrArg (List.map g) (List.map_fst_zip (Nat.le_of_eq h))
 rw [List.map_map] at e
 exact e
theorem zip_r {α β : Type} {a : List α} {b : List β} (h : a.length = b.length) : (a.zip b).map (·.2) = b := List.map_snd_zip (Nat.le_of_eq h.symm)
theorem map_at {α : Type} {g : α → V} {xs : List α} {i : Nat} {v : V} (h : (xs.map g)[i]? = some v) : ∃ x, xs[i]? = some x ∧ v = g x := by
 rw [List.getElem?_map] at h
 obtain ⟨p, hp, e⟩ := Option.map_eq_some_iff.mp h
 exact ⟨p, hp, e.symm⟩
theorem take_snoc {α : Type} {xs : List α} {i : Nat} {x : α} (h : xs[i]? = some x) : xs.take (i + 1) = xs.take i ++ [x] := by rw [List.take_add_one, h]; rfl
theorem r_fstrC {x y : Str} {n : Int} {σ : L2.St} {H : Hp} {Q : VK} (h1 : n.natAbs.log2 < 1920) (h2 : (Str.empty ++ x ++ Str.ofString (toString n)).length ≤ sizeLine) (h3 : (Str.empty ++ x ++ Str.ofString (toString n) ++ y).length ≤ sizeLine) (q : Q (.str (Str.empty ++ x ++ Str.ofString (toString n) ++ y)) H) : tFstr x y (tC (.int n)) σ H Q := ⟨n, rfl, h1, h2, h3, q⟩
theorem parts_of (T : Txt w K mg a) : ∃ kvs, ConR w K a.G_PARTS kvs ∧ ∀ (w' : Str) (ks : List Str), (w', ks) ∈ kindsT → ∃ q, valV (conRV kvs) (.inr w') = some (.ref q) ∧ ∀ H, SqT K H q (ks.map V.str) := by
 obtain ⟨q0, q1, q2, q3, q4, q5, q6, q7, q8, q9, q10, q11, q12, C, t0, t1, t2, t3, t4, t5, t6, t7, t8, t9, t10, t11, t12⟩ := T.d_PARTS
 refine ⟨_, C, fun w' ks h => ?_⟩
 simp only [kindsT, List.mem_cons, Prod.mk.injEq, List.not_mem_nil, or_false] at h
 rcases h with ⟨rfl, rfl⟩ | ⟨rfl, rfl⟩ | ⟨rfl, rfl⟩ | ⟨rfl, rfl⟩ | ⟨rfl, rfl⟩ | ⟨rfl, rfl⟩ | ⟨rfl, rfl⟩ | ⟨rfl, rfl⟩ | ⟨rfl, rfl⟩ | ⟨rfl, rfl⟩ | ⟨rfl, rfl⟩ | ⟨rfl, rfl⟩ | ⟨rfl, rfl⟩
 · exact ⟨q0, rfl, t0⟩
 · exact ⟨q1, rfl, t1⟩
 · exact ⟨q2, rfl, t2⟩
 · exact ⟨q3, rfl, t3⟩
 · exact ⟨q4, rfl, t4⟩
 · exact ⟨q5, rfl, t5⟩
 · exact ⟨q6, rfl, t6⟩
 · exact ⟨q7, rfl, t7⟩
 · exact ⟨q8, rfl, t8⟩
 · exact ⟨q9, rfl, t9⟩
 · exact ⟨q10, rfl, t10⟩
 · exact ⟨q11, rfl, t11⟩
 · exact ⟨q12, rfl, t12⟩
theorem at_last1 {w : V} {pre : List V} {x y : V} : atI (w :: (pre ++ [x, y])) (-1) = some y := by
 have hl : (w :: (pre ++ [x, y])).length = pre.length + 3 := by simp
 unfold atI ixN
 rw [hl, if_neg (by decide), if_pos (by omega)]
 show (w :: (pre ++ [x, y]))[((-1 : Int) + ((pre.length + 3 : Nat) : Int)).toNat]? = _
 rw [show ((-1 : Int) + ((pre.length + 3 : Nat) : Int)).toNat = (pre.length + 1) + 1 by omega, List.getElem?_cons_succ, List.getElem?_append_right (by omega)]
 simp
theorem at_last2 {w : V} {pre : List V} {x y : V} : atI (w :: (pre ++ [x, y])) (-2) = some x := by
 have hl : (w :: (pre ++ [x, y])).length = pre.length + 3 := by simp
 unfold atI ixN
 rw [hl, if_neg (by decide), if_pos (by omega)]
 show (w :: (pre ++ [x, y]))[((-2 : Int) + ((pre.length + 3 : Nat) : Int)).toNat]? = _
 rw [show ((-2 : Int) + ((pre.length + 3 : Nat) : Int)).toNat = pre.length + 1 by omega, List.getElem?_cons_succ, List.getElem?_append_right (by omega)]
 simp
theorem Each.app {α : Type} {R : Addr → α → Prop} {ps qs : List Addr} {xs ys : List α} (h : Each R ps xs) (k : Each R qs ys) : Each R (ps ++ qs) (xs ++ ys) := by
 refine ⟨by rw [List.length_append, List.length_append, h.1, k.1], fun i p r e1 e2 => ?_⟩
 by_cases hi : i < xs.length
 · rw [List.getElem?_append_left (by rw [h.1]; exact hi)] at e1
   rw [List.getElem?_append_left hi] at e2
   exact h.2 i p r e1 e2
 · rw [List.getElem?_append_right (by rw [h.1]; omega), h.1] at e1
   rw [List.getElem?_append_right (by omega)] at e2
   exact k.2 _ p r e1 e2
theorem Each.last {α : Type} {R : Addr → α → Prop} {ps : List Addr} {xs : List α} (h : Each R ps xs) (hn : 0 < xs.length) : ∃ ps' p xs' x, ps = ps' ++ [p] ∧ xs = xs' ++ [x] ∧ Each R ps' xs' ∧ R p x := by
 have hl := h.1
 have hne : xs ≠ [] := fun z => by rw [z] at hn; cases hn
 have hpe : ps ≠ [] := fun z => by rw [z] at hl; exact hne (List.length_eq_zero_iff.mp hl.symm)
 have e1 := List.dropLast_concat_getLast hne
 have e2 := List.dropLast_concat_getLast hpe
 refine ⟨ps.dropLast, ps.getLast hpe, xs.dropLast, xs.getLast hne, e2.symm, e1.symm, ⟨by rw [List.length_dropLast, List.length_dropLast, hl], fun i p x a1 a2 => ?_⟩, ?_⟩
 · rw [List.getElem?_dropLast] at a1 a2
   split at a1
   · rw [if_pos (by omega)] at a2
     exact h.2 i p x a1 a2
   · cases a1
 · refine h.2 (xs.length - 1) _ _ ?_ ?_
   · rw [← hl, List.getLast_eq_getElem]; exact List.getElem?_eq_getElem _
   · rw [List.getLast_eq_getElem]; exact List.getElem?_eq_getElem _
def hid (l : Addr) (H : Hp) : Hp := fun b => if b = l then none else H b
theorem hid_to {l : Addr} {H : Hp} : Same (hid l H) H := fun b o e => by
 unfold hid at e
 split at e
 · cases e
 · exact e
theorem hid_at {l b : Addr} {H : Hp} {o : HO} (h : H b = some o) (n : b ≠ l) : hid l H b = some o := by unfold hid; rw [if_neg n]; exact h
section
open PySem.Builtin PySem.Builtin.Str
theorem fold_len (sep : Str) : ∀ (ts : List Str) (k : Nat), ts.foldl (fun n t => n + t.length + sep.length) k = k + (ts.map fun t => t.length + sep.length).sum
 | [], k => rfl
 | t :: r, k => by
   rw [List.foldl_cons, fold_len sep r, List.map_cons, List.sum_cons]; omega
theorem sum_le {α : Type} {f : α → Nat} {L : Nat} : ∀ (ts : List α), (∀ t ∈ ts, f t ≤ L) → (ts.map f).sum ≤ ts.length * L
 | [], _ => Nat.zero_le _
 | t :: r, h => by
   have h1 := sum_le r fun x hx => h x (List.mem_cons_of_mem _ hx)
   have h2 := h t (List.mem_cons_self ..)
   rw [List.map_cons, List.sum_cons, List.length_cons, Nat.succ_mul]; omega
theorem joinOk_of {sep : Str} {ts : List Str} {L N : Nat} (hL : ∀ t ∈ ts, t.length + sep.length ≤ L) (hN : ts.length ≤ N) (hz : N * L ≤ 1000000) : JoinOk sep ts = true := by
 unfold JoinOk
 rw [List.foldl_toArray, fold_len, Nat.zero_add]
 have h1 := sum_le (f := fun t : Str => t.length + sep.length) ts hL
 have h2 : ts.length * L ≤ N * L := Nat.mul_le_mul_right L hN
 unfold tooLong
 rw [decide_eq_false (by rw [sizeLine_eq]; omega)]; rfl
theorem join_le {sep : Str} {ts : List Str} {L N : Nat} (hL : ∀ t ∈ ts, t.length ≤ L) (hN : ts.length ≤ N) : (PySem.Str.join sep ts).length ≤ N * L + N * sep.length := by
 have h := PySem.StrLaws.join_length_le sep ts
 have h1 := sum_le (f := fun t : Str => t.length) ts hL
 have h2 : ts.length * L ≤ N * L := Nat.mul_le_mul_right L hN
 have h3 : ts.length * sep.length ≤ N * sep.length := Nat.mul_le_mul_right _ hN
 omega
abbrev RD := Str × List Int
def smR : Sm → RD
 | .set x v => ("set", [x, v])
 | .copy x y => ("copy", [x, y])
 | .sum x y z => ("sum", [x, y, z])
 | .minus x y z => ("minus", [x, y, z])
 | .product x y z => ("product", [x, y, z])
 | .less x y z => ("less", [x, y, z])
 | .give x => ("give", [x])
 | .leave x => ("leave", [x])
abbrev rd (w : Str) (ns : List Int) : RD := (w, ns)
def rowsS : Nat → Stm → List RD
 | 0, _ => []
 | d + 1, s => match s with
   | .pl s => [smR s]
   | .call x f ns _ => [("call", x :: f :: ns)]
   | .hand f ns _ => [("hand", f :: ns)]
   | .drop x => [("drop", [x])]
   | .ifS x a b => rd "if" [x] :: (a.flatMap (rowsS d) ++ rd "else" [] :: (b.flatMap (rowsS d) ++ [rd "end" []]))
   | .whileS x a => rd "while" [x] :: (a.flatMap (rowsS d) ++ [rd "end" []])
   | .tryS a x b => rd "try" [] :: (a.flatMap (rowsS d) ++ rd "landing" [x] :: (b.flatMap (rowsS d) ++ [rd "end" []]))
def rowsL (d : Nat) (ss : List Stm) : List RD := ss.flatMap (rowsS d)
def rowsP (fs : List (Int × List Stm)) : List RD := fs.flatMap fun f => rd "fun" [f.1] :: rowsL 5 f.2
def rowX (r : RD) : Str := PySem.Str.join " " (r.1 :: r.2.map numS)
def countsP : List (Str × Int) := [("fun", 1), ("set", 2), ("copy", 2), ("sum", 3), ("minus", 3), ("product", 3), ("less", 3), ("drop", 1), ("give", 1), ("if", 1), ("else", 0), ("while", 1), ("try", 0), ("landing", 1), ("end", 0)]
def aheadP : List (Str × Int) := [("call", 2), ("hand", 1)]
def wordsP : List Str := ["fun", "set", "copy", "sum", "minus", "product", "less", "drop", "give", "if", "else", "while", "try", "landing", "end", "call", "hand"]
theorem wordsP_free : ∀ w ∈ wordsP, 32 ∉ w.cps.toList ∧ 59 ∉ w.cps.toList ∧ w.length ≤ 7 := by decide +kernel
theorem numS_one {n : Int} (h0 : 0 ≤ n) (h1 : n ≤ 9) : (numS n).length = 1 := by
 have hn : n = 0 ∨ n = 1 ∨ n = 2 ∨ n = 3 ∨ n = 4 ∨ n = 5 ∨ n = 6 ∨ n = 7 ∨ n = 8 ∨ n = 9 := by omega
 rcases hn with rfl | rfl | rfl | rfl | rfl | rfl | rfl | rfl | rfl | rfl <;> rfl
theorem jn_mem (c : Nat) (sep : List Nat) (hs : c ∉ sep) : ∀ (ws : List (List Nat)), (∀ w ∈ ws, c ∉ w) → c ∉ jn sep ws
 | [], _ => by intro z; cases z
 | [w], hw => hw w (List.mem_cons_self ..)
 | w :: y :: r, hw => by
   show c ∉ w ++ (sep ++ jn sep (y :: r))
   rw [List.mem_append, List.mem_append]
   rintro (z | z | z)
   · exact hw w (List.mem_cons_self ..) z
   · exact hs z
   · exact jn_mem c sep hs (y :: r) (fun v hv => hw v (List.mem_cons_of_mem _ hv)) z
theorem rowX_nil (w : Str) : rowX (w, []) = w := str_eq (by unfold rowX; rw [join_toList]; rfl)
theorem rowX_one (w : Str) (x : Int) : rowX (w, [x]) = w ++ " " ++ numS x := str_eq (by
 unfold rowX
 rw [join_toList, str_app, str_app]
 show w.cps.toList ++ ((" " : Str).cps.toList ++ (numS x).cps.toList) = _
 rw [List.append_assoc])
def OkL (hd : List Int) : Nat → Stm → Prop
 | 0, _ => False
 | d + 1, s => match s with
   | .pl s => s.ok
   | .call x f ns l => isN x ∧ 0 ≤ f ∧ (∀ n ∈ ns, isN n) ∧ hd[f.toNat]? = some (ns.length : Int) ∧ l = true
   | .hand f ns l => 0 ≤ f ∧ (∀ n ∈ ns, isN n) ∧ hd[f.toNat]? = some (ns.length : Int) ∧ l = true
   | .drop x => isN x
   | .ifS x a b => isN x ∧ 0 < d ∧ (∀ s ∈ a, OkL hd d s) ∧ (∀ s ∈ b, OkL hd d s)
   | .whileS x a => isN x ∧ 0 < d ∧ (∀ s ∈ a, OkL hd d s)
   | .tryS a x b => isN x ∧ 0 < d ∧ (∀ s ∈ a, OkL hd d s) ∧ (∀ s ∈ b, OkL hd d s)
theorem OkL.ok {hd : List Int} : ∀ {d : Nat} {s : Stm}, OkL hd d s → OkS hd d s
 | 0, _, h => h.elim
 | d + 1, s, h => by
   cases s with
   | pl s => exact h
   | call x f ns l => exact ⟨h.1, h.2.1, h.2.2.1, h.2.2.2.1⟩
   | hand f ns l => exact ⟨h.1, h.2.1, h.2.2.1⟩
   | drop x => exact h
   | ifS x a b => exact ⟨h.1, h.2.1, fun s hs => (h.2.2.1 s hs).ok, fun s hs => (h.2.2.2 s hs).ok⟩
   | whileS x a => exact ⟨h.1, h.2.1, fun s hs => (h.2.2 s hs).ok⟩
   | tryS a x b => exact ⟨h.1, h.2.1, fun s hs => (h.2.2.1 s hs).ok, fun s hs => (h.2.2.2 s hs).ok⟩
end
theorem upd_none {A : Hp} {l b : Addr} {x : HO} (h : (upd A l x) b = none) : A b = none ∧ b ≠ l := by
 by_cases e : b = l
 · rw [e, upd_same] at h; cases h
 · rw [upd_ne e] at h; exact ⟨h, e⟩
def KeepX (x : Addr) (H H' : Hp) : Prop := ∀ b o, H b = some o → b ≠ x → H' b = some o
theorem KeepX.refl {x : Addr} {H : Hp} : KeepX x H H := fun _ _ e _ => e
theorem KeepX.trans {x : Addr} {H H1 H2 : Hp} (h : KeepX x H H1) (k : KeepX x H1 H2) : KeepX x H H2 := fun b o e n => k b o (h b o e n) n
theorem KeepX.same {x : Addr} {H H1 H2 : Hp} (h : KeepX x H H1) (k : Same H1 H2) : KeepX x H H2 := fun b o e n => k b o (h b o e n)
theorem KeepX.of {x : Addr} {H H' : Hp} (h : Same H H') : KeepX x H H' := fun b o e _ => h b o e
def PNAMES : List Str := ["next_word", "take_row", "statements", "statement", "functions"]
structure PF (fs : List (Str × V)) (lr : Addr) (k : Int) : Prop where
 rows : fs.lookup ("rows" : Str) = some (.ref lr)
 mark : fs.lookup ("mark" : Str) = some (.int k)
 len : fs.length ≤ 9
 no : ∀ x : Str, x ∈ PNAMES → fs.lookup x = none
theorem PF.setMark {fs : List (Str × V)} {lr : Addr} {k : Int} (F : PF fs lr k) (n : Int) : PF (putF "mark" (.int n) fs) lr n :=
 ⟨look_of (by decide +kernel) F.rows, look_hit, by rw [putF_len F.mark]; exact F.len, fun x hx => look_no (fun e => by subst e; revert hx; decide +kernel) (F.no x hx)⟩
def RtAt (H : Hp) (p : Addr) (r : RD) : Prop := H p = some (.tup (.str r.1 :: r.2.map V.int))
def wordAt (rs : List RD) (k : Nat) : Str := match rs[k]? with
 | some r => r.1
 | none => ""
structure PRt (a : Adr) (H : Hp) (x dx lr : Addr) (fs : List (Str × V)) (k : Nat) (ps : List Addr) (rs : List RD) : Prop where
 obj : H x = some (.ins a.C_ProgramRows dx fs)
 pf : PF fs lr (k : Int)
 lst : H lr = some (.lst (ps.map V.ref))
 rows : Each (RtAt H) ps rs
 few : rs.length ≤ 8010
theorem PRt.keep {a : Adr} {H H' : Hp} {x dx lr : Addr} {fs fs' : List (Str × V)} {k k' : Nat} {ps : List Addr} {rs : List RD} (h : PRt a H x dx lr fs k ps rs) (kp : KeepX x H H') (hx : H' x = some (.ins a.C_ProgramRows dx fs')) (F : PF fs' lr (k' : Int)) : PRt a H' x dx lr fs' k' ps rs :=
 ⟨hx, F, kp _ _ h.lst (fun z => by have := h.lst; rw [z, h.obj] at this; cases this), h.rows.mono fun p r e => kp _ _ e (fun z => by have e : H p = _ := e; rw [z, h.obj] at e; cases e), h.few⟩
theorem PRt.same {a : Adr} {H H' : Hp} {x dx lr : Addr} {fs : List (Str × V)} {k : Nat} {ps : List Addr} {rs : List RD} (h : PRt a H x dx lr fs k ps rs) (s : Same H H') : PRt a H' x dx lr fs k ps rs := h.keep (KeepX.of s) (s _ _ h.obj) h.pf
theorem PRt.at {a : Adr} {H : Hp} {x dx lr : Addr} {fs : List (Str × V)} {k : Nat} {ps : List Addr} {rs : List RD} (h : PRt a H x dx lr fs k ps rs) {j : Nat} {r : RD} (e : rs[j]? = some r) : ∃ p, ps[j]? = some p ∧ RtAt H p r := by
 have hj := (List.getElem?_eq_some_iff.mp e).1
 have hp : j < ps.length := by rw [h.rows.1]; exact hj
 exact ⟨ps[j], List.getElem?_eq_getElem hp, h.rows.2 j _ _ (List.getElem?_eq_getElem hp) e⟩
def nt (H H' : Hp) : Hp := fun b => match H b with
 | none => H' b
 | some (.tup xs) => some (.tup xs)
 | some _ => none
theorem nt_new {H H' : Hp} {b : Addr} {o : HO} (n : H b = none) (h : H' b = some o) : nt H H' b = some o := by unfold nt; rw [n]; exact h
theorem nt_tup {H H' : Hp} {b : Addr} {xs : List V} (n : H b = some (.tup xs)) : nt H H' b = some (.tup xs) := by unfold nt; rw [n]
theorem nt_of {H H' : Hp} {b : Addr} {o : HO} (h : nt H H' b = some o) : (H b = none ∧ H' b = some o) ∨ ∃ xs, H b = some (.tup xs) ∧ o = .tup xs := by
 unfold nt at h
 split at h
 · rename_i e; exact .inl ⟨e, h⟩
 · rename_i xs e; cases h; exact .inr ⟨xs, e, rfl⟩
 · cases h
theorem nt_sub {A B C D : Hp} (k1 : ∀ b o, B b = none → C b = some o → nt A D b = some o) (k2 : ∀ b xs, B b = some (.tup xs) → nt A D b = some (.tup xs)) : Same (nt B C) (nt A D) := fun b o h => by
 rcases nt_of h with ⟨h1, h2⟩ | ⟨xs, h1, rfl⟩
 · exact k1 b o h1 h2
 · exact k2 b xs h1
theorem KeepX.tup {x : Addr} {H H' : Hp} {C dx : Addr} {f0 : List (Str × V)} (k : KeepX x H H') (h0 : H x = some (.ins C dx f0)) : ∀ b xs, H b = some (.tup xs) → H' b = some (.tup xs) := fun b xs e => k b _ e (fun z => by rw [z, h0] at e; cases e)
def spPRI (a : Adr) : Sp := fun vs H Q _ => ∃ (x dx lr : Addr), vs = [.ref x, .ref lr] ∧ H x = some (.ins a.C_ProgramRows dx []) ∧ ∀ fs H', KeepX x H H' → H' x = some (.ins a.C_ProgramRows dx fs) → PF fs lr ((0 : Nat) : Int) → Q .non H'
def spNext (a : Adr) : Sp := fun vs H Q _ => ∃ (x dx lr : Addr) (fs : List (Str × V)) (k : Nat) (ps : List Addr) (rs : List RD), vs = [.ref x] ∧ PRt a H x dx lr fs k ps rs ∧ Q (.str (wordAt rs k)) H
def stopW : List Str := ["fun", "else", "landing", "end", ""]
def hasC (r : RD) : Bool := match (["fun", "set", "copy", "sum", "minus", "product", "less", "drop", "give", "if", "else", "while", "try", "landing", "end"] : List Str).idxOf r.1 with
 | i => if r.1 = "call" then decide (2 ≤ r.2.length) else if r.1 = "hand" then decide (1 ≤ r.2.length) else
   match ([1, 2, 2, 3, 3, 3, 3, 1, 1, 1, 0, 1, 0, 1, 0] : List Nat)[i]? with
   | some n => decide (r.2.length = n)
   | none => false
def plainOf (r : RD) : Option Stm :=
 if r.1 = "set" then some (.pl (.set (gI r.2 0) (gI r.2 1))) else
 if r.1 = "copy" then some (.pl (.copy (gI r.2 0) (gI r.2 1))) else
 if r.1 = "sum" then some (.pl (.sum (gI r.2 0) (gI r.2 1) (gI r.2 2))) else
 if r.1 = "minus" then some (.pl (.minus (gI r.2 0) (gI r.2 1) (gI r.2 2))) else
 if r.1 = "product" then some (.pl (.product (gI r.2 0) (gI r.2 1) (gI r.2 2))) else
 if r.1 = "less" then some (.pl (.less (gI r.2 0) (gI r.2 1) (gI r.2 2))) else
 if r.1 = "give" then some (.pl (.give (gI r.2 0))) else
 if r.1 = "drop" then some (.drop (gI r.2 0)) else
 if r.1 = "call" then some (.call (gI r.2 0) (gI r.2 1) (r.2.drop 2) true) else
 if r.1 = "hand" then some (.hand (gI r.2 0) (r.2.drop 1) true) else none
def pOne (p : Nat → List RD → Option (List Stm × List RD)) (lv : Nat) (r : RD) (t : List RD) : Option (Stm × List RD) :=
 if r.1 = "while" then (if lv = 0 then none else match p (lv - 1) t with
   | some (a, e :: u) => if e.1 = "end" then some (.whileS (gI r.2 0) a, u) else none
   | _ => none)
 else if r.1 = "if" then (if lv = 0 then none else match p (lv - 1) t with
   | some (a, e :: u) => if e.1 = "else" then (match p (lv - 1) u with
     | some (b, e2 :: u2) => if e2.1 = "end" then some (.ifS (gI r.2 0) a b, u2) else none
     | _ => none) else none
   | _ => none)
 else if r.1 = "try" then (if lv = 0 then none else match p (lv - 1) t with
   | some (a, e :: u) => if e.1 = "landing" then (match p (lv - 1) u with
     | some (b, e2 :: u2) => if e2.1 = "end" then some (.tryS a (gI e.2 0) b, u2) else none
     | _ => none) else none
   | _ => none)
 else (plainOf r).map fun s => (s, t)
def pL : Nat → Nat → List RD → Option (List Stm × List RD)
 | 0, _, _ => none
 | f + 1, lv, rs => match rs with
   | [] => some ([], [])
   | r :: t => if r.1 ∈ stopW then some ([], r :: t) else match pOne (pL f) lv r t with
     | none => none
     | some (s, t') => match pL f lv t' with
       | none => none
       | some (ss, t'') => some (s :: ss, t'')
def pF : Nat → List RD → Option (List (Int × List Stm))
 | 0, _ => none
 | f + 1, rs => match rs with
   | [] => some []
   | r :: t => if r.1 = "fun" then (match pL (t.length + 1) 40 t with
     | none => none
     | some (ss, t') => match pF f t' with
       | none => none
       | some fs => some ((gI r.2 0, ss) :: fs)) else none
def wt (j : Fin 4) (w : Str) : Int :=
 if w = "while" then (if j = 0 then 1 else 0) else if w = "if" then (if j = 0 ∨ j = 1 then 1 else 0) else if w = "try" then (if j = 0 ∨ j = 2 then 1 else 0)
 else if w = "else" then (if j = 1 then -1 else 0) else if w = "landing" then (if j = 2 then -1 else 0) else if w = "end" then (if j = 0 then -1 else 0) else if w = "fun" then (if j = 3 then 1 else 0) else 0
def sw (j : Fin 4) (rs : List RD) : Int := (rs.map fun r => wt j r.1).sum
theorem sw_cons (j : Fin 4) (r : RD) (rs : List RD) : sw j (r :: rs) = wt j r.1 + sw j rs := by unfold sw; rw [List.map_cons, List.sum_cons]
theorem sw_app (j : Fin 4) (a b : List RD) : sw j (a ++ b) = sw j a + sw j b := by unfold sw; rw [List.map_append, List.sum_append]
def Gb (rs t : List RD) : Prop := ∃ u, rs = u ++ t ∧ ∀ j, sw j u = 0
theorem plain_wt {r : RD} {s : Stm} (h : plainOf r = some s) (j : Fin 4) : wt j r.1 = 0 := by
 unfold plainOf at h
 have k : r.1 = "set" ∨ r.1 = "copy" ∨ r.1 = "sum" ∨ r.1 = "minus" ∨ r.1 = "product" ∨ r.1 = "less" ∨ r.1 = "give" ∨ r.1 = "drop" ∨ r.1 = "call" ∨ r.1 = "hand" := by
   by_cases h1 : r.1 = "set"; · simp [h1]
   by_cases h2 : r.1 = "copy"; · simp [h2]
   by_cases h3 : r.1 = "sum"; · simp [h3]
   by_cases h4 : r.1 = "minus"; · simp [h4]
   by_cases h5 : r.1 = "product"; · simp [h5]
   by_cases h6 : r.1 = "less"; · simp [h6]
   by_cases h7 : r.1 = "give"; · simp [h7]
   by_cases h8 : r.1 = "drop"; · simp [h8]
   by_cases h9 : r.1 = "call"; · simp [h9]
   by_cases h10 : r.1 = "hand"; · simp [h10]
   rw [if_neg h1, if_neg h2, if_neg h3, if_neg h4, if_neg h5, if_neg h6, if_neg h7, if_neg h8, if_neg h9, if_neg h10] at h
   cases h
 rcases k with e | e | e | e | e | e | e | e | e | e <;> rw [e] <;> revert j <;> decide +kernel
theorem one_bal {p : Nat → List RD → Option (List Stm × List RD)} (hp : ∀ lv rs ss t, p lv rs = some (ss, t) → Gb rs t) {lv : Nat} {r : RD} {t t' : List RD} {s : Stm} (h : pOne p lv r t = some (s, t')) : Gb (r :: t) t' := by
 unfold pOne at h
 by_cases h1 : r.1 = "while"
 · rw [if_pos h1] at h
   split at h
   · cases h
   · split at h
     · rename_i a e u he
       split at h
       · rename_i hx
         cases h
         obtain ⟨v, rfl, hv⟩ := hp _ _ _ _ he
         refine ⟨r :: (v ++ [e]), by simp, fun j => ?_⟩
         rw [sw_cons, sw_app, sw_cons, hv, h1, hx]
         revert j; decide +kernel
       · cases h
     · cases h
 rw [if_neg h1] at h
 by_cases h2 : r.1 = "if"
 · rw [if_pos h2] at h
   split at h
   · cases h
   · split at h
     · rename_i a e u he
       split at h
       · rename_i hx
         split at h
         · rename_i b e2 u2 he2
           split at h
           · rename_i hy
             cases h
             obtain ⟨v, rfl, hv⟩ := hp _ _ _ _ he
             obtain ⟨v2, rfl, hv2⟩ := hp _ _ _ _ he2
             refine ⟨r :: (v ++ e :: (v2 ++ [e2])), by simp, fun j => ?_⟩
             rw [sw_cons, sw_app, sw_cons, sw_app, sw_cons, hv, hv2, h2, hx, hy]
             revert j; decide +kernel
           · cases h
         · cases h
       · cases h
     · cases h
 rw [if_neg h2] at h
 by_cases h3 : r.1 = "try"
 · rw [if_pos h3] at h
   split at h
   · cases h
   · split at h
     · rename_i a e u he
       split at h
       · rename_i hx
         split at h
         · rename_i b e2 u2 he2
           split at h
           · rename_i hy
             cases h
             obtain ⟨v, rfl, hv⟩ := hp _ _ _ _ he
             obtain ⟨v2, rfl, hv2⟩ := hp _ _ _ _ he2
             refine ⟨r :: (v ++ e :: (v2 ++ [e2])), by simp, fun j => ?_⟩
             rw [sw_cons, sw_app, sw_cons, sw_app, sw_cons, hv, hv2, h3, hx, hy]
             revert j; decide +kernel
           · cases h
         · cases h
       · cases h
     · cases h
 rw [if_neg h3] at h
 obtain ⟨s', hs, e⟩ := Option.map_eq_some_iff.mp h
 cases e
 exact ⟨[r], rfl, fun j => by rw [sw_cons, plain_wt hs]; rfl⟩
theorem Gb.trans {a b c : List RD} (x : Gb a b) (y : Gb b c) : Gb a c := by
 obtain ⟨u, rfl, hu⟩ := x
 obtain ⟨v, rfl, hv⟩ := y
 exact ⟨u ++ v, by simp, fun j => by rw [sw_app, hu, hv]; rfl⟩
theorem pL_bal : ∀ (f lv : Nat) (rs : List RD) (ss : List Stm) (t : List RD), pL f lv rs = some (ss, t) → Gb rs t
 | 0, _, _, _, _, h => by cases h
 | f + 1, lv, rs, ss, t, h => by
   unfold pL at h
   split at h
   · cases h; exact ⟨[], rfl, fun _ => rfl⟩
   · rename_i r t0
     split at h
     · cases h; exact ⟨[], rfl, fun _ => rfl⟩
     · split at h
       · cases h
       · rename_i s t1 h1
         split at h
         · cases h
         · rename_i ss2 t2 h2
           cases h
           exact (one_bal (pL_bal f) h1).trans (pL_bal f lv _ _ _ h2)
theorem wt_nn (w : Str) : 0 ≤ wt 3 w := by
 unfold wt
 repeat' split
 all_goals first | decide | (rename_i h; exact absurd h (by decide))
theorem no_fun {u : List RD} (h : sw 3 u = 0) : ∀ r ∈ u, r.1 ≠ "fun" := by
 induction u with
 | nil => intro r hr; cases hr
 | cons a u ih =>
   rw [sw_cons] at h
   have h1 := wt_nn a.1
   have h2 : 0 ≤ sw 3 u := by
     clear ih h h1
     induction u with
     | nil => exact Int.le_refl _
     | cons b u ih => rw [sw_cons]; have := wt_nn b.1; omega
   intro r hr
   rcases List.mem_cons.mp hr with rfl | hr
   · intro e
     rw [e, show wt 3 "fun" = 1 from by decide +kernel] at h
     omega
   · exact ih (by omega) r hr
theorem pF_bal : ∀ (f : Nat) (rs : List RD) (fs : List (Int × List Stm)), pF f rs = some fs → (∀ j : Fin 4, j ≠ 3 → sw j rs = 0) ∧ (∀ (pre : List RD) (r : RD) (post : List RD), rs = pre ++ r :: post → r.1 = "fun" → ∀ j : Fin 4, j ≠ 3 → sw j pre = 0) ∧ (∀ (r : RD) (t : List RD), rs = r :: t → r.1 = "fun")
 | 0, _, _, h => by cases h
 | f + 1, rs, fs, h => by
   unfold pF at h
   split at h
   · exact ⟨fun _ _ => rfl, fun pre r post e => (by cases pre <;> cases e), fun r t e => (by cases e)⟩
   · rename_i r0 t
     split at h
     · rename_i h0
       split at h
       · cases h
       · rename_i ss t1 h1
         split at h
         · cases h
         · rename_i gs h2
           obtain ⟨u, rfl, hu⟩ := pL_bal _ _ _ _ _ h1
           obtain ⟨i1, i2, _⟩ := pF_bal f _ _ h2
           have w0 : ∀ j : Fin 4, j ≠ 3 → wt j r0.1 = 0 := by rw [h0]; decide +kernel
           refine ⟨fun j hj => by rw [sw_cons, sw_app, hu, i1 j hj, w0 j hj]; rfl, fun pre r post e hr j hj => ?_, fun r t e => (by cases e; exact h0)⟩
           cases pre with
           | nil => rfl
           | cons a pre =>
             rw [List.cons_append] at e
             injection e with e1 e2
             subst e1
             rw [sw_cons, w0 j hj]
             rcases List.append_eq_append_iff.mp e2 with ⟨x, e3, e4⟩ | ⟨x, e3, e4⟩
             · rw [e3, sw_app, hu, i2 x r post e4 hr j hj]; rfl
             · cases x with
               | nil =>
                 rw [List.append_nil] at e3
                 rw [← e3, hu]; rfl
               | cons b x =>
                 rw [List.cons_append] at e4
                 injection e4 with e5 e6
                 exact absurd hr (no_fun (hu 3) r (by rw [e3, e5]; simp))
     · cases h
def upB (n top : Int) : Bool := decide (0 ≤ n) && decide (n ≤ top)
def smB : Sm → Bool
 | .set x v => upB x 5 && upB v 4294967295
 | .copy x y => upB x 5 && upB y 5
 | .sum x y z | .minus x y z | .product x y z | .less x y z => upB x 5 && (upB y 5 && upB z 5)
 | .give x => upB x 5
 | .leave _ => false
def stB (hd : List Int) : Stm → Bool
 | .pl s => smB s
 | .call x f ns _ => upB x 5 && (upB f (hd.length - 1) && (ns.all (upB · 5) && decide (hd[f.toNat]? = some (ns.length : Int))))
 | .hand f ns _ => upB f (hd.length - 1) && (ns.all (upB · 5) && decide (hd[f.toNat]? = some (ns.length : Int)))
 | .drop x => upB x 5
 | .ifS x _ _ => upB x 5
 | .whileS x _ => upB x 5
 | .tryS _ x _ => upB x 5
def Stm.inn : Stm → List (List Stm)
 | .ifS _ a b => [a, b]
 | .whileS _ a => [a]
 | .tryS a _ b => [a, b]
 | _ => []
def inB (dp : Nat) : List Stm → Option (List (List Stm × Nat))
 | [] => some []
 | s :: r => if s.inn ≠ [] ∧ dp = 4 then none else (inB dp r).map fun xs => (s.inn.map fun b => (b, dp + 1)) ++ xs
def areB (hd : List Int) : Nat → Nat → List (List Stm × Nat) → Bool
 | 0, _, _ => false
 | f + 1, many, st => match st with
   | [] => true
   | (b, dp) :: st => if many + b.length > 80 ∨ b.all (stB hd) = false then false else match inB dp b with
     | none => false
     | some xs => areB hd f (many + b.length) (xs.reverse ++ st)
def progB (fs : List (Int × List Stm)) : Bool := decide (1 ≤ fs.length) && decide (fs.length ≤ 8) && fs.all (fun f => upB f.1 3) && areB (fs.map (·.1)) 400 0 ((fs.map fun f => (f.2, 0)).reverse)
def noProg (rs : List RD) : Bool := match pF (rs.length + 1) rs with
 | none => false
 | some fs => !progB fs
theorem np0 : noProg [rd "fun" [4]] = true := by decide +kernel
theorem np3 : noProg [rd "fun" [1], rd "call" [0, 0]] = true := by decide +kernel
theorem np5 : noProg [rd "fun" [0], rd "while" [0], rd "if" [0], rd "else" [], rd "try" [], rd "while" [1], rd "while" [2], rd "end" [], rd "end" [], rd "landing" [0], rd "end" [], rd "end" [], rd "end" []] = true := by decide +kernel
theorem np6 : noProg (rd "fun" [0] :: List.replicate 81 (rd "give" [0])) = true := by decide +kernel
theorem np7 : noProg (rd "fun" [0] :: List.replicate 8 (rd "fun" [0])) = true := by decide +kernel
theorem np8 : noProg [rd "fun" [2], rd "hand" [0, 1, 6]] = true := by decide +kernel
theorem np9 : noProg (rd "fun" [0] :: (List.replicate 40 (rd "while" [0]) ++ List.replicate 40 (rd "end" []))) = true := by decide +kernel
theorem np11 : pF 84 (rd "fun" [0] :: (List.replicate 41 (rd "while" [0]) ++ List.replicate 41 (rd "end" []))) = none := by decide +kernel
theorem np12 : noProg (rd "fun" [0] :: (List.replicate 998 (rd "give" [0]) ++ [rd "set" [0, 123]])) = true := by decide +kernel
theorem np1 (v : Int) : noProg [rd "fun" [0], rd "set" [6, v]] = true := by kernel_rfl
theorem areB_bad {hd : List Int} {f many dp : Nat} {b : List Stm} {st : List (List Stm × Nat)} (h : b.all (stB hd) = false) : areB hd (f + 1) many ((b, dp) :: st) = false := by
 unfold areB; dsimp only; rw [if_pos (.inr h)]
theorem np_of {rs : List RD} {n : Int} {b : List Stm} (h : pF (rs.length + 1) rs = some [(n, b)]) (h2 : b.all (stB [n]) = false) : noProg rs = true := by
 unfold noProg
 rw [h]
 show (!(progB [(n, b)])) = true
 unfold progB
 rw [show areB (List.map (·.1) [(n, b)]) 400 0 ((List.map (fun f => (f.2, 0)) [(n, b)]).reverse) = false from areB_bad (f := 399) h2, Bool.and_false]
 rfl
theorem up_no {n top : Int} (h : top < n) : upB n top = false := by
 unfold upB; rw [decide_eq_false (show ¬ n ≤ top by omega), Bool.and_false]
theorem np2 {v : Int} (h : 0 ≤ v) : noProg [rd "fun" [0], rd "call" [0, 1 + v, 0]] = true := by
 refine np_of (n := 0) (b := [.call 0 (1 + v) [0] true]) (by kernel_rfl) ?_
 show ((upB 0 5 && (upB (1 + v) 0 && _)) && true) = false
 rw [up_no (n := 1 + v) (top := 0) (by omega), Bool.false_and, Bool.and_false]; rfl
theorem np4 {v : Int} (h : 0 ≤ v) : noProg [rd "fun" [0], rd "set" [0, 4294967296 + v]] = true := by
 refine np_of (n := 0) (b := [.pl (.set 0 (4294967296 + v))]) (by kernel_rfl) ?_
 show ((upB 0 5 && upB (4294967296 + v) 4294967295) && true) = false
 rw [up_no (n := 4294967296 + v) (top := 4294967295) (by omega), Bool.and_false]; rfl
def Stp (t : List RD) : Prop := t = [] ∨ ∃ r u, t = r :: u ∧ r.1 ∈ stopW
theorem pL_stop {f lv : Nat} {t : List RD} (h : Stp t) : pL (f + 1) lv t = some ([], t) := by
 rcases h with rfl | ⟨r, u, rfl, h⟩
 · rfl
 · unfold pL; dsimp only; rw [if_pos h]
theorem pL_step {f lv : Nat} {r : RD} {m X t : List RD} {s : Stm} {ss : List Stm} (h1 : r.1 ∉ stopW) (h2 : pOne (pL f) lv r m = some (s, X)) (h3 : pL f lv X = some (ss, t)) : pL (f + 1) lv (r :: m) = some (s :: ss, t) := by
 unfold pL
 dsimp only
 rw [if_neg h1, h2]
 dsimp only
 rw [h3]
theorem one_plain {p : Nat → List RD → Option (List Stm × List RD)} {lv : Nat} {r : RD} {t : List RD} {s : Stm} (h1 : r.1 ≠ "while") (h2 : r.1 ≠ "if") (h3 : r.1 ≠ "try") (h : plainOf r = some s) : pOne p lv r t = some (s, t) := by
 unfold pOne; rw [if_neg h1, if_neg h2, if_neg h3, h]; rfl
theorem one_while {p : Nat → List RD → Option (List Stm × List RD)} {lv : Nat} {x : Int} {t u : List RD} {a : List Stm} (hl : lv ≠ 0) (h : p (lv - 1) t = some (a, rd "end" [] :: u)) : pOne p lv (rd "while" [x]) t = some (.whileS x a, u) := by
 unfold pOne
 rw [if_pos rfl, if_neg hl, h]
 dsimp only
 rw [if_pos rfl]; rfl
theorem one_if {p : Nat → List RD → Option (List Stm × List RD)} {lv : Nat} {x : Int} {t u v : List RD} {a b : List Stm} (hl : lv ≠ 0) (h : p (lv - 1) t = some (a, rd "else" [] :: u)) (h2 : p (lv - 1) u = some (b, rd "end" [] :: v)) : pOne p lv (rd "if" [x]) t = some (.ifS x a b, v) := by
 unfold pOne
 rw [if_neg (show ¬ ("if" : Str) = "while" by decide +kernel), if_pos rfl, if_neg hl, h]
 dsimp only
 rw [if_pos rfl, h2]
 dsimp only
 rw [if_pos rfl]; rfl
theorem one_try {p : Nat → List RD → Option (List Stm × List RD)} {lv : Nat} {x : Int} {t u v : List RD} {a b : List Stm} (hl : lv ≠ 0) (h : p (lv - 1) t = some (a, rd "landing" [x] :: u)) (h2 : p (lv - 1) u = some (b, rd "end" [] :: v)) : pOne p lv (rd "try" []) t = some (.tryS a x b, v) := by
 unfold pOne
 rw [if_neg (by decide +kernel), if_neg (by decide +kernel), if_pos rfl, if_neg hl, h]
 dsimp only
 rw [if_pos rfl, h2]
 dsimp only
 rw [if_pos rfl]; rfl
theorem sm_row {s : Sm} (h : s.ok) : (smR s).1 ∉ stopW ∧ (smR s).1 ≠ "while" ∧ (smR s).1 ≠ "if" ∧ (smR s).1 ≠ "try" ∧ plainOf (smR s) = some (.pl s) := by
 cases s with
 | leave x => exact h.elim
 | _ => exact ⟨by show (_ : Str) ∉ _; dsimp only [smR]; decide +kernel, by dsimp only [smR]; decide +kernel, by dsimp only [smR]; decide +kernel, by dsimp only [smR]; decide +kernel, by kernel_rfl⟩
theorem pL_rows {hd : List Int} : ∀ (d : Nat) (ss : List Stm) (t : List RD) (f lv : Nat), (∀ s ∈ ss, OkL hd d s) → Stp t → (rowsL d ss).length < f → d ≤ lv + 1 → pL f lv (rowsL d ss ++ t) = some (ss, t)
 | d, [], t, f, lv, _, ht, hf, _ => by
   obtain ⟨f, rfl⟩ : ∃ g, f = g + 1 := ⟨f - 1, by omega⟩
   exact pL_stop ht
 | 0, s :: r, t, f, lv, h, _, _, _ => (h s (List.mem_cons_self ..)).elim
 | d + 1, s :: r, t, f, lv, h, ht, hf, hv => by
   obtain ⟨f, rfl⟩ : ∃ g, f = g + 1 := ⟨f - 1, by omega⟩
   have e : rowsL (d + 1) (s :: r) = rowsS (d + 1) s ++ rowsL (d + 1) r := rfl
   rw [e, List.length_append] at hf
   have hs := h s (List.mem_cons_self ..)
   have hr : (rowsL (d + 1) r).length < f → pL f lv (rowsL (d + 1) r ++ t) = some (r, t) := fun z => pL_rows (d + 1) r t f lv (fun x hx => h x (List.mem_cons_of_mem _ hx)) ht z hv
   rw [e, List.append_assoc]
   generalize rowsL (d + 1) r ++ t = X at hr ⊢
   have en : ∀ u, Stp (rd "end" [] :: u) := fun u => .inr ⟨_, _, rfl, by decide +kernel⟩
   cases s with
   | pl s =>
     obtain ⟨k1, k2, k3, k4, k5⟩ := sm_row (s := s) hs
     have hl : (rowsS (d + 1) (.pl s)).length = 1 := rfl
     exact pL_step (r := smR s) k1 (one_plain k2 k3 k4 k5) (hr (by omega))
   | call x g ns l =>
     have hl : (rowsS (d + 1) (.call x g ns l)).length = 1 := rfl
     have e : l = true := hs.2.2.2.2
     subst e
     exact pL_step (r := ("call", x :: g :: ns)) (show ("call" : Str) ∉ stopW by decide +kernel) (one_plain (show ("call" : Str) ≠ "while" by decide +kernel) (show ("call" : Str) ≠ "if" by decide +kernel) (show ("call" : Str) ≠ "try" by decide +kernel) (by kernel_rfl)) (hr (by omega))
   | hand g ns l =>
     have hl : (rowsS (d + 1) (.hand g ns l)).length = 1 := rfl
     have e : l = true := hs.2.2.2
     subst e
     exact pL_step (r := ("hand", g :: ns)) (show ("hand" : Str) ∉ stopW by decide +kernel) (one_plain (show ("hand" : Str) ≠ "while" by decide +kernel) (show ("hand" : Str) ≠ "if" by decide +kernel) (show ("hand" : Str) ≠ "try" by decide +kernel) (by kernel_rfl)) (hr (by omega))
   | drop x =>
     have hl : (rowsS (d + 1) (.drop x)).length = 1 := rfl
     exact pL_step (r := ("drop", [x])) (show ("drop" : Str) ∉ stopW by decide +kernel) (one_plain (show ("drop" : Str) ≠ "while" by decide +kernel) (show ("drop" : Str) ≠ "if" by decide +kernel) (show ("drop" : Str) ≠ "try" by decide +kernel) (by kernel_rfl)) (hr (by omega))
   | whileS x a =>
     obtain ⟨_, d0, ha⟩ := hs
     have e : rowsS (d + 1) (.whileS x a) = rd "while" [x] :: (rowsL d a ++ [rd "end" []]) := rfl
     rw [e, List.length_cons, List.length_append, List.length_singleton] at hf
     rw [e, List.cons_append, List.append_assoc, List.singleton_append]
     exact pL_step (show ("while" : Str) ∉ stopW by decide +kernel) (one_while (by omega) (pL_rows d a _ f (lv - 1) ha (en _) (by omega) (by omega))) (hr (by omega))
   | ifS x a b =>
     obtain ⟨_, d0, ha, hb⟩ := hs
     have e : rowsS (d + 1) (.ifS x a b) = rd "if" [x] :: (rowsL d a ++ rd "else" [] :: (rowsL d b ++ [rd "end" []])) := rfl
     rw [e, List.length_cons, List.length_append, List.length_cons, List.length_append, List.length_singleton] at hf
     rw [e, List.cons_append, List.append_assoc, List.cons_append, List.append_assoc, List.singleton_append]
     exact pL_step (show ("if" : Str) ∉ stopW by decide +kernel) (one_if (by omega) (pL_rows d a _ f (lv - 1) ha (.inr ⟨_, _, rfl, by decide +kernel⟩) (by omega) (by omega)) (pL_rows d b _ f (lv - 1) hb (en _) (by omega) (by omega))) (hr (by omega))
   | tryS a x b =>
     obtain ⟨_, d0, ha, hb⟩ := hs
     have e : rowsS (d + 1) (.tryS a x b) = rd "try" [] :: (rowsL d a ++ rd "landing" [x] :: (rowsL d b ++ [rd "end" []])) := rfl
     rw [e, List.length_cons, List.length_append, List.length_cons, List.length_append, List.length_singleton] at hf
     rw [e, List.cons_append, List.append_assoc, List.cons_append, List.append_assoc, List.singleton_append]
     exact pL_step (show ("try" : Str) ∉ stopW by decide +kernel) (one_try (by omega) (pL_rows d a _ f (lv - 1) ha (.inr ⟨_, _, rfl, show ("landing" : Str) ∈ stopW by decide +kernel⟩) (by omega) (by omega)) (pL_rows d b _ f (lv - 1) hb (en _) (by omega) (by omega))) (hr (by omega))
 termination_by d ss => (d, ss.length)
theorem rowsP_stp (fs : List (Int × List Stm)) : Stp (rowsP fs) := by
 cases fs with
 | nil => exact .inl rfl
 | cons g r => exact .inr ⟨rd "fun" [g.1], rowsL 5 g.2 ++ rowsP r, rfl, show ("fun" : Str) ∈ stopW by decide +kernel⟩
theorem pF_rows {hd : List Int} : ∀ (fs : List (Int × List Stm)) (f : Nat), (∀ g ∈ fs, ∀ s ∈ g.2, OkL hd 5 s) → (rowsP fs).length < f → pF f (rowsP fs) = some fs
 | [], f, _, hf => by
   obtain ⟨f, rfl⟩ : ∃ g, f = g + 1 := ⟨f - 1, by omega⟩
   rfl
 | g :: r, f, h, hf => by
   obtain ⟨f, rfl⟩ : ∃ g, f = g + 1 := ⟨f - 1, by omega⟩
   have e : rowsP (g :: r) = rd "fun" [g.1] :: (rowsL 5 g.2 ++ rowsP r) := rfl
   rw [e, List.length_cons, List.length_append] at hf
   have h1 := pL_rows 5 g.2 (rowsP r) ((rowsL 5 g.2 ++ rowsP r).length + 1) 40 (h g (List.mem_cons_self ..)) (rowsP_stp r) (by rw [List.length_append]; omega) (by omega)
   have h2 := pF_rows r f (fun x hx => h x (List.mem_cons_of_mem _ hx)) (by omega)
   rw [e]
   unfold pF
   dsimp only
   rw [if_pos rfl, h1]
   dsimp only
   rw [h2]
   rfl
theorem up_yes {n top : Int} (h0 : 0 ≤ n) (h : n ≤ top) : upB n top = true := by
 unfold upB; rw [decide_eq_true h0, decide_eq_true h]; rfl
theorem stB_ok {hd : List Int} {d : Nat} {s : Stm} (h : OkS hd d s) : stB hd s = true := by
 cases d with
 | zero => exact h.elim
 | succ d =>
   have nm : ∀ {x : Int}, isN x → upB x 5 = true := fun h => up_yes h.1 (by have := h.2; omega)
   have fn : ∀ {g : Int} {n : Int}, 0 ≤ g → hd[g.toNat]? = some n → upB g ((hd.length : Int) - 1) = true := fun h0 e => by
     have := (List.getElem?_eq_some_iff.mp e).1
     exact up_yes h0 (by omega)
   have al : ∀ {ns : List Int}, (∀ n ∈ ns, isN n) → ns.all (upB · 5) = true := fun h => List.all_eq_true.mpr fun n hn => nm (h n hn)
   cases s with
   | pl s =>
     cases s with
     | leave x => exact h.elim
     | set x v => show (upB x 5 && upB v 4294967295) = true; rw [nm h.1, up_yes h.2.1 (by have := h.2.2; omega)]; rfl
     | copy x y => show (upB x 5 && upB y 5) = true; rw [nm h.1, nm h.2]; rfl
     | give x => exact nm h
     | _ => show (upB _ 5 && (upB _ 5 && upB _ 5)) = true; rw [nm h.1, nm h.2.1, nm h.2.2]; rfl
   | call x g ns l =>
     obtain ⟨h1, h2, h3, h4⟩ := h
     show (upB x 5 && (upB g (hd.length - 1) && (ns.all (upB · 5) && decide (hd[g.toNat]? = some (ns.length : Int))))) = true
     rw [nm h1, fn h2 h4, al h3, decide_eq_true h4]; rfl
   | hand g ns l =>
     obtain ⟨h2, h3, h4⟩ := h
     show (upB g (hd.length - 1) && (ns.all (upB · 5) && decide (hd[g.toNat]? = some (ns.length : Int)))) = true
     rw [fn h2 h4, al h3, decide_eq_true h4]; rfl
   | drop x => exact nm h
   | ifS x a b => exact nm h.1
   | whileS x a => exact nm h.1
   | tryS a x b => exact nm h.1
theorem inB_ok {hd : List Int} {d dp : Nat} (hdp : dp + (d + 1) = 5) : ∀ b : List Stm, (∀ s ∈ b, OkS hd (d + 1) s) → ∃ xs, inB dp b = some xs ∧ (∀ x ∈ xs, x.2 = dp + 1 ∧ ∀ s ∈ x.1, OkS hd d s) ∧ b.length + (xs.map fun x => cntL d x.1).sum = cntL (d + 1) b ∧ xs.length ≤ 2 * b.length ∧ (xs ≠ [] → 0 < d)
 | [], _ => ⟨[], rfl, fun x hx => (by cases hx), rfl, Nat.le_refl _, fun z => absurd rfl z⟩
 | s :: r, h => by
   obtain ⟨ys, i1, i2, i3, i4, i5⟩ := inB_ok hdp r (fun x hx => h x (List.mem_cons_of_mem _ hx))
   have hs := h s (List.mem_cons_self ..)
   have k : (s.inn ≠ [] → 0 < d) ∧ (∀ b ∈ s.inn, ∀ x ∈ b, OkS hd d x) ∧ 1 + (s.inn.map (cntL d)).sum = cnt1 (d + 1) s ∧ s.inn.length ≤ 2 := by
     cases s with
     | ifS x a b =>
       obtain ⟨_, d0, ha, hb⟩ := hs
       refine ⟨fun _ => d0, fun c hc => ?_, ?_, Nat.le_refl _⟩
       · rcases List.mem_cons.mp hc with rfl | hc
         · exact ha
         · have := List.mem_singleton.mp hc; subst this; exact hb
       · show 1 + (cntL d a + (cntL d b + 0)) = 1 + cntL d a + cntL d b; omega
     | whileS x a =>
       obtain ⟨_, d0, ha⟩ := hs
       refine ⟨fun _ => d0, fun c hc => ?_, ?_, Nat.le_succ 1⟩
       · have := List.mem_singleton.mp hc; subst this; exact ha
       · show 1 + (cntL d a + 0) = 1 + cntL d a; omega
     | tryS a x b =>
       obtain ⟨_, d0, ha, hb⟩ := hs
       refine ⟨fun _ => d0, fun c hc => ?_, ?_, Nat.le_refl _⟩
       · rcases List.mem_cons.mp hc with rfl | hc
         · exact ha
         · have := List.mem_singleton.mp hc; subst this; exact hb
       · show 1 + (cntL d a + (cntL d b + 0)) = 1 + cntL d a + cntL d b; omega
     | _ => exact ⟨fun z => absurd rfl z, fun b hb => (by cases hb), rfl, Nat.zero_le _⟩
   obtain ⟨k1, k2, k3, k4⟩ := k
   refine ⟨(s.inn.map fun b => (b, dp + 1)) ++ ys, ?_, fun x hx => ?_, ?_, ?_, fun z => ?_⟩
   · unfold inB
     rw [if_neg (fun z => by have := k1 z.1; omega), i1]; rfl
   · rcases List.mem_append.mp hx with hx | hx
     · obtain ⟨b, hb, rfl⟩ := List.mem_map.mp hx
       exact ⟨rfl, k2 b hb⟩
     · exact i2 x hx
   · rw [List.map_append, List.sum_append, List.map_map, List.length_cons]
     have e : cntL (d + 1) (s :: r) = cnt1 (d + 1) s + cntL (d + 1) r := by unfold cntL; rw [List.map_cons, List.sum_cons]
     have e2 : (List.map ((fun x : List Stm × Nat => cntL d x.1) ∘ fun b => (b, dp + 1)) s.inn) = s.inn.map (cntL d) := rfl
     rw [e, e2, ← i3, ← k3]; omega
   · rw [List.length_append, List.length_map, List.length_cons]; omega
   · by_cases hi : s.inn = []
     · rw [hi] at z; exact i5 z
     · exact k1 hi
theorem areB_ok {hd : List Int} : ∀ (f many : Nat) (st : List (List Stm × Nat)), (∀ x ∈ st, ∃ d, x.2 + (d + 1) = 5 ∧ ∀ s ∈ x.1, OkS hd (d + 1) s) → many + (st.map fun x => cntL (5 - x.2) x.1).sum ≤ 80 → 2 * (80 - many) + st.length < f → areB hd f many st = true
 | 0, _, _, _, _, hf => by omega
 | f + 1, many, [], _, _, _ => rfl
 | f + 1, many, (b, dp) :: st, h, hc, hf => by
   obtain ⟨d, hdp, hb⟩ := h (b, dp) (List.mem_cons_self ..)
   have hdp : dp + (d + 1) = 5 := hdp
   obtain ⟨xs, i1, i2, i3, i4, i5⟩ := inB_ok hdp b hb
   rw [List.map_cons, List.sum_cons] at hc
   have e5 : 5 - dp = d + 1 := by omega
   have hc : many + (cntL (5 - dp) b + (st.map fun x => cntL (5 - x.2) x.1).sum) ≤ 80 := hc
   rw [e5] at hc
   rw [List.length_cons] at hf
   unfold areB
   dsimp only
   rw [if_neg (fun z => by
     rcases z with z | z
     · omega
     · rw [List.all_eq_true.mpr (fun s hs => stB_ok (hb s hs))] at z; cases z), i1]
   dsimp only
   have hx : ∀ x ∈ xs, ∃ e, x.2 + (e + 1) = 5 ∧ ∀ s ∈ x.1, OkS hd (e + 1) s := fun x hx => by
     obtain ⟨j1, j2⟩ := i2 x hx
     have d0 := i5 (List.ne_nil_of_mem hx)
     obtain ⟨e, rfl⟩ : ∃ e, d = e + 1 := ⟨d - 1, by omega⟩
     exact ⟨e, by omega, j2⟩
   have em : (xs.map fun x => cntL (5 - x.2) x.1).sum = (xs.map fun x => cntL d x.1).sum := by
     congr 1
     refine List.map_congr_left fun x hx => ?_
     rw [show 5 - x.2 = d by have := (i2 x hx).1; omega]
   refine areB_ok f (many + b.length) (xs.reverse ++ st) (fun x hm => ?_) ?_ ?_
   · rcases List.mem_append.mp hm with hm | hm
     · exact hx x (List.mem_reverse.mp hm)
     · exact h x (List.mem_cons_of_mem _ hm)
   · rw [List.map_append, List.sum_append, List.map_reverse, List.sum_reverse, em]; omega
   · rw [List.length_append, List.length_reverse]; omega
theorem progB_ok {fs : List (Int × List Stm)} (h : ProgOk fs) : progB fs = true := by
 have k := areB_ok (hd := fs.map (·.1)) 400 0 ((fs.map fun f => (f.2, 0)).reverse) (fun x hx => by
     obtain ⟨f, hf, rfl⟩ := List.mem_map.mp (List.mem_reverse.mp hx)
     exact ⟨4, rfl, h.ok f hf⟩) (by
     rw [List.map_reverse, List.sum_reverse, List.map_map]
     have := h.cnt
     show 0 + (fs.map fun f => cntL 5 f.2).sum ≤ 80
     omega) (by
     rw [List.length_reverse, List.length_map]
     have := h.few
     omega)
 unfold progB
 rw [decide_eq_true h.one, decide_eq_true h.few, List.all_eq_true.mpr (fun f hf => up_yes (h.hd f hf).1 (h.hd f hf).2), k]
 rfl
section
open PySem.Builtin PySem.Builtin.Str
theorem sub_len (x : Str) (a b : Nat) : (strSub x a b).length ≤ x.length := by
 show (x.cps.extract a b).size ≤ x.cps.size
 rw [Array.size_extract]; omega
theorem parts_len (x : Str) (w : Nat) : ∀ (cuts : List Nat) (a : Nat), ∀ p ∈ PySem.StrLaws.partsFrom x w a cuts, p.length ≤ x.length
 | [], a, p, h => by rw [List.mem_singleton.mp h]; exact sub_len ..
 | c :: r, a, p, h => by
   rcases List.mem_cons.mp h with rfl | h
   · exact sub_len ..
   · exact parts_len x w r _ p h
theorem split_len (x y : Str) : 1 ≤ (Txt.split x y).length ∧ (Txt.split x y).length ≤ x.length + 2 := by
 unfold Txt.split
 split
 · exact ⟨Nat.le_refl _, by show 1 ≤ _; omega⟩
 · split
   · exact ⟨Nat.le_refl _, by show 1 ≤ _; omega⟩
   · rw [length_partsBetween]
     have := StrLaws.occ_length_le x y 0 x.length (x.length + 1)
     omega
theorem split_part {x y p : Str} (h : p ∈ Txt.split x y) : p.length ≤ x.length := by
 unfold Txt.split at h
 split at h
 · rw [List.mem_singleton.mp h]; exact Nat.le_refl _
 · split at h
   · rw [List.mem_singleton.mp h]; exact Nat.le_refl _
   · rw [PySem.StrLaws.partsBetween_eq] at h
     exact parts_len _ _ _ _ p h
theorem split_cons (x y : Str) : ∃ w ps, Txt.split x y = w :: ps := List.exists_cons_of_length_pos (split_len x y).1
theorem figs_iff {c : Nat} : c ∈ FIGS ↔ 48 ≤ c ∧ c ≤ 57 := by
 unfold FIGS
 simp only [List.mem_cons, List.not_mem_nil, or_false]
 omega
def isNumT (x : Str) : Bool := decide (1 ≤ x.cps.toList.length) && decide (x.cps.toList.length ≤ 10) && !(x.cps.toList.head? == some 48 && decide (1 < x.cps.toList.length)) && x.cps.toList.all fun c => decide (c ∈ FIGS)
def numT (x : Str) : Option Int := if isNumT x = true then some ((NumText.digitsVal x.cps.toList : Nat) : Int) else none
theorem numT_reads {x : Str} (h : isNumT x = true) : PySem.intText? x = some ((NumText.digitsVal x.cps.toList : Nat) : Int) ∧ x.length ≤ 10 := by
 unfold isNumT at h
 simp only [Bool.and_eq_true, decide_eq_true_eq, List.all_eq_true] at h
 obtain ⟨⟨⟨h1, h2⟩, _⟩, h4⟩ := h
 have hl : x.length ≤ 10 := h2
 exact ⟨PySem.intText_digits (fun c hc => figs_iff.mp (h4 c hc)) (fun z => by rw [z] at h1; exact absurd h1 (by decide)) (by omega), hl⟩
def allNum : List Str → Option (List Int)
 | [] => some []
 | p :: r => match numT p, allNum r with
   | some n, some ns => some (n :: ns)
   | _, _ => none
theorem allNum_len : ∀ {ps : List Str} {ns : List Int}, allNum ps = some ns → ns.length = ps.length
 | [], ns, h => by cases h; rfl
 | p :: r, ns, h => by
   unfold allNum at h
   cases h1 : numT p with
   | none => rw [h1] at h; cases h
   | some n =>
     cases h2 : allNum r with
     | none => rw [h1, h2] at h; cases h
     | some ms =>
       rw [h1, h2] at h; cases h
       rw [List.length_cons, List.length_cons, allNum_len h2]
theorem allNum_snoc : ∀ {ps : List Str} {ns : List Int} {p : Str} {n : Int}, allNum ps = some ns → numT p = some n → allNum (ps ++ [p]) = some (ns ++ [n])
 | [], ns, p, n, h, hp => by
   cases h
   show (match numT p, some ([] : List Int) with | some n, some ns => some (n :: ns) | _, _ => none) = _
   rw [hp]; rfl
 | q :: r, ns, p, n, h, hp => by
   unfold allNum at h
   cases h1 : numT q with
   | none => rw [h1] at h; cases h
   | some m =>
     cases h2 : allNum r with
     | none => rw [h1, h2] at h; cases h
     | some ms =>
       rw [h1, h2] at h; cases h
       show (match numT q, allNum (r ++ [p]) with | some n, some ns => some (n :: ns) | _, _ => none) = _
       rw [h1, allNum_snoc h2 hp]; rfl
theorem allNum_no : ∀ {ps : List Str} {p : Str}, p ∈ ps → numT p = none → allNum ps = none
 | q :: r, p, hm, hp => by
   unfold allNum
   rcases List.mem_cons.mp hm with rfl | hm
   · rw [hp]
   · rw [allNum_no hm hp]
     cases numT q <;> rfl
def Ltr (c : Nat) : Prop := (97 ≤ c ∧ c ≤ 122) ∨ (48 ≤ c ∧ c ≤ 57)
def Adj : List Nat → Prop
 | [] => False
 | [a] => Ltr a
 | a :: b :: r => (a = 32 → Ltr b) ∧ (a = 59 → b = 32) ∧ Adj (b :: r)
theorem Adj.mid : ∀ {A B : List Nat} {a b : Nat}, Adj (A ++ a :: b :: B) → (a = 32 → Ltr b) ∧ (a = 59 → b = 32)
 | [], _, _, _, h => ⟨h.1, h.2.1⟩
 | [_], _, _, _, h => Adj.mid (A := []) h.2.2
 | _ :: y :: A, _, _, _, h => Adj.mid (A := y :: A) h.2.2
theorem Adj.last : ∀ {A : List Nat} {a : Nat}, Adj (A ++ [a]) → Ltr a
 | [], _, h => h
 | [_], _, h => Adj.last (A := []) h.2.2
 | _ :: y :: A, _, h => Adj.last (A := y :: A) h.2.2
theorem ltr_no {a : Nat} (h : Ltr a) : a ≠ 32 ∧ a ≠ 59 := by unfold Ltr at h; omega
theorem Adj.word : ∀ {w : List Nat}, w ≠ [] → (∀ c ∈ w, Ltr c) → Adj w
 | [], h, _ => absurd rfl h
 | [a], _, h => h a (List.mem_cons_self ..)
 | a :: b :: r, _, h => by
   have ha := ltr_no (h a (List.mem_cons_self ..))
   exact ⟨fun z => absurd z ha.1, fun z => absurd z ha.2, Adj.word (by simp) (fun c hc => h c (List.mem_cons_of_mem _ hc))⟩
theorem Adj.join : ∀ {x : List Nat} {m : List Nat}, Adj x → (∀ a, Ltr a → Adj (a :: m)) → Adj (x ++ m)
 | [], _, h, _ => h.elim
 | [a], _, h, k => k a h
 | a :: b :: r, _, h, k => ⟨h.1, h.2.1, Adj.join (x := b :: r) h.2.2 k⟩
def HdL (l : List Nat) : Prop := ∃ c r, l = c :: r ∧ Ltr c
theorem Adj.blank {x v : List Nat} (hx : Adj x) (hv : Adj v) (h : HdL v) : Adj (x ++ 32 :: v) := hx.join fun a ha => by
 have n := ltr_no ha
 obtain ⟨c, r, rfl, hc⟩ := h
 exact ⟨fun z => absurd z n.1, fun z => absurd z n.2, fun _ => hc, fun z => (by cases z), hv⟩
theorem Adj.semi {x v : List Nat} (hx : Adj x) (hv : Adj v) (h : HdL v) : Adj (x ++ 59 :: 32 :: v) := hx.join fun a ha => by
 have n := ltr_no ha
 obtain ⟨c, r, rfl, hc⟩ := h
 exact ⟨fun z => absurd z n.1, fun z => absurd z n.2, fun z => (by cases z), fun _ => rfl, fun _ => hc, fun z => (by cases z), hv⟩
theorem HdL.app {x y : List Nat} (h : HdL x) : HdL (x ++ y) := by
 obtain ⟨c, r, rfl, hc⟩ := h
 exact ⟨c, r ++ y, rfl, hc⟩
theorem jn_words : ∀ {ws : List (List Nat)}, ws ≠ [] → (∀ w ∈ ws, w ≠ [] ∧ ∀ c ∈ w, Ltr c) → Adj (jn [32] ws) ∧ HdL (jn [32] ws)
 | [], h, _ => absurd rfl h
 | [w], _, h => by
   obtain ⟨h1, h2⟩ := h w (List.mem_cons_self ..)
   refine ⟨Adj.word h1 h2, ?_⟩
   cases w with
   | nil => exact absurd rfl h1
   | cons c r => exact ⟨c, r, rfl, h2 c (List.mem_cons_self ..)⟩
 | w :: x :: r, _, h => by
   obtain ⟨i1, i2⟩ := jn_words (ws := x :: r) (by simp) (fun y hy => h y (List.mem_cons_of_mem _ hy))
   obtain ⟨h1, h2⟩ := h w (List.mem_cons_self ..)
   have e : jn [32] (w :: x :: r) = w ++ 32 :: jn [32] (x :: r) := by simp [jn]
   rw [e]
   refine ⟨(Adj.word h1 h2).blank i1 i2, HdL.app ?_⟩
   cases w with
   | nil => exact absurd rfl h1
   | cons c r => exact ⟨c, r, rfl, h2 c (List.mem_cons_self ..)⟩
theorem jn_parts : ∀ {ps : List (List Nat)}, ps ≠ [] → (∀ p ∈ ps, Adj p ∧ HdL p) → Adj (jn [59, 32] ps) ∧ HdL (jn [59, 32] ps)
 | [], h, _ => absurd rfl h
 | [p], _, h => h p (List.mem_cons_self ..)
 | p :: x :: r, _, h => by
   obtain ⟨i1, i2⟩ := jn_parts (ps := x :: r) (by simp) (fun y hy => h y (List.mem_cons_of_mem _ hy))
   obtain ⟨h1, h2⟩ := h p (List.mem_cons_self ..)
   have e : jn [59, 32] (p :: x :: r) = p ++ 59 :: 32 :: jn [59, 32] (x :: r) := by simp [jn]
   rw [e]
   exact ⟨h1.semi i1 i2, h2.app⟩
def rowR (t : Str) : Option RD := match Txt.split t " " with
 | [] => none
 | w :: ps => match allNum ps with
   | none => none
   | some ns => if hasC (w, ns) = true then some (w, ns) else none
def rowsR : List Str → Option (List RD)
 | [] => some []
 | t :: r => match rowR t, rowsR r with
   | some x, some xs => some (x :: xs)
   | _, _ => none
theorem rowsR_no : ∀ {ts : List Str} {t : Str}, t ∈ ts → rowR t = none → rowsR ts = none
 | [], _, h, _ => by cases h
 | u :: r, t, h, e => by
   unfold rowsR
   rcases List.mem_cons.mp h with rfl | h
   · rw [e]
   · rw [rowsR_no h e]
     cases rowR u <;> rfl
theorem rowsR_mem : ∀ {ts : List Str} {rs : List RD}, rowsR ts = some rs → ∀ t ∈ ts, ∃ r, rowR t = some r
 | [], _, _, t, h => by cases h
 | u :: r, rs, e, t, h => by
   unfold rowsR at e
   cases h1 : rowR u with
   | none => rw [h1] at e; cases e
   | some x =>
     cases h2 : rowsR r with
     | none => rw [h1, h2] at e; cases e
     | some xs =>
       rcases List.mem_cons.mp h with rfl | h
       · exact ⟨x, h1⟩
       · exact rowsR_mem h2 t h
theorem rowsR_app : ∀ {ts us : List Str} {rs ss : List RD}, rowsR ts = some rs → rowsR us = some ss → rowsR (ts ++ us) = some (rs ++ ss)
 | [], _, _, _, h, h2 => by cases h; exact h2
 | t :: r, us, rs, ss, h, h2 => by
   unfold rowsR at h
   cases h1 : rowR t with
   | none => rw [h1] at h; cases h
   | some x =>
     cases h3 : rowsR r with
     | none => rw [h1, h3] at h; cases h
     | some xs =>
       rw [h1, h3] at h
       cases h
       show rowsR (t :: (r ++ us)) = _
       unfold rowsR
       rw [h1, rowsR_app h3 h2]
       rfl
theorem hasC_word {r : RD} (h : hasC r = true) : r.1 ∈ wordsP := by
 unfold hasC at h
 dsimp only at h
 by_cases h1 : r.1 = "call"
 · rw [h1]; decide +kernel
 by_cases h2 : r.1 = "hand"
 · rw [h2]; decide +kernel
 rw [if_neg h1, if_neg h2] at h
 by_cases hm : r.1 ∈ (["fun", "set", "copy", "sum", "minus", "product", "less", "drop", "give", "if", "else", "while", "try", "landing", "end"] : List Str)
 · have : ∀ w ∈ (["fun", "set", "copy", "sum", "minus", "product", "less", "drop", "give", "if", "else", "while", "try", "landing", "end"] : List Str), w ∈ wordsP := by decide +kernel
   exact this _ hm
 · have e := List.idxOf_eq_length hm
   rw [e] at h
   cases h
theorem word_ltr : ∀ w ∈ wordsP, w.cps.toList ≠ [] ∧ ∀ c ∈ w.cps.toList, 97 ≤ c ∧ c ≤ 122 := by decide +kernel
theorem num_ltr {x : Str} (h : isNumT x = true) : x.cps.toList ≠ [] ∧ ∀ c ∈ x.cps.toList, 48 ≤ c ∧ c ≤ 57 := by
 unfold isNumT at h
 simp only [Bool.and_eq_true, decide_eq_true_eq, List.all_eq_true] at h
 obtain ⟨⟨⟨h1, h2⟩, _⟩, h4⟩ := h
 exact ⟨fun z => (by rw [z] at h1; exact absurd h1 (by decide)), fun c hc => figs_iff.mp (h4 c hc)⟩
theorem rowR_ltr {t : Str} {r : RD} (h : rowR t = some r) : Adj t.cps.toList ∧ HdL t.cps.toList := by
 unfold rowR at h
 have e := PySem.StrLaws.join_split t " "
 split at h
 · cases h
 · rename_i w ps hs
   split at h
   · cases h
   · rename_i ns hn
     split at h
     · rename_i hc
       rw [← e, join_toList, hs]
       refine jn_words (by simp) fun u hu => ?_
       obtain ⟨v, hv, rfl⟩ := List.mem_map.mp hu
       rcases List.mem_cons.mp hv with rfl | hv
       · obtain ⟨k1, k2⟩ := word_ltr _ (hasC_word hc)
         exact ⟨k1, fun c hc => .inl (k2 c hc)⟩
       · have hv2 : isNumT v = true := by
           cases hx : isNumT v with
           | true => rfl
           | false =>
             have : numT v = none := by unfold numT; rw [hx]; rfl
             rw [allNum_no hv this] at hn; cases hn
         obtain ⟨k1, k2⟩ := num_ltr hv2
         exact ⟨k1, fun c hc => .inr (k2 c hc)⟩
     · cases h
def readT (t : Str) : Option (List RD) := rowsR (Txt.split t "; ")
theorem readT_ltr {t : Str} {rs : List RD} (h : readT t = some rs) : Adj t.cps.toList ∧ HdL t.cps.toList := by
 have e := PySem.StrLaws.join_split t "; "
 rw [← e, join_toList]
 refine jn_parts (fun z => ?_) fun p hp => ?_
 · have := (split_len t "; ").1
   rw [List.map_eq_nil_iff.mp z] at this
   exact absurd this (by decide)
 · obtain ⟨u, hu, rfl⟩ := List.mem_map.mp hp
   obtain ⟨r, hr⟩ := rowsR_mem h u hu
   exact rowR_ltr hr
theorem readT_no {t : Str} (h : ¬ (Adj t.cps.toList ∧ HdL t.cps.toList)) : readT t = none := by
 cases e : readT t with
 | none => rfl
 | some rs => exact absurd (readT_ltr e) h
theorem bad_end {t : Str} {l : List Nat} {c : Nat} (h : t.cps.toList = l ++ [c]) (hc : ¬ Ltr c) : readT t = none := readT_no fun ⟨a, _⟩ => by
 rw [h] at a
 exact hc a.last
theorem bad_head {t : Str} {l : List Nat} {c : Nat} (h : t.cps.toList = c :: l) (hc : ¬ Ltr c) : readT t = none := readT_no fun ⟨_, d, r, e, hd⟩ => by
 rw [h] at e
 cases e
 exact hc hd
theorem bad_semi {t : Str} {l r : List Nat} {c : Nat} (h : t.cps.toList = l ++ 59 :: c :: r) (hc : c ≠ 32) : readT t = none := readT_no fun ⟨a, _⟩ => by
 rw [h] at a
 exact hc (a.mid.2 rfl)
theorem isNumT_numS {n : Int} (h0 : 0 ≤ n) (h1 : n < 10 ^ 10) : isNumT (numS n) = true := by
 have l1 := numS_len h0 h1
 have l2 := numS_ne h0
 have l3 : 1 ≤ (numS n).cps.toList.length := by
   cases e : (numS n).cps.toList with
   | nil => exact absurd e l2
   | cons => exact Nat.succ_le_succ (Nat.zero_le _)
 unfold isNumT
 simp only [Bool.and_eq_true, decide_eq_true_eq, List.all_eq_true]
 refine ⟨⟨⟨l3, l1⟩, ?_⟩, fun c hc => figs_iff.mpr ?_⟩
 · cases e : (numS n).cps.toList with
   | nil => exact absurd e l2
   | cons c r =>
     by_cases hc : c = 48
     · subst hc
       have := numS_head h0 e
       subst this
       have : (numS 0).cps.toList = [48] := by decide +kernel
       rw [this] at e
       cases e
       rfl
     · simp [hc]
 · by_cases h : 48 ≤ c ∧ c ≤ 57
   · exact h
   · exact absurd hc (numS_free h0 (by omega))
theorem numT_numS {n : Int} (h0 : 0 ≤ n) (h1 : n < 10 ^ 10) : numT (numS n) = some n := by
 have h := isNumT_numS h0 h1
 have e := (numT_reads h).1
 rw [numS_reads h0 h1] at e
 unfold numT
 rw [if_pos h]
 injection e with e
 rw [← e]
theorem allNum_numS : ∀ {ns : List Int}, (∀ n ∈ ns, 0 ≤ n ∧ n < 10 ^ 10) → allNum (ns.map numS) = some ns
 | [], _ => rfl
 | n :: r, h => by
   obtain ⟨h0, h1⟩ := h n (List.mem_cons_self ..)
   show allNum (numS n :: r.map numS) = _
   unfold allNum
   rw [numT_numS h0 h1, allNum_numS (fun x hx => h x (List.mem_cons_of_mem _ hx))]
structure RdG (r : RD) : Prop where
 ct : hasC r = true
 num : ∀ n ∈ r.2, 0 ≤ n ∧ n < 10 ^ 10
theorem RdG.free {r : RD} (h : RdG r) {c : Nat} (hc : c = 32 ∨ c = 59) : ∀ w ∈ r.1 :: r.2.map numS, c ∉ w.cps.toList := by
 intro w hw
 rcases List.mem_cons.mp hw with rfl | hw
 · obtain ⟨h1, h2, _⟩ := wordsP_free _ (hasC_word h.ct)
   rcases hc with rfl | rfl
   · exact h1
   · exact h2
 · obtain ⟨n, hn, rfl⟩ := List.mem_map.mp hw
   exact numS_free (h.num n hn).1 (by omega)
theorem RdG.split {r : RD} (h : RdG r) : Txt.split (rowX r) " " = r.1 :: r.2.map numS := split_joined (c := 32) (s := []) rfl (by decide) (by decide +kernel) (fun z => by cases z) (h.free (.inl rfl))
theorem RdG.noSemi {r : RD} (h : RdG r) : 59 ∉ (rowX r).cps.toList := by
 unfold rowX
 rw [join_toList]
 refine jn_mem 59 _ (by decide +kernel) _ fun w hw => ?_
 obtain ⟨t, ht, rfl⟩ := List.mem_map.mp hw
 exact h.free (.inr rfl) t ht
theorem RdG.rowR {r : RD} (h : RdG r) : rowR (rowX r) = some r := by
 unfold FB.rowR
 rw [h.split]
 dsimp only
 rw [allNum_numS h.num]
 dsimp only
 rw [if_pos h.ct]
theorem rowsR_rows : ∀ {rs : List RD}, (∀ r ∈ rs, RdG r) → rowsR (rs.map rowX) = some rs
 | [], _ => rfl
 | r :: t, h => by
   show rowsR (rowX r :: t.map rowX) = _
   unfold rowsR
   rw [(h r (List.mem_cons_self ..)).rowR, rowsR_rows (fun x hx => h x (List.mem_cons_of_mem _ hx))]
def textR (rs : List RD) : Str := PySem.Str.join "; " (rs.map rowX)
theorem split_semi {ts : List Str} (hne : ts ≠ []) (h : ∀ t ∈ ts, 59 ∉ t.cps.toList) : Txt.split (PySem.Str.join "; " ts) "; " = ts := split_joined (c := 59) (s := [32]) rfl (by decide) (by decide +kernel) hne h
theorem read_rows {rs : List RD} (hne : rs ≠ []) (h : ∀ r ∈ rs, RdG r) : readT (textR rs) = some rs := by
 unfold readT textR
 rw [split_semi (fun z => hne (List.map_eq_nil_iff.mp z)) (fun t ht => by obtain ⟨r, hr, rfl⟩ := List.mem_map.mp ht; exact (h r hr).noSemi)]
 exact rowsR_rows h
theorem jn_app (sep : List Nat) : ∀ {a b : List (List Nat)}, a ≠ [] → b ≠ [] → jn sep (a ++ b) = jn sep a ++ (sep ++ jn sep b)
 | [], _, h, _ => absurd rfl h
 | [x], [], _, h => absurd rfl h
 | [x], y :: r, _, _ => rfl
 | x :: y :: r, b, _, hb => by
   have ih := jn_app sep (a := y :: r) (by simp) hb
   show x ++ (sep ++ jn sep ((y :: r) ++ b)) = _
   rw [ih]
   show _ = (x ++ (sep ++ jn sep (y :: r))) ++ _
   simp
theorem join_app {ts us : List Str} (ht : ts ≠ []) (hu : us ≠ []) : PySem.Str.join "; " (ts ++ us) = PySem.Str.join "; " ts ++ ("; " ++ PySem.Str.join "; " us) := str_eq (by
 rw [str_app, str_app, join_toList, join_toList, join_toList, List.map_append]
 exact jn_app _ (fun z => ht (List.map_eq_nil_iff.mp z)) (fun z => hu (List.map_eq_nil_iff.mp z)))
theorem bad_more {rs : List RD} {us : List Str} {u x : Str} (hne : rs ≠ []) (h : ∀ r ∈ rs, RdG r) (hx : x = "; " ++ PySem.Str.join "; " us) (hf : ∀ t ∈ us, 59 ∉ t.cps.toList) (hu : u ∈ us) (hr : rowR u = none) : readT (textR rs ++ x) = none := by
 have hu0 : us ≠ [] := List.ne_nil_of_mem hu
 have hr0 : rs.map rowX ≠ [] := fun z => hne (List.map_eq_nil_iff.mp z)
 unfold readT textR
 rw [hx, ← join_app hr0 hu0, split_semi (fun z => hr0 (List.append_eq_nil_iff.mp z).1) (fun t ht => by
   rcases List.mem_append.mp ht with ht | ht
   · obtain ⟨r, hr, rfl⟩ := List.mem_map.mp ht; exact (h r hr).noSemi
   · exact hf t ht)]
 exact rowsR_no (List.mem_append_right _ hu) hr
theorem read_more {rs ss : List RD} {x : Str} (hne : rs ≠ []) (h : ∀ r ∈ rs, RdG r) (hs : ss ≠ []) (h2 : ∀ r ∈ ss, RdG r) (hx : x = "; " ++ textR ss) : readT (textR rs ++ x) = some (rs ++ ss) := by
 have e : textR rs ++ x = textR (rs ++ ss) := by
   rw [hx]; unfold textR
   rw [List.map_append, join_app (fun z => hne (List.map_eq_nil_iff.mp z)) (fun z => hs (List.map_eq_nil_iff.mp z))]
 rw [e]
 exact read_rows (fun z => hne (List.append_eq_nil_iff.mp z).1) (fun r hr => by
   rcases List.mem_append.mp hr with z | z
   · exact h r z
   · exact h2 r z)
def toldS (t : Str) : Str := if 8000 < t.length then "text" else match readT t with
 | none => "text"
 | some rs => match pF (rs.length + 1) rs with
   | none => "text"
   | some fs => if progB fs = true then "read" else "program"
theorem told_none {t : Str} (h : readT t = none) : toldS t = "text" := by
 unfold toldS
 split
 · rfl
 · rw [h]
theorem told_noF {t : Str} {rs : List RD} (h : readT t = some rs) (h2 : pF (rs.length + 1) rs = none) : toldS t = "text" := by
 unfold toldS
 split
 · rfl
 · rw [h]; dsimp only; rw [h2]
theorem told_long {t : Str} (h : 8000 < t.length) : toldS t = "text" := by unfold toldS; rw [if_pos h]
theorem told_no {t : Str} {rs : List RD} (hl : t.length ≤ 8000) (h : readT t = some rs) (h2 : noProg rs = true) : toldS t = "program" := by
 unfold noProg at h2
 unfold toldS
 rw [if_neg (by omega), h]
 dsimp only
 cases e : pF (rs.length + 1) rs with
 | none => rw [e] at h2; cases h2
 | some fs =>
   rw [e] at h2
   dsimp only at h2 ⊢
   cases e2 : progB fs with
   | true => rw [e2] at h2; cases h2
   | false => rw [if_neg Bool.false_ne_true]
theorem told_yes {t : Str} {fs : List (Int × List Stm)} (hl : t.length ≤ 8000) (h : readT t = some (rowsP fs)) (O : ProgOk fs) (L : ∀ f ∈ fs, ∀ s ∈ f.2, OkL (fs.map (·.1)) 5 s) : toldS t = "read" := by
 unfold toldS
 rw [if_neg (by omega), h]
 dsimp only
 rw [pF_rows fs _ L (Nat.lt_succ_self _)]
 dsimp only
 rw [if_pos (progB_ok O)]
theorem bad_bal {rs ss : List RD} {f g : Nat} {fs : List (Int × List Stm)} (h : pF f rs = some fs) {j : Fin 4} (hj : j ≠ 3) (hs : sw j ss ≠ 0) : pF g (rs ++ ss) = none := by
 cases e : pF g (rs ++ ss) with
 | none => rfl
 | some gs =>
   have h1 := (pF_bal _ _ _ h).1 j hj
   have h2 := (pF_bal _ _ _ e).1 j hj
   rw [sw_app, h1, Int.zero_add] at h2
   exact absurd h2 hs
theorem bad_fun {rs pre post : List RD} {r : RD} {f g : Nat} {fs : List (Int × List Stm)} (h : pF f rs = some fs) (hr : r.1 = "fun") {j : Fin 4} (hj : j ≠ 3) (hs : sw j pre ≠ 0) : pF g (rs ++ (pre ++ r :: post)) = none := by
 cases e : pF g (rs ++ (pre ++ r :: post)) with
 | none => rfl
 | some gs =>
   have h1 := (pF_bal _ _ _ h).1 j hj
   have h2 := (pF_bal _ _ _ e).2.1 (rs ++ pre) r post (by rw [List.append_assoc]) hr j hj
   rw [sw_app, h1, Int.zero_add] at h2
   exact absurd h2 hs
theorem bad_first {rs : List RD} {r : RD} {g : Nat} (hr : r.1 ≠ "fun") : pF g (r :: rs) = none := by
 cases e : pF g (r :: rs) with
 | none => rfl
 | some gs => exact absurd ((pF_bal _ _ _ e).2.2 r rs rfl) hr
theorem bad_out {a b : List RD} {f g : Nat} {fs : List (Int × List Stm)} (h : pF f (a ++ rd "end" [] :: b) = some fs) : pF g (a ++ b) = none := by
 cases e : pF g (a ++ b) with
 | none => rfl
 | some gs =>
   have h1 := (pF_bal _ _ _ h).1 0 (by decide)
   have h2 := (pF_bal _ _ _ e).1 0 (by decide)
   rw [sw_app, sw_cons, show wt 0 (rd "end" []).1 = -1 from by decide +kernel] at h1
   rw [sw_app] at h2
   omega
def way3 : List (Str × List RD) := [("; end", [rd "end" []]), ("; else", [rd "else" []]), ("; landing 0", [rd "landing" [0]]), ("; while 0; else; end", [rd "while" [0], rd "else" [], rd "end" []]), ("; try; end", [rd "try" [], rd "end" []]), ("; if 0; end", [rd "if" [0], rd "end" []]), ("; while 0", [rd "while" [0]])]
theorem way3_text : ∀ x ∈ way3, x.1 = "; " ++ textR x.2 ∧ x.2 ≠ [] ∧ (∀ r ∈ x.2, hasC r = true ∧ ∀ n ∈ r.2, 0 ≤ n ∧ n < 10 ^ 10) ∧ (sw 0 x.2 ≠ 0 ∨ sw 1 x.2 ≠ 0 ∨ sw 2 x.2 ≠ 0) := by decide +kernel
theorem way3_bad {rs : List RD} {f : Nat} {fs : List (Int × List Stm)} {x : Str × List RD} (hx : x ∈ way3) (hne : rs ≠ []) (hg : ∀ r ∈ rs, RdG r) (h : pF f rs = some fs) : toldS (textR rs ++ x.1) = "text" := by
 obtain ⟨h1, h2, h3, h4⟩ := way3_text x hx
 refine told_noF (read_more hne hg h2 (fun r hr => ⟨(h3 r hr).1, (h3 r hr).2⟩) h1) ?_
 rcases h4 with z | z | z
 · exact bad_bal h (j := 0) (by decide) z
 · exact bad_bal h (j := 1) (by decide) z
 · exact bad_bal h (j := 2) (by decide) z
def way5 : List (Str × List Str × Str) := [("; keep 0", ["keep 0"], "keep 0"), ("; Set 0 1", ["Set 0 1"], "Set 0 1"), ("; fun", ["fun"], "fun"), ("; call", ["call"], "call"), ("; hand", ["hand"], "hand"), ("; set 0", ["set 0"], "set 0"),
 ("; set 0 1 2", ["set 0 1 2"], "set 0 1 2"), ("; give 1 2", ["give 1 2"], "give 1 2"), ("; try 1; landing 0; end", ["try 1", "landing 0", "end"], "try 1"), ("; fun 1 1", ["fun 1 1"], "fun 1 1"), ("; else 1", ["else 1"], "else 1"),
 ("; set 0 007", ["set 0 007"], "set 0 007"), ("; set 0 00", ["set 0 00"], "set 0 00"), ("; set 0 ", ["set 0 "], "set 0 "), ("; set 0 -1", ["set 0 -1"], "set 0 -1"), ("; set 0 +1", ["set 0 +1"], "set 0 +1"), ("; set 0 x", ["set 0 x"], "set 0 x"),
 ("; set 0 42949672950", ["set 0 42949672950"], "set 0 42949672950"), ("; set 0 42949672951", ["set 0 42949672951"], "set 0 42949672951"), ("; set 0 42949672952", ["set 0 42949672952"], "set 0 42949672952"), ("; set 0 42949672953", ["set 0 42949672953"], "set 0 42949672953"), ("; set 0 42949672954", ["set 0 42949672954"], "set 0 42949672954"), ("; set 0 42949672955", ["set 0 42949672955"], "set 0 42949672955"), ("; set 0 42949672956", ["set 0 42949672956"], "set 0 42949672956"), ("; set 0 42949672957", ["set 0 42949672957"], "set 0 42949672957"), ("; set 0 42949672958", ["set 0 42949672958"], "set 0 42949672958"), ("; set 0 42949672959", ["set 0 42949672959"], "set 0 42949672959")]
theorem way5_text : ∀ x ∈ way5, x.1 = "; " ++ PySem.Str.join "; " x.2.1 ∧ (∀ t ∈ x.2.1, 59 ∉ t.cps.toList) ∧ x.2.2 ∈ x.2.1 ∧ (rowR x.2.2).isNone = true := by decide +kernel
theorem way5_bad {rs : List RD} {x : Str × List Str × Str} (hx : x ∈ way5) (hne : rs ≠ []) (hg : ∀ r ∈ rs, RdG r) : toldS (textR rs ++ x.1) = "text" := by
 obtain ⟨h1, h2, h3, h4⟩ := way5_text x hx
 exact told_none (bad_more hne hg h1 h2 h3 (Option.isNone_iff_eq_none.mp h4))
def way9 : List (Str × List RD × RD × List RD) := [("; while 0; fun 0; end", [rd "while" [0]], rd "fun" [0], [rd "end" []]), ("; try; fun 0; landing 1; end", [rd "try" []], rd "fun" [0], [rd "landing" [1], rd "end" []]), ("; if 0; else; fun 1; end", [rd "if" [0], rd "else" []], rd "fun" [1], [rd "end" []])]
theorem way9_text : ∀ x ∈ way9, x.1 = "; " ++ textR (x.2.1 ++ x.2.2.1 :: x.2.2.2) ∧ (∀ r ∈ x.2.1 ++ x.2.2.1 :: x.2.2.2, hasC r = true ∧ ∀ n ∈ r.2, 0 ≤ n ∧ n < 10 ^ 10) ∧ sw 0 x.2.1 ≠ 0 ∧ x.2.2.1.1 = "fun" := by decide +kernel
theorem way9_bad {rs : List RD} {f : Nat} {fs : List (Int × List Stm)} {x : Str × List RD × RD × List RD} (hx : x ∈ way9) (hne : rs ≠ []) (hg : ∀ r ∈ rs, RdG r) (h : pF f rs = some fs) : toldS (textR rs ++ x.1) = "text" := by
 obtain ⟨h1, h3, h4, h5⟩ := way9_text x hx
 exact told_noF (read_more hne hg (by simp) (fun r hr => ⟨(h3 r hr).1, (h3 r hr).2⟩) h1) (bad_fun h h5 (j := 0) (by decide) h4)
theorem told_1 {rs : List RD} : ∀ t ∈ ([" " ++ textR rs, textR rs ++ " ", textR rs ++ "\n", textR rs ++ ";", "", "; " ++ textR rs, textR rs ++ "; "] : List Str), toldS t = "text" := by
 intro t ht
 have n32 : ¬ Ltr 32 := fun h => (ltr_no h).1 rfl
 have n59 : ¬ Ltr 59 := fun h => (ltr_no h).2 rfl
 have n10 : ¬ Ltr 10 := fun h => by unfold Ltr at h; omega
 simp only [List.mem_cons, List.not_mem_nil, or_false] at ht
 rcases ht with rfl | rfl | rfl | rfl | rfl | rfl | rfl
 · exact told_none (bad_head (l := (textR rs).cps.toList) (by rw [str_app]; rfl) n32)
 · exact told_none (bad_end (l := (textR rs).cps.toList) (by rw [str_app]; rfl) n32)
 · exact told_none (bad_end (l := (textR rs).cps.toList) (by rw [str_app]; rfl) n10)
 · exact told_none (bad_end (l := (textR rs).cps.toList) (by rw [str_app]; rfl) n59)
 · decide +kernel
 · exact told_none (bad_head (l := 32 :: (textR rs).cps.toList) (by rw [str_app]; rfl) n59)
 · exact told_none (bad_end (l := (textR rs).cps.toList ++ [59]) (by rw [str_app, List.append_assoc]; rfl) n32)
theorem told_7 {rs : List RD} : toldS (textR rs ++ ";set 0 1") = "text" :=
 told_none (bad_semi (l := (textR rs).cps.toList) (c := 115) (r := [101, 116, 32, 48, 32, 49]) (by rw [str_app]; rfl) (by decide))
theorem told_8 {rs : List RD} (hne : rs ≠ []) (hg : ∀ r ∈ rs, RdG r) : toldS ("set 0 1; " ++ textR rs) = "text" := by
 have k : ("set 0 1; " : Str).cps.toList = (textR [rd "set" [0, 1]]).cps.toList ++ ("; " : Str).cps.toList := by decide +kernel
 have e : ("set 0 1; " : Str) ++ textR rs = textR [rd "set" [0, 1]] ++ ("; " ++ textR rs) := str_eq (by simp only [str_app, k, List.append_assoc])
 rw [e]
 refine told_noF (read_more (by simp) (fun r hr => ?_) hne hg rfl) (bad_first (by decide +kernel))
 have := List.mem_singleton.mp hr
 subst this
 exact ⟨by decide +kernel, fun n hn => by
   simp only [List.mem_cons, List.not_mem_nil, or_false] at hn
   omega⟩
theorem told_0 {t u : Str} {l r : List Nat} (h : t.cps.toList = l ++ 32 :: r) (hu : u.cps.toList = l ++ 32 :: 32 :: r) : toldS u = "text" :=
 told_none (readT_no fun ⟨a, _⟩ => by rw [hu] at a; exact (ltr_no (a.mid.1 rfl)).1 rfl)
def repS : Nat → Str → Str
 | 0, _ => ""
 | n + 1, s => s ++ repS n s
theorem repS_list (s : Str) : ∀ n, (repS n s).cps.toList = (List.replicate n s.cps.toList).flatten
 | 0 => rfl
 | n + 1 => by
   show (s ++ repS n s).cps.toList = _
   rw [str_app, repS_list s n, List.replicate_succ, List.flatten_cons]
theorem text_rep {rs : List RD} (r : RD) (hne : rs ≠ []) : ∀ n, textR rs ++ repS n ("; " ++ rowX r) = textR (rs ++ List.replicate n r)
 | 0 => str_eq (by rw [str_app]; show _ ++ [] = _; rw [List.append_nil, List.replicate_zero, List.append_nil])
 | n + 1 => by
   have ih := text_rep (rs := rs ++ [r]) r (by simp) n
   have e : textR (rs ++ [r]) = textR rs ++ ("; " ++ rowX r) := by
     unfold textR
     rw [List.map_append]
     exact join_app (fun z => hne (List.map_eq_nil_iff.mp z)) (by simp)
   rw [e, List.append_assoc, List.singleton_append, ← List.replicate_succ] at ih
   rw [← ih]
   exact str_eq (by
     show (textR rs ++ (("; " ++ rowX r) ++ repS n ("; " ++ rowX r))).cps.toList = _
     simp only [str_app, List.append_assoc])
theorem repS_len (s : Str) : ∀ n, (repS n s).length = n * s.length
 | 0 => by show 0 = 0 * s.length; omega
 | n + 1 => by
   have e : (repS (n + 1) s).length = s.length + (repS n s).length := by
     show (s ++ repS n s).cps.toList.length = s.cps.toList.length + (repS n s).cps.toList.length
     rw [str_app, List.length_append]
   rw [e, repS_len s n, Nat.succ_mul]; omega
theorem app_len (a b : Str) : (a ++ b).length = a.length + b.length := by
 show (a ++ b).cps.toList.length = a.cps.toList.length + b.cps.toList.length
 rw [str_app, List.length_append]
theorem told_of {t : Str} {rs : List RD} (e : t = textR rs) (hne : rs ≠ []) (hg : ∀ r ∈ rs, RdG r) (hl : t.length ≤ 8000) (h : noProg rs = true) : toldS t = "program" := by
 subst e
 exact told_no hl (read_rows hne hg) h
theorem zeroG (w : Str) (h : hasC (rd w [0]) = true) : RdG (rd w [0]) := ⟨h, fun n hn => by have := List.mem_singleton.mp hn; subst this; decide⟩
theorem fun0 : textR [rd "fun" [0]] = "fun 0" := by decide +kernel
theorem give0 : ("; " : Str) ++ rowX (rd "give" [0]) = "; give 0" := by decide +kernel
theorem funx : ("; " : Str) ++ rowX (rd "fun" [0]) = "; fun 0" := by decide +kernel
theorem while0 : ("; " : Str) ++ rowX (rd "while" [0]) = "; while 0" := by decide +kernel
theorem endx : ("; " : Str) ++ rowX (rd "end" []) = "; end" := by decide +kernel
theorem text_give (n : Nat) : ("fun 0" : Str) ++ repS n "; give 0" = textR ([rd "fun" [0]] ++ List.replicate n (rd "give" [0])) := by
 have := text_rep (rs := [rd "fun" [0]]) (rd "give" [0]) (by simp) n
 rwa [fun0, give0] at this
theorem text_fun (n : Nat) : ("fun 0" : Str) ++ repS n "; fun 0" = textR ([rd "fun" [0]] ++ List.replicate n (rd "fun" [0])) := by
 have := text_rep (rs := [rd "fun" [0]]) (rd "fun" [0]) (by simp) n
 rwa [fun0, funx] at this
theorem text_while (n : Nat) : ("fun 0" : Str) ++ repS n "; while 0" ++ repS n "; end" = textR ([rd "fun" [0]] ++ List.replicate n (rd "while" [0]) ++ List.replicate n (rd "end" [])) := by
 have h1 := text_rep (rs := [rd "fun" [0]]) (rd "while" [0]) (by simp) n
 have h2 := text_rep (rs := [rd "fun" [0]] ++ List.replicate n (rd "while" [0])) (rd "end" []) (by simp) n
 rw [fun0, while0] at h1
 rw [endx, ← h1] at h2
 exact h2
theorem good_while (n : Nat) : ∀ r ∈ [rd "fun" [0]] ++ List.replicate n (rd "while" [0]) ++ List.replicate n (rd "end" []), RdG r := by
 intro r hr
 rcases List.mem_append.mp hr with hr | hr
 · rcases List.mem_append.mp hr with hr | hr
   · rw [List.mem_singleton.mp hr]; exact zeroG "fun" (by decide +kernel)
   · rw [(List.mem_replicate.mp hr).2]; exact zeroG "while" (by decide +kernel)
 · rw [(List.mem_replicate.mp hr).2]; exact ⟨by decide +kernel, fun n hn => by cases hn⟩
theorem good_give (n : Nat) : ∀ r ∈ [rd "fun" [0]] ++ List.replicate n (rd "give" [0]), RdG r := by
 intro r hr
 rcases List.mem_append.mp hr with hr | hr
 · rw [List.mem_singleton.mp hr]; exact zeroG "fun" (by decide +kernel)
 · rw [(List.mem_replicate.mp hr).2]; exact zeroG "give" (by decide +kernel)
theorem told_6 : toldS ("fun 0" ++ repS 81 "; give 0") = "program" :=
 told_of (text_give 81) (by simp) (good_give 81) (by rw [app_len, repS_len]; decide) np6
theorem told_70 : toldS ("fun 0" ++ repS 8 "; fun 0") = "program" :=
 told_of (text_fun 8) (by simp) (fun r hr => by
   rcases List.mem_append.mp hr with hr | hr
   · rw [List.mem_singleton.mp hr]; exact zeroG "fun" (by decide +kernel)
   · rw [(List.mem_replicate.mp hr).2]; exact zeroG "fun" (by decide +kernel)) (by rw [app_len, repS_len]; decide) np7
theorem told_90 : toldS ("fun 0" ++ repS 40 "; while 0" ++ repS 40 "; end") = "program" :=
 told_of (text_while 40) (by simp) (good_while 40) (by rw [app_len, app_len, repS_len, repS_len]; decide) np9
theorem told_11 : toldS ("fun 0" ++ repS 41 "; while 0" ++ repS 41 "; end") = "text" := by
 rw [text_while 41]
 exact told_noF (read_rows (by simp) (good_while 41)) np11
theorem text_snoc {rs : List RD} {r : RD} (hne : rs ≠ []) : textR (rs ++ [r]) = textR rs ++ ("; " ++ rowX r) := by
 unfold textR
 rw [List.map_append]
 exact join_app (fun z => hne (List.map_eq_nil_iff.mp z)) (by simp)
theorem text12 : ("fun 0" : Str) ++ repS 998 "; give 0" ++ "; set 0 123" = textR ([rd "fun" [0]] ++ List.replicate 998 (rd "give" [0]) ++ [rd "set" [0, 123]]) := by
 rw [text_give 998, text_snoc (fun z => by cases z), show ("; " : Str) ++ rowX (rd "set" [0, 123]) = "; set 0 123" from by decide +kernel]
theorem len12 : (("fun 0" : Str) ++ repS 998 "; give 0" ++ "; set 0 123").length = 8000 := by
 rw [app_len, app_len, repS_len]; decide
theorem told_12 : toldS ("fun 0" ++ repS 998 "; give 0" ++ "; set 0 123") = "program" :=
 told_of text12 (by simp) (fun r hr => by
   rcases List.mem_append.mp hr with hr | hr
   · exact good_give 998 r hr
   · rw [List.mem_singleton.mp hr]
     exact ⟨by decide +kernel, fun n hn => by
       simp only [List.mem_cons, List.not_mem_nil, or_false] at hn
       omega⟩) (Nat.le_of_eq len12) (by
     have := np12
     rwa [← List.cons_append] at this)
theorem told_12b : toldS ("fun 0" ++ repS 998 "; give 0" ++ "; set 0 123" ++ "4") = "text" := told_long (by rw [app_len, len12]; decide)
theorem told_c {t : Str} {rs : List RD} (e : t = textR rs) (h : ((!rs.isEmpty && rs.all fun r => hasC r && r.2.all fun n => decide (0 ≤ n) && decide (n < 10 ^ 10)) && decide (t.length ≤ 8000)) = true) (h2 : noProg rs = true) : toldS t = "program" := by
 simp only [Bool.and_eq_true, decide_eq_true_eq, List.all_eq_true, Bool.not_eq_true', List.isEmpty_eq_false_iff] at h
 exact told_of e h.1.1 (fun r hr => ⟨(h.1.2 r hr).1, fun n hn => (h.1.2 r hr).2 n hn⟩) h.2 h2
theorem told_n0 : toldS "fun 4" = "program" := told_c (rs := [rd "fun" [4]]) (by decide +kernel) (by decide +kernel) np0
theorem told_n3 : toldS "fun 1; call 0 0" = "program" := told_c (rs := [rd "fun" [1], rd "call" [0, 0]]) (by decide +kernel) (by decide +kernel) np3
theorem told_n5 : toldS "fun 0; while 0; if 0; else; try; while 1; while 2; end; end; landing 0; end; end; end" = "program" := told_c (rs := [rd "fun" [0], rd "while" [0], rd "if" [0], rd "else" [], rd "try" [], rd "while" [1], rd "while" [2], rd "end" [], rd "end" [], rd "landing" [0], rd "end" [], rd "end" [], rd "end" []]) (by decide +kernel) (by decide +kernel) np5
theorem told_n8 : toldS "fun 2; hand 0 1 6" = "program" := told_c (rs := [rd "fun" [2], rd "hand" [0, 1, 6]]) (by decide +kernel) (by decide +kernel) np8
theorem vG {w : Str} {a v : Int} (h : hasC (rd w [a, v]) = true) (ha : 0 ≤ a ∧ a < 10 ^ 10) (h0 : 0 ≤ v) (h1 : v < 10 ^ 10) : RdG (rd w [a, v]) := ⟨h, fun n hn => by
 simp only [List.mem_cons, List.not_mem_nil, or_false] at hn
 rcases hn with rfl | rfl
 · exact ha
 · exact ⟨h0, h1⟩⟩
theorem told_n1 {v : Int} (h0 : 0 ≤ v) (h1 : v < 10 ^ 9) : toldS ("fun 0; set 6 " ++ numS v) = "program" := by
 have hl := numS_len h0 (by omega)
 have e : ("fun 0; set 6 " : Str) ++ numS v = textR [rd "fun" [0], rd "set" [6, v]] := str_eq (by
   rw [str_app]; unfold textR; rw [join_toList]; show _ = jn _ [(rowX (rd "fun" [0])).cps.toList, (rowX (rd "set" [6, v])).cps.toList]
   unfold rowX; rw [join_toList, join_toList]
   rfl)
 refine told_of e (by simp) (fun r hr => ?_) (by rw [app_len, show ("fun 0; set 6 " : Str).length = 13 from by decide +kernel]; omega) (np1 v)
 simp only [List.mem_cons, List.not_mem_nil, or_false] at hr
 rcases hr with rfl | rfl
 · exact zeroG "fun" (by decide +kernel)
 · exact vG (by kernel_rfl) (by decide) h0 (by omega)
theorem told_n4 {v : Int} (h0 : 0 ≤ v) (h1 : v < 10 ^ 9) : toldS ("fun 0; set 0 " ++ numS (4294967296 + v)) = "program" := by
 have hl := numS_len (n := 4294967296 + v) (by omega) (by omega)
 have e : ("fun 0; set 0 " : Str) ++ numS (4294967296 + v) = textR [rd "fun" [0], rd "set" [0, 4294967296 + v]] := str_eq (by
   rw [str_app]; unfold textR; rw [join_toList]; show _ = jn _ [(rowX (rd "fun" [0])).cps.toList, (rowX (rd "set" [0, 4294967296 + v])).cps.toList]
   unfold rowX; rw [join_toList, join_toList]
   rfl)
 refine told_of e (by simp) (fun r hr => ?_) (by rw [app_len, show ("fun 0; set 0 " : Str).length = 13 from by decide +kernel]; omega) (np4 h0)
 simp only [List.mem_cons, List.not_mem_nil, or_false] at hr
 rcases hr with rfl | rfl
 · exact zeroG "fun" (by decide +kernel)
 · exact vG (by kernel_rfl) (by decide) (by omega) (by omega)
theorem told_n2 {v : Int} (h0 : 0 ≤ v) (h1 : v < 10 ^ 9) : toldS ("fun 0; call 0 " ++ numS (1 + v) ++ " 0") = "program" := by
 have hl := numS_len (n := 1 + v) (by omega) (by omega)
 have e : ("fun 0; call 0 " : Str) ++ numS (1 + v) ++ " 0" = textR [rd "fun" [0], rd "call" [0, 1 + v, 0]] := str_eq (by
   rw [str_app, str_app]; unfold textR; rw [join_toList]; show _ = jn _ [(rowX (rd "fun" [0])).cps.toList, (rowX (rd "call" [0, 1 + v, 0])).cps.toList]
   unfold rowX; rw [join_toList, join_toList]
   rfl)
 refine told_of e (by simp) (fun r hr => ?_) (by rw [app_len, app_len, show ("fun 0; call 0 " : Str).length = 14 from by decide +kernel, show (" 0" : Str).length = 2 from by decide +kernel]; omega) (np2 h0)
 simp only [List.mem_cons, List.not_mem_nil, or_false] at hr
 rcases hr with rfl | rfl
 · exact zeroG "fun" (by decide +kernel)
 · exact ⟨by kernel_rfl, fun n hn => by
     simp only [List.mem_cons, List.not_mem_nil, or_false] at hn
     omega⟩
theorem jn_cut : ∀ {ps : List (List Nat)} {p : Nat}, (∀ w ∈ ps, 59 ∉ w) → (jn [59, 32] ps)[p]? = some 59 → ∃ a b, ps = a ++ b ∧ a ≠ [] ∧ b ≠ [] ∧ (jn [59, 32] ps).take p = jn [59, 32] a ∧ (jn [59, 32] ps).drop p = 59 :: 32 :: jn [59, 32] b
 | [], p, _, h => by simp [jn] at h
 | [x], p, hw, h => absurd (List.mem_of_getElem? (show x[p]? = some 59 from h)) (hw x (List.mem_cons_self ..))
 | x :: y :: r, p, hw, h => by
   have e : jn [59, 32] (x :: y :: r) = x ++ 59 :: 32 :: jn [59, 32] (y :: r) := rfl
   rw [e] at h ⊢
   by_cases h1 : p < x.length
   · rw [List.getElem?_append_left h1] at h
     exact absurd (List.mem_of_getElem? h) (hw x (List.mem_cons_self ..))
   · rw [List.getElem?_append_right (by omega)] at h
     obtain ⟨q, hq⟩ : ∃ q, p = x.length + q := ⟨p - x.length, by omega⟩
     subst hq
     rw [Nat.add_sub_cancel_left] at h
     match q, h with
     | 0, h => exact ⟨[x], y :: r, rfl, by simp, by simp, by rw [Nat.add_zero, List.take_left]; rfl, by rw [Nat.add_zero, List.drop_left]⟩
     | 1, h => cases h
     | q + 2, h =>
       have h : (jn [59, 32] (y :: r))[q]? = some 59 := h
       obtain ⟨a, b, e1, ha, hb, e2, e3⟩ := jn_cut (fun w hm => hw w (List.mem_cons_of_mem _ hm)) h
       refine ⟨x :: a, b, by rw [e1]; rfl, by simp, hb, ?_, ?_⟩
       · rw [List.take_append, List.take_of_length_le (by omega), show x.length + (q + 2) - x.length = q + 2 by omega]
         show x ++ 59 :: 32 :: (jn [59, 32] (y :: r)).take q = _
         rw [e2]
         cases a with
         | nil => exact absurd rfl ha
         | cons z a => rfl
       · rw [List.drop_append, List.drop_of_length_le (by omega), show x.length + (q + 2) - x.length = q + 2 by omega]
         show [] ++ (jn [59, 32] (y :: r)).drop q = _
         rw [e3]; rfl
theorem word_end : ∀ w ∈ wordsP, w ≠ "end" → ∀ r : Nat, True → ¬ (w.cps.toList[0]? = some 101 ∧ w.cps.toList[1]? = some 110) := fun w hw hn _ _ => by
 have : ∀ w ∈ wordsP, w ≠ "end" → ¬ (w.cps.toList[0]? = some 101 ∧ w.cps.toList[1]? = some 110) := by decide +kernel
 exact this w hw hn
theorem word_two : ∀ w ∈ wordsP, 2 ≤ w.cps.toList.length := by decide +kernel
theorem row_signs {r : RD} (h : RdG r) : ∃ l, (rowX r).cps.toList = r.1.cps.toList ++ l := by
 unfold rowX
 rw [join_toList, List.map_cons]
 cases (r.2.map numS).map fun t => t.cps.toList with
 | nil => exact ⟨[], by rw [List.append_nil]; rfl⟩
 | cons y t => exact ⟨_, rfl⟩
theorem end_row {r : RD} (h : RdG r) {l m : List Nat} (e : (rowX r).cps.toList ++ l = 101 :: 110 :: 100 :: m) : r = rd "end" [] := by
 have hw := hasC_word h.ct
 have h2 := word_two _ hw
 obtain ⟨k, hk⟩ := row_signs h
 have e1 : r.1 = "end" := by
   by_cases hn : r.1 = "end"
   · exact hn
   · refine absurd ⟨?_, ?_⟩ (word_end _ hw hn 0 True.intro)
     · have z : ((rowX r).cps.toList ++ l)[0]? = some 101 := by rw [e]; rfl
       rw [hk, List.append_assoc, List.getElem?_append_left (by omega)] at z
       exact z
     · have z : ((rowX r).cps.toList ++ l)[1]? = some 110 := by rw [e]; rfl
       rw [hk, List.append_assoc, List.getElem?_append_left (by omega)] at z
       exact z
 have hc := h.ct
 obtain ⟨w, ns⟩ := r
 have e1 : w = "end" := e1
 subst e1
 cases ns with
 | nil => rfl
 | cons n t =>
   exfalso
   unfold hasC at hc
   dsimp only at hc
   rw [if_neg (by decide +kernel), if_neg (by decide +kernel), show ((["fun", "set", "copy", "sum", "minus", "product", "less", "drop", "give", "if", "else", "while", "try", "landing", "end"] : List Str).idxOf ("end" : Str)) = 14 from by decide +kernel] at hc
   have hc : decide ((n :: t).length = 0) = true := hc
   rw [decide_eq_true_eq] at hc
   cases hc
theorem cut_end {rs : List RD} (hg : ∀ r ∈ rs, RdG r) {p : Nat} {m : List Nat} (h : (textR rs).cps.toList.drop p = 59 :: 32 :: 101 :: 110 :: 100 :: m) : ∃ a b, rs = a ++ rd "end" [] :: b ∧ a ≠ [] ∧ (textR (a ++ b)).cps.toList = (textR rs).cps.toList.take p ++ m := by
 have hf : ∀ w ∈ rs.map fun r => (rowX r).cps.toList, 59 ∉ w := fun w hw => by
   obtain ⟨r, hr, rfl⟩ := List.mem_map.mp hw
   exact (hg r hr).noSemi
 have et : ∀ qs : List RD, (textR qs).cps.toList = jn [59, 32] (qs.map fun r => (rowX r).cps.toList) := fun qs => by
   unfold textR; rw [join_toList, List.map_map]; rfl
 rw [et] at h ⊢
 have hp : (jn [59, 32] (rs.map fun r => (rowX r).cps.toList))[p]? = some 59 := by
   have z : ((jn [59, 32] (rs.map fun r => (rowX r).cps.toList)).drop p)[0]? = some 59 := by rw [h]; rfl
   rw [List.getElem?_drop, Nat.add_zero] at z
   exact z
 obtain ⟨a, b, e1, ha, hb, e2, e3⟩ := jn_cut hf hp
 rw [h] at e3
 injection e3 with _ e3
 injection e3 with _ e3
 obtain ⟨A, B, e4, rfl, rfl⟩ := List.map_eq_append_iff.mp e1
 subst e4
 cases B with
 | nil => exact absurd rfl hb
 | cons r B =>
   have hr := hg r (by simp)
   have er : r = rd "end" [] ∧ jn [59, 32] ((r :: B).map fun r => (rowX r).cps.toList) = 101 :: 110 :: 100 :: m := by
     refine ⟨?_, e3.symm⟩
     cases B with
     | nil => exact end_row hr (l := []) (m := m) (by rw [List.append_nil]; exact e3.symm)
     | cons y B => exact end_row hr (m := m) e3.symm
   obtain ⟨rfl, e5⟩ := er
   refine ⟨A, B, rfl, fun z => ha (by rw [z]; rfl), ?_⟩
   rw [et, e2, List.map_append]
   cases B with
   | nil =>
     have : m = [] := by
       have k : jn [59, 32] ([rd "end" []].map fun r => (rowX r).cps.toList) = [101, 110, 100] := by decide +kernel
       rw [k] at e5
       injection e5 with _ e5
       injection e5 with _ e5
       injection e5 with _ e5
       exact e5.symm
     rw [this]
     simp
   | cons y B =>
     have k : jn [59, 32] ((rd "end" [] :: y :: B).map fun r => (rowX r).cps.toList) = 101 :: 110 :: 100 :: 59 :: 32 :: jn [59, 32] ((y :: B).map fun r => (rowX r).cps.toList) := rfl
     rw [k] at e5
     injection e5 with _ e5
     injection e5 with _ e5
     injection e5 with _ e5
     rw [← e5]
     exact jn_app _ ha (by simp)
theorem told_2 {rs : List RD} {f : Nat} {fs : List (Int × List Stm)} {t : Str} (hg : ∀ r ∈ rs, RdG r) (h : pF f rs = some fs) {p : Nat} {m : List Nat} (hp : (textR rs).cps.toList.drop p = 59 :: 32 :: 101 :: 110 :: 100 :: m) (ht : t.cps.toList = (textR rs).cps.toList.take p ++ m) : toldS t = "text" := by
 obtain ⟨a, b, rfl, ha, e⟩ := cut_end hg hp
 have et : t = textR (a ++ b) := str_eq (by rw [ht, e])
 rw [et]
 exact told_noF (read_rows (fun z => ha (List.append_eq_nil_iff.mp z).1) (fun r hr => hg r (by
   rcases List.mem_append.mp hr with z | z
   · exact List.mem_append_left _ z
   · exact List.mem_append_right _ (List.mem_cons_of_mem _ z)))) (bad_out h)
theorem join_texts : ∀ {rss : List (List RD)}, (∀ rs ∈ rss, rs ≠ []) → rss ≠ [] → PySem.Str.join "; " (rss.map textR) = textR rss.flatten
 | [], _, h => absurd rfl h
 | [rs], _, _ => by show textR rs = textR (rs ++ []); rw [List.append_nil]
 | rs :: x :: r, h, _ => by
   have ih := join_texts (rss := x :: r) (fun y hy => h y (List.mem_cons_of_mem _ hy)) (by simp)
   have h1 := h rs (List.mem_cons_self ..)
   have h2 := h x (by simp)
   have e : PySem.Str.join "; " ([textR rs] ++ (x :: r).map textR) = PySem.Str.join "; " [textR rs] ++ ("; " ++ PySem.Str.join "; " ((x :: r).map textR)) := join_app (by simp) (by simp)
   show PySem.Str.join "; " ([textR rs] ++ (x :: r).map textR) = textR (rs ++ (x :: r).flatten)
   rw [e, ih]
   unfold textR
   rw [List.map_append]
   exact (join_app (fun z => h1 (List.map_eq_nil_iff.mp z)) (fun z => by
     have := List.map_eq_nil_iff.mp z
     rw [List.flatten_cons] at this
     exact h2 (List.append_eq_nil_iff.mp this).1)).symm
end
def NoS (H : Hp) (v : V) : Prop := v = .non ∨ (∃ i, v = .int i) ∨ (∃ l xs, v = .ref l ∧ H l = some (.lst xs)) ∨ ∃ l xs, v = .ref l ∧ H l = some (.tup xs)
def spIsNumX : Sp := fun vs H Q _ => ∃ x : Str, vs = [.str x] ∧ x.length ≤ 1500000 ∧ ∀ H', Same H H' → Q (.bl (isNumT x)) H'
def spReadNumX (a : Adr) : Sp := fun vs H Q E => ∃ x : Str, vs = [.str x] ∧ x.length ≤ 1500000 ∧ (∀ n, numT x = some n → ∀ H', Same H H' → Q (.int n) H') ∧ (numT x = none → ∀ H', Same H H' → E (.ref a.C_NoText) none H')
def spAskX (a : Adr) : Sp := fun vs H Q E => ∃ v, vs = [v] ∧ ((∃ x, v = .str x ∧ Q .non H) ∨ (NoS H v ∧ E (.ref a.C_NoText) none H))
theorem ifStrN {s t : Str} {A B : Prop} (h1 : s ≠ t → A) (h2 : s = t → B) : if (!decide (V.str s = V.str t)) = true then A else B := by
 by_cases h : s = t
 · rw [decide_eq_true (by rw [h]), if_neg (by decide)]; exact h2 h
 · rw [decide_eq_false (fun z => h (V.str.inj z)), if_pos (show (!false) = true from rfl)]; exact h1 h
theorem isNumT_zero {x : Str} {r : List Nat} (h : x.cps.toList = 48 :: r) (hn : x ≠ "0") : isNumT x = false := by
 have h1 : 1 < x.cps.toList.length := by
   rw [h, List.length_cons]
   cases r with
   | nil => exact absurd (str_eq h) hn
   | cons y r => rw [List.length_cons]; omega
 unfold isNumT
 rw [decide_eq_true h1, h]
 simp
theorem valV_cons {k0 k : Key} {v0 : V} {kvs : List (Key × V)} : valV ((k0, v0) :: kvs) k = if k0 = k then some v0 else valV kvs k := by
 unfold valV
 rw [List.find?_cons]
 by_cases h : k0 = k
 · rw [if_pos h, show (decide ((k0, v0).1 = k)) = true from decide_eq_true h]; rfl
 · rw [if_neg h, show (decide ((k0, v0).1 = k)) = false from decide_eq_false h]
theorem conV_look (w : Str) : ∀ l : List (Str × Int), valV (conV l) (.inr w) = (l.lookup w).map V.int
 | [] => rfl
 | (k, n) :: r => by
   have ih := conV_look w r
   show valV ((.inr k, .int n) :: conV r) (.inr w) = _
   rw [valV_cons, ih, List.lookup_cons]
   by_cases h : k = w
   · subst h; simp
   · have h2 : (w == k) = false := beq_false_of_ne (fun z => h z.symm)
     have h3 : ¬ ((Sum.inr k : Key) = Sum.inr w) := fun z => h (by injection z)
     rw [h2, if_neg h3]
theorem lookN_no {w : Str} : ∀ {l : List (Str × Int)}, w ∉ l.map (·.1) → l.lookup w = none
 | [], _ => rfl
 | (k, n) :: r, h => by
   rw [List.map_cons, List.mem_cons, not_or] at h
   rw [List.lookup_cons, lookN_no h.2]
   have : (w == k) = false := beq_false_of_ne h.1
   rw [this]
def hasN (w : Str) (k : Nat) : Bool := if w = "call" then decide (2 ≤ k) else if w = "hand" then decide (1 ≤ k) else match ([1, 2, 2, 3, 3, 3, 3, 1, 1, 1, 0, 1, 0, 1, 0] : List Nat)[(["fun", "set", "copy", "sum", "minus", "product", "less", "drop", "give", "if", "else", "while", "try", "landing", "end"] : List Str).idxOf w]? with
 | some n => decide (k = n)
 | none => false
theorem hasN_C (w : Str) (ns : List Int) : hasN w ns.length = hasC (w, ns) := rfl
theorem hasN_c (w : Str) (k : Nat) : (w = "call" ∧ hasN w k = decide (2 ≤ k)) ∨ (w = "hand" ∧ hasN w k = decide (1 ≤ k)) ∨ (valV (conV aheadP) (.inr w) = none ∧ ((∃ n : Nat, valV (conV countsP) (.inr w) = some (.int (n : Int)) ∧ hasN w k = decide (k = n)) ∨ (valV (conV countsP) (.inr w) = none ∧ hasN w k = false))) := by
 by_cases h1 : w = "call"
 · subst h1; exact .inl ⟨rfl, rfl⟩
 by_cases h2 : w = "hand"
 · subst h2; exact .inr (.inl ⟨rfl, by unfold hasN; rw [if_neg h1, if_pos rfl]⟩)
 have ha : valV (conV aheadP) (.inr w) = none := by
   rw [conV_look, lookN_no (show w ∉ aheadP.map (·.1) from by
     show w ∉ (["call", "hand"] : List Str)
     simp [h1, h2])]; rfl
 refine .inr (.inr ⟨ha, ?_⟩)
 by_cases hm : w ∈ (["fun", "set", "copy", "sum", "minus", "product", "less", "drop", "give", "if", "else", "while", "try", "landing", "end"] : List Str)
 · left
   have e : ∀ w ∈ (["fun", "set", "copy", "sum", "minus", "product", "less", "drop", "give", "if", "else", "while", "try", "landing", "end"] : List Str), ∃ n ∈ ([0, 1, 2, 3] : List Nat), ([1, 2, 2, 3, 3, 3, 3, 1, 1, 1, 0, 1, 0, 1, 0] : List Nat)[(["fun", "set", "copy", "sum", "minus", "product", "less", "drop", "give", "if", "else", "while", "try", "landing", "end"] : List Str).idxOf w]? = some n ∧ (countsP.lookup w) = some (n : Int) := by decide +kernel
   obtain ⟨n, _, e1, e2⟩ := e w hm
   exact ⟨n, by rw [conV_look, e2]; rfl, by unfold hasN; rw [if_neg h1, if_neg h2, e1]⟩
 · right
   exact ⟨by rw [conV_look, lookN_no hm]; rfl, by unfold hasN; rw [if_neg h1, if_neg h2, List.idxOf_eq_length hm]; rfl⟩
def spHasX : Sp := fun vs H Q _ => ∃ (w : Str) (k : Nat), vs = [.str w, .int (k : Int)] ∧ Q (.bl (hasN w k)) H
def spUpX : Sp := fun vs H Q _ => ∃ i t : Int, vs = [.int i, .int t] ∧ 0 ≤ i ∧ Q (.bl (upB i t)) H
def spNmX : Sp := fun vs H Q _ => ∃ i : Int, vs = [.int i] ∧ 0 ≤ i ∧ Q (.bl (upB i 5)) H
def spNmsX : Sp := fun vs H Q _ => ∃ (q : Addr) (ns : List Int), vs = [.ref q] ∧ H q = some (.lst (ns.map V.int)) ∧ (∀ x ∈ ns, 0 ≤ x) ∧ ns.length ≤ 8002 ∧ ∀ H', Same H H' → Q (.bl (ns.all (upB · 5))) H'
theorem upB_nn {i t : Int} (h : 0 ≤ i) : upB i t = decide (i ≤ t) := by unfold upB; rw [decide_eq_true h]; rfl
def smN : Sm → Prop
 | .set x v => 0 ≤ x ∧ 0 ≤ v
 | .copy x y => 0 ≤ x ∧ 0 ≤ y
 | .sum x y z | .minus x y z | .product x y z | .less x y z => 0 ≤ x ∧ 0 ≤ y ∧ 0 ≤ z
 | .give x => 0 ≤ x
 | .leave _ => False
def stN : Stm → Prop
 | .pl s => smN s
 | .call x f ns l => 0 ≤ x ∧ 0 ≤ f ∧ (∀ n ∈ ns, 0 ≤ n) ∧ ns.length ≤ 8002 ∧ l = true
 | .hand f ns l => 0 ≤ f ∧ (∀ n ∈ ns, 0 ≤ n) ∧ ns.length ≤ 8002 ∧ l = true
 | .drop x => 0 ≤ x
 | .ifS x _ _ => 0 ≤ x
 | .whileS x _ => 0 ≤ x
 | .tryS _ x _ => 0 ≤ x
def WfS : Nat → Stm → Prop
 | 0, _ => False
 | d + 1, s => stN s ∧ ∀ b ∈ s.inn, ∀ x ∈ b, WfS d x
inductive Pv where
 | num (i : Int) | nms (q : Addr) (ns : List Int) | stm (q : Addr)
def Pv.v : Pv → V
 | .num i => .int i
 | .nms q _ => .ref q
 | .stm q => .ref q
def partB (n : Int) (k : Str) : Pv → Bool
 | .num i => upB i (if k = "name" then 5 else if k = "value" then 4294967295 else n - 1)
 | .nms _ ns => ns.all (upB · 5)
 | .stm _ => true
def PvOk (H : Hp) (k : Str) : Pv → Prop
 | .num i => 0 ≤ i ∧ (k = "name" ∨ k = "value" ∨ k = "function")
 | .nms q ns => k = "names" ∧ H q = some (.lst (ns.map V.int)) ∧ (∀ x ∈ ns, 0 ≤ x) ∧ ns.length ≤ 8002
 | .stm q => k = "statements" ∧ ∃ us, H q = some (.lst us)
theorem PvOk.same {H H' : Hp} {k : Str} {p : Pv} (s : Same H H') (h : PvOk H k p) : PvOk H' k p := by
 cases p with
 | num i => exact h
 | nms q ns => exact ⟨h.1, s _ _ h.2.1, h.2.2⟩
 | stm q => exact ⟨h.1, h.2.imp fun us e => s _ _ e⟩
structure InfX (H : Hp) (hd : List Int) (d : Nat) (p : Addr) (s : Stm) (w : Str) (xs : List (Pv × Str)) (ls : List Addr) : Prop where
 hp : H p = some (.tup (.str w :: xs.map (·.1.v)))
 kd : (w, xs.map (·.2)) ∈ kindsT
 ok : ∀ x ∈ xs, PvOk H x.2 x.1
 few : xs.length ≤ 3
 cl : ((w = "call" ∨ w = "hand") ∧ ∃ (pre : List V) (f : Int) (q : Addr) (ns : List Int), xs.map (·.1.v) = pre ++ [.int f, .ref q] ∧ H q = some (.lst (ns.map V.int)) ∧ 0 ≤ f ∧ ((xs.all fun x => partB hd.length x.2 x.1) = true → f.toNat < hd.length) ∧ stB hd s = ((xs.all fun x => partB hd.length x.2 x.1) && decide (hd[f.toNat]? = some (ns.length : Int)))) ∨ (w ≠ "call" ∧ w ≠ "hand" ∧ stB hd s = xs.all fun x => partB hd.length x.2 x.1)
 fil : ((xs.map fun x => (x.1.v, x.2)).filter fun x => decide (x.2 = ("statements" : Str))).map (·.1) = ls.map V.ref
 inn : Each (fun l b => BdAt (StAt H d) H l b) ls s.inn
theorem up_lt {f : Int} {n : Nat} (h0 : 0 ≤ f) (h : upB f ((n : Int) - 1) = true) : f.toNat < n := by
 unfold upB at h
 rw [Bool.and_eq_true, decide_eq_true_eq, decide_eq_true_eq] at h
 omega
theorem StAt.infX {H : Hp} {hd : List Int} {d : Nat} {p : Addr} {s : Stm} (h : StAt H (d + 1) p s) (ok : stN s) : ∃ (w : Str) (xs : List (Pv × Str)) (ls : List Addr), InfX H hd d p s w xs ls := by
 have bd : ∀ {l : Addr} {b : List Stm}, BdAt (StAt H d) H l b → PvOk H "statements" (.stm l) := fun {l b} ⟨ps, e, _⟩ => ⟨rfl, _, e⟩
 have one : ∀ {R : Addr → List Stm → Prop} {l : Addr} {b : List Stm}, R l b → Each R [l] [b] := fun {R l b} h => Each.snoc Each.nil h
 cases s with
 | pl s =>
   cases s with
   | set x v => exact ⟨"set", [(.num x, "name"), (.num v, "value")], [], ⟨h, by simp [kindsT], by
       intro y hy; simp at hy; rcases hy with rfl | rfl
       · exact ⟨ok.1, .inl rfl⟩
       · exact ⟨ok.2, .inr (.inl rfl)⟩, Nat.le_of_ble_eq_true rfl, .inr ⟨by decide, by decide, by show (upB x 5 && upB v 4294967295) = (upB x 5 && (upB v 4294967295 && true)); rw [Bool.and_true]⟩, rfl, Each.nil⟩⟩
   | copy x y => exact ⟨"copy", [(.num x, "name"), (.num y, "name")], [], ⟨h, by simp [kindsT], by
       intro y hy; simp at hy; rcases hy with rfl | rfl
       · exact ⟨ok.1, .inl rfl⟩
       · exact ⟨ok.2, .inl rfl⟩, Nat.le_of_ble_eq_true rfl, .inr ⟨by decide, by decide, by show (upB x 5 && upB y 5) = (upB x 5 && (upB y 5 && true)); rw [Bool.and_true]⟩, rfl, Each.nil⟩⟩
   | sum x y z => exact ⟨"sum", [(.num x, "name"), (.num y, "name"), (.num z, "name")], [], ⟨h, by simp [kindsT], by
       intro y hy; simp at hy; rcases hy with rfl | rfl | rfl
       · exact ⟨ok.1, .inl rfl⟩
       · exact ⟨ok.2.1, .inl rfl⟩
       · exact ⟨ok.2.2, .inl rfl⟩, Nat.le_of_ble_eq_true rfl, .inr ⟨by decide, by decide, by show (upB x 5 && (upB y 5 && upB z 5)) = (upB x 5 && (upB y 5 && (upB z 5 && true))); rw [Bool.and_true]⟩, rfl, Each.nil⟩⟩
   | minus x y z => exact ⟨"minus", [(.num x, "name"), (.num y, "name"), (.num z, "name")], [], ⟨h, by simp [kindsT], by
       intro y hy; simp at hy; rcases hy with rfl | rfl | rfl
       · exact ⟨ok.1, .inl rfl⟩
       · exact ⟨ok.2.1, .inl rfl⟩
       · exact ⟨ok.2.2, .inl rfl⟩, Nat.le_of_ble_eq_true rfl, .inr ⟨by decide, by decide, by show (upB x 5 && (upB y 5 && upB z 5)) = (upB x 5 && (upB y 5 && (upB z 5 && true))); rw [Bool.and_true]⟩, rfl, Each.nil⟩⟩
   | product x y z => exact ⟨"product", [(.num x, "name"), (.num y, "name"), (.num z, "name")], [], ⟨h, by simp [kindsT], by
       intro y hy; simp at hy; rcases hy with rfl | rfl | rfl
       · exact ⟨ok.1, .inl rfl⟩
       · exact ⟨ok.2.1, .inl rfl⟩
       · exact ⟨ok.2.2, .inl rfl⟩, Nat.le_of_ble_eq_true rfl, .inr ⟨by decide, by decide, by show (upB x 5 && (upB y 5 && upB z 5)) = (upB x 5 && (upB y 5 && (upB z 5 && true))); rw [Bool.and_true]⟩, rfl, Each.nil⟩⟩
   | less x y z => exact ⟨"less", [(.num x, "name"), (.num y, "name"), (.num z, "name")], [], ⟨h, by simp [kindsT], by
       intro y hy; simp at hy; rcases hy with rfl | rfl | rfl
       · exact ⟨ok.1, .inl rfl⟩
       · exact ⟨ok.2.1, .inl rfl⟩
       · exact ⟨ok.2.2, .inl rfl⟩, Nat.le_of_ble_eq_true rfl, .inr ⟨by decide, by decide, by show (upB x 5 && (upB y 5 && upB z 5)) = (upB x 5 && (upB y 5 && (upB z 5 && true))); rw [Bool.and_true]⟩, rfl, Each.nil⟩⟩
   | give x => exact ⟨"give", [(.num x, "name")], [], ⟨h, by simp [kindsT], by
       intro y hy; simp at hy; subst hy
       exact ⟨ok, .inl rfl⟩, Nat.le_of_ble_eq_true rfl, .inr ⟨by decide, by decide, by show upB x 5 = (upB x 5 && true); rw [Bool.and_true]⟩, rfl, Each.nil⟩⟩
   | leave x => exact ok.elim
 | call x f ns l =>
   obtain ⟨q, h1, h2⟩ := h
   obtain ⟨o1, o2, o3, o4, rfl⟩ := ok
   exact ⟨"call", [(.num x, "name"), (.num f, "function"), (.nms q ns, "names")], [], ⟨h1, by simp [kindsT], by
       intro y hy; simp at hy; rcases hy with rfl | rfl | rfl
       · exact ⟨o1, .inl rfl⟩
       · exact ⟨o2, .inr (.inr rfl)⟩
       · exact ⟨rfl, h2, o3, o4⟩, Nat.le_of_ble_eq_true rfl, .inl ⟨.inl rfl, [.int x], f, q, ns, rfl, h2, o2, fun z => by
         have z : (upB x 5 && (upB f ((hd.length : Int) - 1) && (ns.all (upB · 5) && true))) = true := z
         simp only [Bool.and_eq_true] at z
         exact up_lt o2 z.2.1, by
         show (upB x 5 && (upB f (hd.length - 1) && (ns.all (upB · 5) && decide (hd[f.toNat]? = some (ns.length : Int))))) = ((upB x 5 && (upB f (hd.length - 1) && (ns.all (upB · 5) && true))) && decide (hd[f.toNat]? = some (ns.length : Int)))
         rw [Bool.and_true, Bool.and_assoc, Bool.and_assoc]⟩, rfl, Each.nil⟩⟩
 | hand f ns l =>
   obtain ⟨q, h1, h2⟩ := h
   obtain ⟨o2, o3, o4, rfl⟩ := ok
   exact ⟨"hand", [(.num f, "function"), (.nms q ns, "names")], [], ⟨h1, by simp [kindsT], by
       intro y hy; simp at hy; rcases hy with rfl | rfl
       · exact ⟨o2, .inr (.inr rfl)⟩
       · exact ⟨rfl, h2, o3, o4⟩, Nat.le_of_ble_eq_true rfl, .inl ⟨.inr rfl, [], f, q, ns, rfl, h2, o2, fun z => by
         have z : (upB f ((hd.length : Int) - 1) && (ns.all (upB · 5) && true)) = true := z
         simp only [Bool.and_eq_true] at z
         exact up_lt o2 z.1, by
         show (upB f (hd.length - 1) && (ns.all (upB · 5) && decide (hd[f.toNat]? = some (ns.length : Int)))) = ((upB f (hd.length - 1) && (ns.all (upB · 5) && true)) && decide (hd[f.toNat]? = some (ns.length : Int)))
         rw [Bool.and_true, Bool.and_assoc]⟩, rfl, Each.nil⟩⟩
 | drop x => exact ⟨"drop", [(.num x, "name")], [], ⟨h, by simp [kindsT], by
       intro y hy; simp at hy; subst hy
       exact ⟨ok, .inl rfl⟩, Nat.le_of_ble_eq_true rfl, .inr ⟨by decide, by decide, by show upB x 5 = (upB x 5 && true); rw [Bool.and_true]⟩, rfl, Each.nil⟩⟩
 | ifS x a b =>
   obtain ⟨la, lb, h1, h2, h3⟩ := h
   exact ⟨"if", [(.num x, "name"), (.stm la, "statements"), (.stm lb, "statements")], [la, lb], ⟨h1, by simp [kindsT], by
       intro y hy; simp at hy; rcases hy with rfl | rfl | rfl
       · exact ⟨ok, .inl rfl⟩
       · exact bd h2
       · exact bd h3, Nat.le_of_ble_eq_true rfl, .inr ⟨by decide, by decide, by show upB x 5 = (upB x 5 && (true && (true && true))); rw [Bool.and_true, Bool.and_true, Bool.and_true]⟩, rfl, Each.snoc (one h2) h3⟩⟩
 | whileS x a =>
   obtain ⟨la, h1, h2⟩ := h
   exact ⟨"while", [(.num x, "name"), (.stm la, "statements")], [la], ⟨h1, by simp [kindsT], by
       intro y hy; simp at hy; rcases hy with rfl | rfl
       · exact ⟨ok, .inl rfl⟩
       · exact bd h2, Nat.le_of_ble_eq_true rfl, .inr ⟨by decide, by decide, by show upB x 5 = (upB x 5 && (true && true)); rw [Bool.and_true, Bool.and_true]⟩, rfl, one h2⟩⟩
 | tryS a x b =>
   obtain ⟨la, lb, h1, h2, h3⟩ := h
   exact ⟨"try", [(.stm la, "statements"), (.num x, "name"), (.stm lb, "statements")], [la, lb], ⟨h1, by simp [kindsT], by
       intro y hy; simp at hy; rcases hy with rfl | rfl | rfl
       · exact bd h2
       · exact ⟨ok, .inl rfl⟩
       · exact bd h3, Nat.le_of_ble_eq_true rfl, .inr ⟨by decide, by decide, by show upB x 5 = (true && (upB x 5 && (true && true))); rw [Bool.and_true, Bool.and_true, Bool.true_and]⟩, rfl, Each.snoc (one h2) h3⟩⟩
def spPartX : Sp := fun vs H Q _ => ∃ (v : Pv) (n : Int) (k : Str), vs = [v.v, .str k, .int n] ∧ PvOk H k v ∧ ∀ H', Same H H' → Q (.bl (partB n k v)) H'
def spStmX : Sp := fun vs H Q _ => ∃ (p h : Addr) (d : Nat) (s : Stm) (hd : List Int), vs = [.ref p, .ref h] ∧ StAt H (d + 1) p s ∧ stN s ∧ H h = some (.lst (hd.map V.int)) ∧ hd.length ≤ 8 ∧ ∀ H', Same H H' → Q (.bl (stB hd s)) H'
def WaitX (H0 H : Hp) (ts : List Addr) (ws : List (List Stm × Nat)) : Prop := Each (fun t w => ∃ l d, H t = some (.tup [.ref l, .int (w.2 : Int)]) ∧ BdAt (StAt H0 d) H0 l w.1 ∧ ∀ s ∈ w.1, WfS d s) ts ws
theorem WaitX.to {H0 H H' : Hp} {ts : List Addr} {ws : List (List Stm × Nat)} (s : ∀ b xs, H b = some (.tup xs) → H' b = some (.tup xs)) (h : WaitX H0 H ts ws) : WaitX H0 H' ts ws := h.mono fun t w ⟨l, d, h1, h2, h3⟩ => ⟨l, d, s _ _ h1, h2, h3⟩
theorem WaitX.same {H0 H H' : Hp} {ts : List Addr} {ws : List (List Stm × Nat)} (s : Same H H') (h : WaitX H0 H ts ws) : WaitX H0 H' ts ws := h.to fun b xs e => s _ _ e
def spAreX : Sp := fun vs H Q _ => ∃ (b h : Addr) (ls : List Addr) (bs : List (List Stm)) (hd : List Int) (d : Nat), vs = [.ref b, .ref h] ∧ H b = some (.lst (ls.map V.ref)) ∧ Each (fun l ss => BdAt (StAt H d) H l ss ∧ ∀ s ∈ ss, WfS d s) ls bs ∧ bs.length ≤ 8 ∧ H h = some (.lst (hd.map V.int)) ∧ hd.length ≤ 8 ∧ ∀ H', Same H H' → Q (.bl (areB hd 400 0 ((bs.map fun b => (b, 0)).reverse))) H'
def FnX (H : Hp) (p : Addr) (f : Int × List Stm) : Prop := ∃ l, H p = some (.tup [.int f.1, .ref l]) ∧ BdAt (StAt H 41) H l f.2
theorem FnX.same {H H' : Hp} {p : Addr} {f : Int × List Stm} (s : Same H H') (h : FnX H p f) : FnX H' p f := let ⟨l, e1, e2⟩ := h; ⟨l, s _ _ e1, e2.same s (fun _ _ => StAt.same s)⟩
def ProgX (H : Hp) (pr : Addr) (fs : List (Int × List Stm)) : Prop := ∃ ps : List Addr, H pr = some (.lst (ps.map V.ref)) ∧ Each (FnX H) ps fs
structure PrgN (fs : List (Int × List Stm)) : Prop where
 few : fs.length ≤ 8002
 hd : ∀ f ∈ fs, 0 ≤ f.1
 ok : ∀ f ∈ fs, ∀ s ∈ f.2, WfS 41 s
def spIsFnX : Sp := fun vs H Q _ => ∃ (f l : Addr) (n : Int) (us : List V), vs = [.ref f] ∧ H f = some (.tup [.int n, .ref l]) ∧ 0 ≤ n ∧ H l = some (.lst us) ∧ Q (.bl (upB n 3)) H
def spIsPX : Sp := fun vs H Q _ => ∃ (pr : Addr) (fs : List (Int × List Stm)), vs = [.ref pr] ∧ ProgX H pr fs ∧ PrgN fs ∧ ∀ H', Same H H' → Q (.bl (progB fs)) H'
def spAskPX (a : Adr) : Sp := fun vs H Q E => ∃ (pr : Addr) (fs : List (Int × List Stm)), vs = [.ref pr] ∧ ProgX H pr fs ∧ PrgN fs ∧ (progB fs = true → ∀ H', Same H H' → Q .non H') ∧ (progB fs = false → ∀ H', Same H H' → E (.ref a.C_NoProgram) none H')
theorem inB_no {dp : Nat} : ∀ {b : List Stm} {i : Nat} {s : Stm}, b[i]? = some s → s.inn ≠ [] → dp = 4 → inB dp b = none
 | [], i, s, h, _, _ => by simp at h
 | x :: r, 0, s, h, h1, h2 => by
   cases h
   unfold inB; rw [if_pos ⟨h1, h2⟩]
 | x :: r, i + 1, s, h, h1, h2 => by
   have ih := inB_no (b := r) (i := i) (s := s) h h1 h2
   unfold inB
   split
   · rfl
   · rw [ih]; rfl
theorem inB_snoc {dp : Nat} {s : Stm} (hs : ¬ (s.inn ≠ [] ∧ dp = 4)) : ∀ {b : List Stm} {xs : List (List Stm × Nat)}, inB dp b = some xs → inB dp (b ++ [s]) = some (xs ++ s.inn.map fun c => (c, dp + 1))
 | [], xs, h => by
   cases h
   show inB dp [s] = _
   unfold inB; rw [if_neg hs]
   show some ((s.inn.map fun c => (c, dp + 1)) ++ []) = _
   rw [List.append_nil, List.nil_append]
 | x :: r, xs, h => by
   unfold inB at h
   split at h
   · cases h
   · rename_i hx
     obtain ⟨ys, hy, e⟩ := Option.map_eq_some_iff.mp h
     have ih := inB_snoc hs hy
     subst e
     show inB dp (x :: (r ++ [s])) = _
     unfold inB
     rw [if_neg hx, ih]
     show some _ = _
     rw [List.append_assoc]
theorem inn_two (s : Stm) : s.inn.length ≤ 2 := by cases s <;> simp [Stm.inn]
theorem inB_len {dp : Nat} : ∀ {b : List Stm} {xs : List (List Stm × Nat)}, inB dp b = some xs → xs.length ≤ 2 * b.length
 | [], xs, h => by cases h; exact Nat.le_refl _
 | x :: r, xs, h => by
   unfold inB at h
   split at h
   · cases h
   · obtain ⟨ys, hy, e⟩ := Option.map_eq_some_iff.mp h
     have ih := inB_len hy
     have := inn_two x
     subst e
     rw [List.length_append, List.length_map, List.length_cons]; omega
theorem areB_many {hd : List Int} {f many dp : Nat} {b : List Stm} {st : List (List Stm × Nat)} (h : 80 < many + b.length) : areB hd (f + 1) many ((b, dp) :: st) = false := by
 unfold areB; dsimp only; rw [if_pos (.inl h)]
theorem areB_in {hd : List Int} {f many dp : Nat} {b : List Stm} {st : List (List Stm × Nat)} (h : inB dp b = none) : areB hd (f + 1) many ((b, dp) :: st) = false := by
 unfold areB; dsimp only
 split
 · rfl
 · rw [h]
theorem areB_go {hd : List Int} {f many dp : Nat} {b : List Stm} {st xs : List (List Stm × Nat)} (h1 : many + b.length ≤ 80) (h2 : b.all (stB hd) = true) (h : inB dp b = some xs) : areB hd (f + 1) many ((b, dp) :: st) = areB hd f (many + b.length) (xs.reverse ++ st) := by
 unfold areB; dsimp only
 rw [if_neg (fun z => by
   rcases z with z | z
   · omega
   · rw [h2] at z; cases z), h]
 cases f <;> rfl
section
open PySem.Builtin PySem.Builtin.Str
structure RdN (r : RD) : Prop where
 ct : hasC r = true
 nn : ∀ n ∈ r.2, 0 ≤ n
 few : r.2.length ≤ 8002
theorem numT_nn {x : Str} {n : Int} (h : numT x = some n) : 0 ≤ n := by
 unfold numT at h
 split at h
 · cases h; exact Int.natCast_nonneg _
 · cases h
theorem allNum_nn : ∀ {ps : List Str} {ns : List Int}, allNum ps = some ns → ∀ n ∈ ns, 0 ≤ n
 | [], ns, h, n, hn => by cases h; cases hn
 | p :: r, ns, h, n, hn => by
   unfold allNum at h
   cases h1 : numT p with
   | none => rw [h1] at h; cases h
   | some m =>
     cases h2 : allNum r with
     | none => rw [h1, h2] at h; cases h
     | some ms =>
       rw [h1, h2] at h; cases h
       rcases List.mem_cons.mp hn with rfl | hn
       · exact numT_nn h1
       · exact allNum_nn h2 n hn
theorem rowR_N {t : Str} {r : RD} (hl : t.length ≤ 8000) (h : rowR t = some r) : RdN r := by
 have hs := split_len t " "
 unfold rowR at h
 split at h
 · cases h
 · rename_i w ps e
   rw [e, List.length_cons] at hs
   split at h
   · cases h
   · rename_i ns hn
     split at h
     · rename_i hc
       cases h
       exact ⟨hc, allNum_nn hn, by show ns.length ≤ 8002; rw [allNum_len hn]; omega⟩
     · cases h
theorem rowR_no {t w : Str} {ps : List Str} (hs : Txt.split t " " = w :: ps) (h : hasN w ps.length = false) : rowR t = none := by
 unfold rowR
 rw [hs]
 dsimp only
 cases e : allNum ps with
 | none => rfl
 | some ns =>
   dsimp only
   rw [if_neg (fun z => by rw [← hasN_C, allNum_len e, h] at z; cases z)]
theorem rowR_num {t w : Str} {ps : List Str} (hs : Txt.split t " " = w :: ps) (h : allNum ps = none) : rowR t = none := by
 unfold rowR
 rw [hs]
 dsimp only
 rw [h]
theorem rowR_yes {t w : Str} {ps : List Str} {ns : List Int} (hs : Txt.split t " " = w :: ps) (hn : allNum ps = some ns) (h : hasN w ps.length = true) : rowR t = some (w, ns) := by
 unfold rowR
 rw [hs]
 dsimp only
 rw [hn]
 dsimp only
 rw [if_pos (by rw [← hasN_C, allNum_len hn]; exact h)]
theorem rowsR_snoc {ts : List Str} {t : Str} {rs : List RD} {r : RD} (h : rowsR ts = some rs) (h2 : rowR t = some r) : rowsR (ts ++ [t]) = some (rs ++ [r]) :=
 rowsR_app h (by show (match rowR t, rowsR [] with | some x, some xs => some (x :: xs) | _, _ => none) = _; rw [h2]; rfl)
theorem rowsR_len : ∀ {ts : List Str} {rs : List RD}, rowsR ts = some rs → rs.length = ts.length
 | [], rs, h => by cases h; rfl
 | t :: r, rs, h => by
   unfold rowsR at h
   cases h1 : rowR t with
   | none => rw [h1] at h; cases h
   | some x =>
     cases h2 : rowsR r with
     | none => rw [h1, h2] at h; cases h
     | some xs => rw [h1, h2] at h; cases h; rw [List.length_cons, List.length_cons, rowsR_len h2]
theorem gI_nn {ns : List Int} (h : ∀ n ∈ ns, 0 ≤ n) (i : Int) : 0 ≤ gI ns i := by
 unfold gI
 rw [List.getD_eq_getElem?_getD]
 cases e : ns[i.toNat]? with
 | none => exact Int.le_refl _
 | some n => exact h n (List.mem_of_getElem? e)
theorem hasN_is {w : Str} {ns : List Int} {n : Nat} (hm : w ∈ (["fun", "set", "copy", "sum", "minus", "product", "less", "drop", "give", "if", "else", "while", "try", "landing", "end"] : List Str)) (h : hasC (w, ns) = true) (e : (countsP.lookup w) = some (n : Int)) : ns.length = n := by
 rw [← hasN_C] at h
 rcases hasN_c w ns.length with ⟨rfl, _⟩ | ⟨rfl, _⟩ | ⟨_, ⟨m, hc, e2⟩ | ⟨hc, e2⟩⟩
 · exact absurd hm (by decide +kernel)
 · exact absurd hm (by decide +kernel)
 · rw [conV_look, e] at hc
   rw [e2, decide_eq_true_eq] at h
   have : V.int (n : Int) = V.int (m : Int) := by injection hc
   injection this with this
   omega
 · rw [e2] at h; cases h
theorem len1 {ns : List Int} (h : ns.length = 1) : ns = [gI ns 0] := by
 match ns, h with
 | [x], _ => rfl
theorem len2 {ns : List Int} (h : ns.length = 2) : ns = [gI ns 0, gI ns 1] := by
 match ns, h with
 | [x, y], _ => rfl
theorem len3 {ns : List Int} (h : ns.length = 3) : ns = [gI ns 0, gI ns 1, gI ns 2] := by
 match ns, h with
 | [x, y, z], _ => rfl
theorem hasC_call {ns : List Int} (h : hasC ("call", ns) = true) : 2 ≤ ns.length := by
 rw [← hasN_C] at h
 unfold hasN at h
 rw [if_pos rfl, decide_eq_true_eq] at h; exact h
theorem hasC_hand {ns : List Int} (h : hasC ("hand", ns) = true) : 1 ≤ ns.length := by
 rw [← hasN_C] at h
 unfold hasN at h
 rw [if_neg (by decide +kernel), if_pos rfl, decide_eq_true_eq] at h; exact h
theorem cons2 {ns : List Int} (h : 2 ≤ ns.length) : ns = gI ns 0 :: gI ns 1 :: ns.drop 2 := by
 match ns, h with
 | x :: y :: r, _ => rfl
theorem cons1 {ns : List Int} (h : 1 ≤ ns.length) : ns = gI ns 0 :: ns.drop 1 := by
 match ns, h with
 | x :: r, _ => rfl
inductive PlC : RD → Stm → Prop where
 | set (x v : Int) : PlC ("set", [x, v]) (.pl (.set x v))
 | copy (x y : Int) : PlC ("copy", [x, y]) (.pl (.copy x y))
 | sum (x y z : Int) : PlC ("sum", [x, y, z]) (.pl (.sum x y z))
 | minus (x y z : Int) : PlC ("minus", [x, y, z]) (.pl (.minus x y z))
 | product (x y z : Int) : PlC ("product", [x, y, z]) (.pl (.product x y z))
 | less (x y z : Int) : PlC ("less", [x, y, z]) (.pl (.less x y z))
 | give (x : Int) : PlC ("give", [x]) (.pl (.give x))
 | drop (x : Int) : PlC ("drop", [x]) (.drop x)
 | call (x f : Int) (ns : List Int) : PlC ("call", x :: f :: ns) (.call x f ns true)
 | hand (f : Int) (ns : List Int) : PlC ("hand", f :: ns) (.hand f ns true)
theorem PlC.to {w : Str} {ns ms : List Int} {s : Stm} (e : ns = ms) (h : PlC (w, ms) s) : PlC (w, ns) s := e ▸ h
theorem plain_c {r : RD} {s : Stm} (h : plainOf r = some s) (hc : hasC r = true) : PlC r s := by
 obtain ⟨w, ns⟩ := r
 unfold plainOf at h
 dsimp only at h
 split at h
 · rename_i e; subst e; cases h; exact PlC.to (len2 (hasN_is (n := 2) (by decide +kernel) hc (by decide +kernel))) (.set _ _)
 split at h
 · rename_i e; subst e; cases h; exact PlC.to (len2 (hasN_is (n := 2) (by decide +kernel) hc (by decide +kernel))) (.copy _ _)
 split at h
 · rename_i e; subst e; cases h; exact PlC.to (len3 (hasN_is (n := 3) (by decide +kernel) hc (by decide +kernel))) (.sum _ _ _)
 split at h
 · rename_i e; subst e; cases h; exact PlC.to (len3 (hasN_is (n := 3) (by decide +kernel) hc (by decide +kernel))) (.minus _ _ _)
 split at h
 · rename_i e; subst e; cases h; exact PlC.to (len3 (hasN_is (n := 3) (by decide +kernel) hc (by decide +kernel))) (.product _ _ _)
 split at h
 · rename_i e; subst e; cases h; exact PlC.to (len3 (hasN_is (n := 3) (by decide +kernel) hc (by decide +kernel))) (.less _ _ _)
 split at h
 · rename_i e; subst e; cases h; exact PlC.to (len1 (hasN_is (n := 1) (by decide +kernel) hc (by decide +kernel))) (.give _)
 split at h
 · rename_i e; subst e; cases h; exact PlC.to (len1 (hasN_is (n := 1) (by decide +kernel) hc (by decide +kernel))) (.drop _)
 split at h
 · rename_i e; subst e; cases h; exact PlC.to (cons2 (hasC_call hc)) (.call _ _ _)
 split at h
 · rename_i e; subst e; cases h; exact PlC.to (cons1 (hasC_hand hc)) (.hand _ _)
 · cases h
theorem plain_N {r : RD} {s : Stm} (h : plainOf r = some s) (hr : RdN r) : stN s ∧ s.inn = [] := by
 have c := plain_c h hr.ct
 have hn := hr.nn
 have hf := hr.few
 cases c with
 | set x v => exact ⟨⟨hn x (by simp), hn v (by simp)⟩, rfl⟩
 | copy x v => exact ⟨⟨hn x (by simp), hn v (by simp)⟩, rfl⟩
 | sum x y z => exact ⟨⟨hn x (by simp), hn y (by simp), hn z (by simp)⟩, rfl⟩
 | minus x y z => exact ⟨⟨hn x (by simp), hn y (by simp), hn z (by simp)⟩, rfl⟩
 | product x y z => exact ⟨⟨hn x (by simp), hn y (by simp), hn z (by simp)⟩, rfl⟩
 | less x y z => exact ⟨⟨hn x (by simp), hn y (by simp), hn z (by simp)⟩, rfl⟩
 | give x => exact ⟨hn x (by simp), rfl⟩
 | drop x => exact ⟨hn x (by simp), rfl⟩
 | call x f ns => exact ⟨⟨hn x (by simp), hn f (by simp), fun n h => hn n (by simp [h]), by simp only [List.length_cons] at hf; omega, rfl⟩, rfl⟩
 | hand f ns => exact ⟨⟨hn f (by simp), fun n h => hn n (by simp [h]), by simp only [List.length_cons] at hf; omega, rfl⟩, rfl⟩
theorem Gb.mem {a b : List RD} (g : Gb a b) {P : RD → Prop} (h : ∀ r ∈ a, P r) : ∀ r ∈ b, P r := by
 obtain ⟨u, rfl, _⟩ := g
 exact fun r hr => h r (List.mem_append_right _ hr)
theorem Gb.len {a b : List RD} (g : Gb a b) : b.length ≤ a.length := by
 obtain ⟨u, rfl, _⟩ := g
 rw [List.length_append]; omega
theorem one_wf {f : Nat} (hp : ∀ lv rs ss t, (∀ r ∈ rs, RdN r) → pL f lv rs = some (ss, t) → ∀ s ∈ ss, WfS (lv + 1) s) {lv : Nat} {r : RD} {t t' : List RD} {s : Stm} (hr : ∀ x ∈ r :: t, RdN x) (h : pOne (pL f) lv r t = some (s, t')) : WfS (lv + 1) s := by
 have h0 := (hr r (List.mem_cons_self ..)).nn
 have ht : ∀ x ∈ t, RdN x := fun x hx => hr x (List.mem_cons_of_mem _ hx)
 unfold pOne at h
 by_cases h1 : r.1 = "while"
 · rw [if_pos h1] at h
   split at h
   · cases h
   · rename_i hl
     split at h
     · rename_i a e u he
       split at h
       · cases h
         obtain ⟨l, rfl⟩ : ∃ l, lv = l + 1 := ⟨lv - 1, by omega⟩
         refine ⟨gI_nn h0 _, fun b hb x hx => ?_⟩
         have := List.mem_singleton.mp hb
         subst this
         exact hp _ _ _ _ ht he x hx
       · cases h
     · cases h
 rw [if_neg h1] at h
 by_cases h2 : r.1 = "if"
 · rw [if_pos h2] at h
   split at h
   · cases h
   · rename_i hl
     split at h
     · rename_i a e u he
       split at h
       · split at h
         · rename_i b e2 u2 he2
           split at h
           · cases h
             obtain ⟨l, rfl⟩ : ∃ l, lv = l + 1 := ⟨lv - 1, by omega⟩
             have hu : ∀ x ∈ u, RdN x := fun x hx => (pL_bal _ _ _ _ _ he).mem ht x (List.mem_cons_of_mem _ hx)
             refine ⟨gI_nn h0 _, fun c hc x hx => ?_⟩
             rcases List.mem_cons.mp hc with rfl | hc
             · exact hp _ _ _ _ ht he x hx
             · have := List.mem_singleton.mp hc
               subst this
               exact hp _ _ _ _ hu he2 x hx
           · cases h
         · cases h
       · cases h
     · cases h
 rw [if_neg h2] at h
 by_cases h3 : r.1 = "try"
 · rw [if_pos h3] at h
   split at h
   · cases h
   · rename_i hl
     split at h
     · rename_i a e u he
       split at h
       · split at h
         · rename_i b e2 u2 he2
           split at h
           · cases h
             obtain ⟨l, rfl⟩ : ∃ l, lv = l + 1 := ⟨lv - 1, by omega⟩
             have heu := (pL_bal _ _ _ _ _ he).mem ht
             have hu : ∀ x ∈ u, RdN x := fun x hx => heu x (List.mem_cons_of_mem _ hx)
             refine ⟨gI_nn (heu e (List.mem_cons_self ..)).nn _, fun c hc x hx => ?_⟩
             rcases List.mem_cons.mp hc with rfl | hc
             · exact hp _ _ _ _ ht he x hx
             · have := List.mem_singleton.mp hc
               subst this
               exact hp _ _ _ _ hu he2 x hx
           · cases h
         · cases h
       · cases h
     · cases h
 rw [if_neg h3] at h
 obtain ⟨s', hs, e⟩ := Option.map_eq_some_iff.mp h
 cases e
 obtain ⟨k1, k2⟩ := plain_N hs (hr r (List.mem_cons_self ..))
 exact ⟨k1, fun b hb => by rw [k2] at hb; cases hb⟩
theorem pL_wf : ∀ (f lv : Nat) (rs : List RD) (ss : List Stm) (t : List RD), (∀ r ∈ rs, RdN r) → pL f lv rs = some (ss, t) → ∀ s ∈ ss, WfS (lv + 1) s
 | 0, _, _, _, _, _, h => by cases h
 | f + 1, lv, rs, ss, t, hr, h => by
   unfold pL at h
   split at h
   · cases h; intro s hs; cases hs
   · rename_i r t0
     split at h
     · cases h; intro s hs; cases hs
     · split at h
       · cases h
       · rename_i s t1 h1
         split at h
         · cases h
         · rename_i ss2 t2 h2
           cases h
           intro x hx
           rcases List.mem_cons.mp hx with rfl | hx
           · exact one_wf (pL_wf f) hr h1
           · exact pL_wf f lv _ _ _ ((one_bal (pL_bal f) h1).mem hr) h2 x hx
theorem pF_wf : ∀ (f : Nat) (rs : List RD) (fs : List (Int × List Stm)), (∀ r ∈ rs, RdN r) → pF f rs = some fs → (∀ g ∈ fs, 0 ≤ g.1) ∧ (∀ g ∈ fs, ∀ s ∈ g.2, WfS 41 s) ∧ fs.length ≤ rs.length
 | 0, _, _, _, h => by cases h
 | f + 1, rs, fs, hr, h => by
   unfold pF at h
   split at h
   · cases h; exact ⟨fun g hg => (by cases hg), fun g hg => (by cases hg), Nat.le_refl _⟩
   · rename_i r0 t
     split at h
     · split at h
       · cases h
       · rename_i ss t1 h1
         split at h
         · cases h
         · rename_i gs h2
           cases h
           have ht : ∀ x ∈ t, RdN x := fun x hx => hr x (List.mem_cons_of_mem _ hx)
           have g := pL_bal _ _ _ _ _ h1
           obtain ⟨i1, i2, i3⟩ := pF_wf f _ _ (g.mem ht) h2
           have := g.len
           refine ⟨fun x hx => ?_, fun x hx => ?_, by rw [List.length_cons, List.length_cons]; omega⟩
           · rcases List.mem_cons.mp hx with rfl | hx
             · exact gI_nn (hr r0 (List.mem_cons_self ..)).nn _
             · exact i1 x hx
           · rcases List.mem_cons.mp hx with rfl | hx
             · exact pL_wf _ _ _ _ _ ht h1
             · exact i2 x hx
     · cases h
def spRdWX (a : Adr) : Sp := fun vs H Q E => ∃ t : Str, vs = [.str t] ∧ t.length ≤ 8000 ∧ (rowR t = none → ∀ H', Same H H' → E (.ref a.C_NoText) none H') ∧ (∀ r, rowR t = some r → ∀ p H', Same H H' → H p = none → RtAt H' p r → Q (.ref p) H')
def spPlainX : Sp := fun vs H Q _ => ∃ (p : Addr) (s : Stm) (r : RD), vs = [.ref p] ∧ RtAt H p r ∧ plainOf r = some s ∧ RdN r ∧ ∀ p' H', Same H H' → (∀ d, StAt (nt H H') (d + 1) p' s) → Q (.ref p') H'
def spTakeX (a : Adr) : Sp := fun vs H Q E => ∃ (x dx lr : Addr) (fs : List (Str × V)) (k : Nat) (ps : List Addr) (rs : List RD) (w : Str), vs = [.ref x, .str w] ∧ PRt a H x dx lr fs k ps rs ∧ (wordAt rs k ≠ w → w.length ≤ 100 ∧ E (.ref a.C_NoText) none H) ∧
 (wordAt rs k = w → w ≠ "" ∧ ∀ r p fs' H', rs[k]? = some r → r.1 = w → ps[k]? = some p → KeepX x H H' → (∀ b, H b = none → H' b = none) → PRt a H' x dx lr fs' (k + 1) ps rs → RtAt H' p r → Q (.ref p) H')
def spPSX (a : Adr) (lv : Nat) : Sp := fun vs H Q E => ∃ (x dx lr : Addr) (fs : List (Str × V)) (k : Nat) (ps : List Addr) (rs : List RD) (r : RD) (t : List RD) (f : Nat), vs = [.ref x, .int (40 - (lv : Int))] ∧ PRt a H x dx lr fs k ps rs ∧ (∀ r ∈ rs, RdN r) ∧ rs.drop k = r :: t ∧ r.1 ∉ stopW ∧ t.length < f ∧
 (pOne (pL f) lv r t = none → ∀ H', KeepX x H H' → E (.ref a.C_NoText) none H') ∧
 (∀ s t', pOne (pL f) lv r t = some (s, t') → ∀ p fs' k' H', KeepX x H H' → PRt a H' x dx lr fs' k' ps rs → rs.drop k' = t' → StAt (nt H H') (lv + 1) p s → Q (.ref p) H')
def spPLX (a : Adr) (lv : Nat) : Sp := fun vs H Q E => ∃ (x dx lr : Addr) (fs : List (Str × V)) (k : Nat) (ps : List Addr) (rs : List RD) (f : Nat), vs = [.ref x, .int (40 - (lv : Int))] ∧ PRt a H x dx lr fs k ps rs ∧ (∀ r ∈ rs, RdN r) ∧ (rs.drop k).length < f ∧
 (pL f lv (rs.drop k) = none → ∀ H', KeepX x H H' → E (.ref a.C_NoText) none H') ∧
 (∀ ss t, pL f lv (rs.drop k) = some (ss, t) → ∀ l qs fs' k' H', KeepX x H H' → H l = none → PRt a H' x dx lr fs' k' ps rs → rs.drop k' = t → H' l = some (.lst (qs.map V.ref)) → Each (StAt (nt (upd H l (.lst [])) H') (lv + 1)) qs ss → Q (.ref l) H')
def spPFX (a : Adr) : Sp := fun vs H Q E => ∃ (x dx lr : Addr) (fs : List (Str × V)) (ps : List Addr) (rs : List RD), vs = [.ref x] ∧ PRt a H x dx lr fs 0 ps rs ∧ (∀ r ∈ rs, RdN r) ∧
 (pF (rs.length + 1) rs = none → ∀ H', KeepX x H H' → E (.ref a.C_NoText) none H') ∧
 (∀ fns, pF (rs.length + 1) rs = some fns → ∀ l H', KeepX x H H' → H l = none → ProgX H' l fns → Q (.ref l) H')
def spRdPX (a : Adr) : Sp := fun vs H Q E => ∃ v : V, vs = [v] ∧ ((∃ t : Str, v = .str t ∧ t.length ≤ 1500000 ∧ (toldS t = "text" → ∀ H', Same H H' → E (.ref a.C_NoText) none H') ∧ (toldS t = "program" → ∀ H', Same H H' → E (.ref a.C_NoProgram) none H') ∧ (toldS t = "read" → ∀ l H', Same H H' → Q (.ref l) H')) ∨ (NoS H v ∧ ∀ H', Same H H' → E (.ref a.C_NoText) none H'))
def spToldX : Sp := fun vs H Q _ => ∃ v : V, vs = [v] ∧ ((∃ t : Str, v = .str t ∧ t.length ≤ 1500000 ∧ ∀ H', Same H H' → Q (.str (toldS t)) H') ∨ (NoS H v ∧ ∀ H', Same H H' → Q (.str "text") H'))
end
section
open PySem.Builtin PySem.Builtin.Str
theorem one_len {f lv : Nat} {r : RD} {t t' : List RD} {s : Stm} (h : pOne (pL f) lv r t = some (s, t')) : t'.length ≤ t.length := by
 unfold pOne at h
 split at h
 · split at h
   · cases h
   · split at h
     · rename_i a e u he
       split at h
       · cases h
         have := (pL_bal _ _ _ _ _ he).len
         rw [List.length_cons] at this; omega
       · cases h
     · cases h
 split at h
 · split at h
   · cases h
   · split at h
     · rename_i a e u he
       split at h
       · split at h
         · rename_i b e2 u2 he2
           split at h
           · cases h
             have h1 := (pL_bal _ _ _ _ _ he).len
             have h2 := (pL_bal _ _ _ _ _ he2).len
             rw [List.length_cons] at h1 h2; omega
           · cases h
         · cases h
       · cases h
     · cases h
 split at h
 · split at h
   · cases h
   · split at h
     · rename_i a e u he
       split at h
       · split at h
         · rename_i b e2 u2 he2
           split at h
           · cases h
             have h1 := (pL_bal _ _ _ _ _ he).len
             have h2 := (pL_bal _ _ _ _ _ he2).len
             rw [List.length_cons] at h1 h2; omega
           · cases h
         · cases h
       · cases h
     · cases h
 · obtain ⟨s', hs, e⟩ := Option.map_eq_some_iff.mp h
   cases e
   exact Nat.le_refl _
theorem pL_none {f lv : Nat} {r : RD} {t : List RD} (h1 : r.1 ∉ stopW) (h2 : pOne (pL f) lv r t = none) : pL (f + 1) lv (r :: t) = none := by
 unfold pL; dsimp only; rw [if_neg h1, h2]
theorem pL_on {f lv : Nat} {r : RD} {t t' : List RD} {s : Stm} (h1 : r.1 ∉ stopW) (h2 : pOne (pL f) lv r t = some (s, t')) : pL (f + 1) lv (r :: t) = (pL f lv t').map fun y => (s :: y.1, y.2) := by
 have e : pL (f + 1) lv (r :: t) = match pL f lv t' with | none => none | some (ss, t'') => some (s :: ss, t'') := by
   conv => lhs; unfold pL
   dsimp only; rw [if_neg h1, h2]
   all_goals rfl
 rw [e]
 cases pL f lv t' with
 | none => rfl
 | some y => rfl
theorem drop_get {rs : List RD} {k : Nat} {r : RD} (h : rs[k]? = some r) : rs.drop k = r :: rs.drop (k + 1) := by
 obtain ⟨h1, h2⟩ := List.getElem?_eq_some_iff.mp h
 rw [List.drop_eq_getElem_cons h1, h2]
theorem plain_some {r : RD} (h : hasC r = true) (h0 : r.1 ∉ stopW) (h1 : r.1 ≠ "while") (h2 : r.1 ≠ "if") (h3 : r.1 ≠ "try") : ∃ s, plainOf r = some s := by
 have hw := hasC_word h
 have k : ∀ w ∈ wordsP, w ∉ stopW → w ≠ "while" → w ≠ "if" → w ≠ "try" → w ∈ (["set", "copy", "sum", "minus", "product", "less", "give", "drop", "call", "hand"] : List Str) := by decide +kernel
 have hm := k _ hw h0 h1 h2 h3
 unfold plainOf
 simp only [List.mem_cons, List.not_mem_nil, or_false] at hm
 repeat' split
 all_goals first | exact ⟨_, rfl⟩ | (exfalso; rcases hm with e | e | e | e | e | e | e | e | e | e <;> contradiction)
theorem one_pl {p : Nat → List RD → Option (List Stm × List RD)} {lv : Nat} {r : RD} {t : List RD} {s : Stm} (h1 : r.1 ≠ "while") (h2 : r.1 ≠ "if") (h3 : r.1 ≠ "try") (h : plainOf r = some s) : pOne p lv r t = some (s, t) := one_plain h1 h2 h3 h
theorem one_deep {p : Nat → List RD → Option (List Stm × List RD)} {r : RD} {t : List RD} (h : r.1 = "while" ∨ r.1 = "if" ∨ r.1 = "try") : pOne p 0 r t = none := by
 unfold pOne
 split
 · rfl
 split
 · rfl
 split
 · rfl
 · rename_i h1 h2 h3
   rcases h with h | h | h
   · exact absurd h h1
   · exact absurd h h2
   · exact absurd h h3
theorem one_while_n {p : Nat → List RD → Option (List Stm × List RD)} {l : Nat} {r : RD} {t : List RD} (h : r.1 = "while") (hp : p l t = none) : pOne p (l + 1) r t = none := by
 unfold pOne; rw [if_pos h, if_neg (Nat.succ_ne_zero _), Nat.add_sub_cancel, hp]
theorem one_while_w {p : Nat → List RD → Option (List Stm × List RD)} {l : Nat} {r : RD} {t : List RD} {a : List Stm} {u : List RD} (h : r.1 = "while") (hp : p l t = some (a, u)) (hw : wordAt u 0 ≠ "end") : pOne p (l + 1) r t = none := by
 unfold pOne; rw [if_pos h, if_neg (Nat.succ_ne_zero _), Nat.add_sub_cancel, hp]
 cases u with
 | nil => rfl
 | cons e u => dsimp only; rw [if_neg (show ¬ e.1 = "end" from hw)]
theorem one_while_y {p : Nat → List RD → Option (List Stm × List RD)} {l : Nat} {r : RD} {t : List RD} {a : List Stm} {e : RD} {u : List RD} (h : r.1 = "while") (hp : p l t = some (a, e :: u)) (he : e.1 = "end") : pOne p (l + 1) r t = some (.whileS (gI r.2 0) a, u) := by
 unfold pOne; rw [if_pos h, if_neg (Nat.succ_ne_zero _), Nat.add_sub_cancel, hp]
 dsimp only; rw [if_pos he]
theorem one_if_n {p : Nat → List RD → Option (List Stm × List RD)} {l : Nat} {r : RD} {t : List RD} (h : r.1 = "if") (hp : p l t = none) : pOne p (l + 1) r t = none := by
 unfold pOne; rw [if_neg (fun z => absurd (h.symm.trans z) (by decide +kernel)), if_pos h, if_neg (Nat.succ_ne_zero _), Nat.add_sub_cancel, hp]
theorem one_if_w {p : Nat → List RD → Option (List Stm × List RD)} {l : Nat} {r : RD} {t : List RD} {a : List Stm} {u : List RD} (h : r.1 = "if") (hp : p l t = some (a, u)) (hw : wordAt u 0 ≠ "else") : pOne p (l + 1) r t = none := by
 unfold pOne; rw [if_neg (fun z => absurd (h.symm.trans z) (by decide +kernel)), if_pos h, if_neg (Nat.succ_ne_zero _), Nat.add_sub_cancel, hp]
 cases u with
 | nil => rfl
 | cons e u => dsimp only; rw [if_neg (show ¬ e.1 = "else" from hw)]
theorem one_if_n2 {p : Nat → List RD → Option (List Stm × List RD)} {l : Nat} {r : RD} {t : List RD} {a : List Stm} {e : RD} {u : List RD} (h : r.1 = "if") (hp : p l t = some (a, e :: u)) (he : e.1 = "else") (hp2 : p l u = none) : pOne p (l + 1) r t = none := by
 unfold pOne; rw [if_neg (fun z => absurd (h.symm.trans z) (by decide +kernel)), if_pos h, if_neg (Nat.succ_ne_zero _), Nat.add_sub_cancel, hp]
 dsimp only; rw [if_pos he, hp2]
theorem one_if_w2 {p : Nat → List RD → Option (List Stm × List RD)} {l : Nat} {r : RD} {t : List RD} {a b : List Stm} {e : RD} {u v : List RD} (h : r.1 = "if") (hp : p l t = some (a, e :: u)) (he : e.1 = "else") (hp2 : p l u = some (b, v)) (hw : wordAt v 0 ≠ "end") : pOne p (l + 1) r t = none := by
 unfold pOne; rw [if_neg (fun z => absurd (h.symm.trans z) (by decide +kernel)), if_pos h, if_neg (Nat.succ_ne_zero _), Nat.add_sub_cancel, hp]
 dsimp only; rw [if_pos he, hp2]
 cases v with
 | nil => rfl
 | cons e v => dsimp only; rw [if_neg (show ¬ e.1 = "end" from hw)]
theorem one_if_y {p : Nat → List RD → Option (List Stm × List RD)} {l : Nat} {r : RD} {t : List RD} {a b : List Stm} {e e2 : RD} {u v : List RD} (h : r.1 = "if") (hp : p l t = some (a, e :: u)) (he : e.1 = "else") (hp2 : p l u = some (b, e2 :: v)) (he2 : e2.1 = "end") : pOne p (l + 1) r t = some (.ifS (gI r.2 0) a b, v) := by
 unfold pOne; rw [if_neg (fun z => absurd (h.symm.trans z) (by decide +kernel)), if_pos h, if_neg (Nat.succ_ne_zero _), Nat.add_sub_cancel, hp]
 dsimp only; rw [if_pos he, hp2]
 dsimp only; rw [if_pos he2]
theorem one_try_n {p : Nat → List RD → Option (List Stm × List RD)} {l : Nat} {r : RD} {t : List RD} (h : r.1 = "try") (hp : p l t = none) : pOne p (l + 1) r t = none := by
 unfold pOne; rw [if_neg (fun z => absurd (h.symm.trans z) (by decide +kernel)), if_neg (fun z => absurd (h.symm.trans z) (by decide +kernel)), if_pos h, if_neg (Nat.succ_ne_zero _), Nat.add_sub_cancel, hp]
theorem one_try_w {p : Nat → List RD → Option (List Stm × List RD)} {l : Nat} {r : RD} {t : List RD} {a : List Stm} {u : List RD} (h : r.1 = "try") (hp : p l t = some (a, u)) (hw : wordAt u 0 ≠ "landing") : pOne p (l + 1) r t = none := by
 unfold pOne; rw [if_neg (fun z => absurd (h.symm.trans z) (by decide +kernel)), if_neg (fun z => absurd (h.symm.trans z) (by decide +kernel)), if_pos h, if_neg (Nat.succ_ne_zero _), Nat.add_sub_cancel, hp]
 cases u with
 | nil => rfl
 | cons e u => dsimp only; rw [if_neg (show ¬ e.1 = "landing" from hw)]
theorem one_try_n2 {p : Nat → List RD → Option (List Stm × List RD)} {l : Nat} {r : RD} {t : List RD} {a : List Stm} {e : RD} {u : List RD} (h : r.1 = "try") (hp : p l t = some (a, e :: u)) (he : e.1 = "landing") (hp2 : p l u = none) : pOne p (l + 1) r t = none := by
 unfold pOne; rw [if_neg (fun z => absurd (h.symm.trans z) (by decide +kernel)), if_neg (fun z => absurd (h.symm.trans z) (by decide +kernel)), if_pos h, if_neg (Nat.succ_ne_zero _), Nat.add_sub_cancel, hp]
 dsimp only; rw [if_pos he, hp2]
theorem one_try_w2 {p : Nat → List RD → Option (List Stm × List RD)} {l : Nat} {r : RD} {t : List RD} {a b : List Stm} {e : RD} {u v : List RD} (h : r.1 = "try") (hp : p l t = some (a, e :: u)) (he : e.1 = "landing") (hp2 : p l u = some (b, v)) (hw : wordAt v 0 ≠ "end") : pOne p (l + 1) r t = none := by
 unfold pOne; rw [if_neg (fun z => absurd (h.symm.trans z) (by decide +kernel)), if_neg (fun z => absurd (h.symm.trans z) (by decide +kernel)), if_pos h, if_neg (Nat.succ_ne_zero _), Nat.add_sub_cancel, hp]
 dsimp only; rw [if_pos he, hp2]
 cases v with
 | nil => rfl
 | cons e v => dsimp only; rw [if_neg (show ¬ e.1 = "end" from hw)]
theorem one_try_y {p : Nat → List RD → Option (List Stm × List RD)} {l : Nat} {r : RD} {t : List RD} {a b : List Stm} {e e2 : RD} {u v : List RD} (h : r.1 = "try") (hp : p l t = some (a, e :: u)) (he : e.1 = "landing") (hp2 : p l u = some (b, e2 :: v)) (he2 : e2.1 = "end") : pOne p (l + 1) r t = some (.tryS a (gI e.2 0) b, v) := by
 unfold pOne; rw [if_neg (fun z => absurd (h.symm.trans z) (by decide +kernel)), if_neg (fun z => absurd (h.symm.trans z) (by decide +kernel)), if_pos h, if_neg (Nat.succ_ne_zero _), Nat.add_sub_cancel, hp]
 dsimp only; rw [if_pos he, hp2]
 dsimp only; rw [if_pos he2]
theorem row_1 {w : Str} {r : RD} (h : r.1 = w) (hm : w ∈ (["if", "while", "landing", "fun"] : List Str)) (hc : hasC r = true) : r = (w, [gI r.2 0]) := by
 obtain ⟨w0, ns⟩ := r
 have h : w0 = w := h
 subst h
 have e : ∀ w ∈ (["if", "while", "landing", "fun"] : List Str), countsP.lookup w = some ((1 : Nat) : Int) ∧ w ∈ (["fun", "set", "copy", "sum", "minus", "product", "less", "drop", "give", "if", "else", "while", "try", "landing", "end"] : List Str) := by decide +kernel
 have hl := hasN_is (e w0 hm).2 hc (e w0 hm).1
 show (w0, ns) = (w0, [gI ns 0])
 rw [← len1 hl]
theorem row_try {r : RD} (h : r.1 = "try") (hc : hasC r = true) : r = rd "try" [] := by
 obtain ⟨w0, ns⟩ := r
 have h : w0 = "try" := h
 subst h
 have hl := hasN_is (n := 0) (by decide +kernel) hc (by decide +kernel)
 rw [List.length_eq_zero_iff.mp hl]
end
theorem keep_none {l : Addr} {H H' : Hp} {o o' : HO} (k : KeepX l H H') (hl : H l = some o) (hl' : H' l = some o') {b : Addr} (h : H' b = none) : H b = none := by
 cases e : H b with
 | none => rfl
 | some x =>
   by_cases z : b = l
   · rw [z, hl'] at h; cases h
   · rw [k b x e z] at h; cases h
theorem pF_no {j : Nat} {r : RD} {t : List RD} (h : r.1 ≠ "fun") : pF (j + 1) (r :: t) = none := by
 unfold pF; dsimp only; rw [if_neg h]
theorem pF_n {j : Nat} {y : Int} {t : List RD} (h : pL (t.length + 1) 40 t = none) : pF (j + 1) (rd "fun" [y] :: t) = none := by
 unfold pF; dsimp only; rw [if_pos (show (rd "fun" [y]).1 = "fun" from rfl), h]
theorem pF_on {j : Nat} {y : Int} {t t' : List RD} {ss : List Stm} (h : pL (t.length + 1) 40 t = some (ss, t')) : pF (j + 1) (rd "fun" [y] :: t) = (pF j t').map fun z => (y, ss) :: z := by
 have e : pF (j + 1) (rd "fun" [y] :: t) = match pF j t' with | none => none | some fs => some ((y, ss) :: fs) := by
   conv => lhs; unfold pF
   dsimp only
   rw [if_pos (show (rd "fun" [y]).1 = "fun" from rfl), h]
   all_goals rfl
 rw [e]
 cases pF j t' <;> rfl
theorem told_prog {t s : Str} {rs : List RD} {fs : List (Int × List Stm)} (hl : t.length ≤ 8000) (h : readT t = some rs) (h2 : pF (rs.length + 1) rs = some fs) (hb : (progB fs = true ∧ s = "read") ∨ (progB fs = false ∧ s = "program")) : toldS t = s := by
 unfold toldS
 rw [if_neg (by omega), h]
 dsimp only
 rw [h2]
 dsimp only
 rcases hb with ⟨hb, rfl⟩ | ⟨hb, rfl⟩
 · rw [if_pos hb]
 · rw [if_neg (by rw [hb]; decide)]
end
section
variable {P : Program} {w : World} {K : PySem.W.Frag} {mg : Str → Option Value} {base : Heap} {a : Adr}
section
open PySem.Builtin PySem.Builtin.Str
def LB (s : Str) (n : Nat) : Prop := s.length ≤ n
theorem LBapp {a b : Str} {n m : Nat} (h : LB a n) (k : LB b m) : LB (a ++ b) (n + m) := by
 unfold LB at *; rw [app_len]; omega
theorem LBlit {s : String} : LB (Str.ofString s) (Str.ofString s).length := Nat.le_refl _
theorem LBle {a : Str} {n m : Nat} (h : LB a n) (e : n ≤ m) : LB a m := Nat.le_trans h e
theorem LBnum {n : Int} (h0 : 0 ≤ n) (h1 : n < 10 ^ 10) : LB (numS n) 10 := numS_len h0 h1
theorem LB2 {a b : Str} {n m : Nat} (h : LB a n) (k : LB b m) (e : n + m ≤ 1000000) : a.length + b.length ≤ sizeLine := by
 unfold LB at h k; rw [sizeLine_eq]; omega
local macro_rules | `(tactic| walk_at "lb") => `(tactic| first | with_reducible assumption | with_reducible exact LBlit | (with_reducible exact LBapp (by walk_at "lb") (by walk_at "lb")))
local macro_rules | `(tactic| walk_at "lc") => `(tactic| (with_reducible exact LBle (by walk_at "lb") (by decide +kernel)))
local macro_rules | `(tactic| walk_at "tx") => `(tactic| (refine str_eq ?_; unfold rowX; rw [join_toList]; simp only [str_app, List.append_assoc]; rfl))
structure RowL (r : RD) (s : Stm) : Prop where
 rows : ∀ d, rowsS (d + 1) s = [r]
 ok : ∀ (hd : List Int) (d : Nat), hd[0]? = some 1 → OkL hd (d + 1) s
 g : RdG r
 cnt : ∀ d, cnt1 (d + 1) s = 1
 len : LB (rowX r) 30
theorem n10 {x : Int} (h : isN x) : 0 ≤ x ∧ x < 10 ^ 10 := ⟨h.1, by have := h.2; omega⟩
theorem LB1 {x : Int} (h : isN x) : LB (numS x) 1 := Nat.le_of_eq (numS_one h.1 (by have := h.2; omega))
theorem rowl_set {x v : Int} (hx : isN x) (hv : isVal v) : RowL ("set", [x, v]) (.pl (.set x v)) ∧ rowX ("set", [x, v]) = "set " ++ numS x ++ " " ++ numS v := by
 have e : rowX ("set", [x, v]) = "set " ++ numS x ++ " " ++ numS v := by walk_at "tx"
 have Lx : LB (numS x) 1 := LB1 hx
 have Lv : LB (numS v) 10 := LBnum hv.1 (by have := hv.2; omega)
 refine ⟨⟨fun d => rfl, fun hd d h => ⟨hx, hv⟩, ⟨by kernel_rfl, fun n hn => ?_⟩, fun d => rfl, by rw [e]; walk_at "lc"⟩, e⟩
 simp only [List.mem_cons, List.not_mem_nil, or_false] at hn
 rcases hn with rfl | rfl
 · exact n10 hx
 · exact ⟨hv.1, by have := hv.2; omega⟩
theorem rowl_copy {x y : Int} (hx : isN x) (hy : isN y) : RowL ("copy", [x, y]) (.pl (.copy x y)) ∧ rowX ("copy", [x, y]) = "copy " ++ numS x ++ " " ++ numS y := by
 have e : rowX ("copy", [x, y]) = "copy " ++ numS x ++ " " ++ numS y := by walk_at "tx"
 have Lx : LB (numS x) 1 := LB1 hx
 have Ly : LB (numS y) 1 := LB1 hy
 refine ⟨⟨fun d => rfl, fun hd d h => ⟨hx, hy⟩, ⟨by kernel_rfl, fun n hn => ?_⟩, fun d => rfl, by rw [e]; walk_at "lc"⟩, e⟩
 simp only [List.mem_cons, List.not_mem_nil, or_false] at hn
 rcases hn with rfl | rfl
 · exact n10 hx
 · exact n10 hy
theorem rowl_sum {x y : Int} (hx : isN x) (hy : isN y) : RowL ("sum", [x, y, 5]) (.pl (.sum x y 5)) ∧ rowX ("sum", [x, y, 5]) = "sum " ++ numS x ++ " " ++ numS y ++ " 5" := by
 have e : rowX ("sum", [x, y, 5]) = "sum " ++ numS x ++ " " ++ numS y ++ " 5" := by walk_at "tx"
 have Lx : LB (numS x) 1 := LB1 hx
 have Ly : LB (numS y) 1 := LB1 hy
 refine ⟨⟨fun d => rfl, fun hd d h => ⟨hx, hy, ⟨by decide, by decide⟩⟩, ⟨by kernel_rfl, fun n hn => ?_⟩, fun d => rfl, by rw [e]; walk_at "lc"⟩, e⟩
 simp only [List.mem_cons, List.not_mem_nil, or_false] at hn
 rcases hn with rfl | rfl | rfl
 · exact n10 hx
 · exact n10 hy
 · exact by decide
theorem rowl_minus {x y : Int} (hx : isN x) (hy : isN y) : RowL ("minus", [x, 0, y]) (.pl (.minus x 0 y)) ∧ rowX ("minus", [x, 0, y]) = "minus " ++ numS x ++ " 0 " ++ numS y := by
 have e : rowX ("minus", [x, 0, y]) = "minus " ++ numS x ++ " 0 " ++ numS y := by walk_at "tx"
 have Lx : LB (numS x) 1 := LB1 hx
 have Ly : LB (numS y) 1 := LB1 hy
 refine ⟨⟨fun d => rfl, fun hd d h => ⟨hx, ⟨by decide, by decide⟩, hy⟩, ⟨by kernel_rfl, fun n hn => ?_⟩, fun d => rfl, by rw [e]; walk_at "lc"⟩, e⟩
 simp only [List.mem_cons, List.not_mem_nil, or_false] at hn
 rcases hn with rfl | rfl | rfl
 · exact n10 hx
 · exact by decide
 · exact n10 hy
theorem rowl_product {x y : Int} (hx : isN x) (hy : isN y) : RowL ("product", [1, x, y]) (.pl (.product 1 x y)) ∧ rowX ("product", [1, x, y]) = "product 1 " ++ numS x ++ " " ++ numS y := by
 have e : rowX ("product", [1, x, y]) = "product 1 " ++ numS x ++ " " ++ numS y := by walk_at "tx"
 have Lx : LB (numS x) 1 := LB1 hx
 have Ly : LB (numS y) 1 := LB1 hy
 refine ⟨⟨fun d => rfl, fun hd d h => ⟨⟨by decide, by decide⟩, hx, hy⟩, ⟨by kernel_rfl, fun n hn => ?_⟩, fun d => rfl, by rw [e]; walk_at "lc"⟩, e⟩
 simp only [List.mem_cons, List.not_mem_nil, or_false] at hn
 rcases hn with rfl | rfl | rfl
 · exact by decide
 · exact n10 hx
 · exact n10 hy
theorem rowl_less {x y : Int} (hx : isN x) (hy : isN y) : RowL ("less", [x, y, 2]) (.pl (.less x y 2)) ∧ rowX ("less", [x, y, 2]) = "less " ++ numS x ++ " " ++ numS y ++ " 2" := by
 have e : rowX ("less", [x, y, 2]) = "less " ++ numS x ++ " " ++ numS y ++ " 2" := by walk_at "tx"
 have Lx : LB (numS x) 1 := LB1 hx
 have Ly : LB (numS y) 1 := LB1 hy
 refine ⟨⟨fun d => rfl, fun hd d h => ⟨hx, hy, ⟨by decide, by decide⟩⟩, ⟨by kernel_rfl, fun n hn => ?_⟩, fun d => rfl, by rw [e]; walk_at "lc"⟩, e⟩
 simp only [List.mem_cons, List.not_mem_nil, or_false] at hn
 rcases hn with rfl | rfl | rfl
 · exact n10 hx
 · exact n10 hy
 · exact by decide
theorem rowl_drop {x : Int} (hx : isN x) : RowL ("drop", [x]) (.drop x) ∧ rowX ("drop", [x]) = "drop " ++ numS x := by
 have e : rowX ("drop", [x]) = "drop " ++ numS x := by walk_at "tx"
 have Lx : LB (numS x) 1 := LB1 hx
 refine ⟨⟨fun d => rfl, fun hd d h => hx, ⟨by kernel_rfl, fun n hn => ?_⟩, fun d => rfl, by rw [e]; walk_at "lc"⟩, e⟩
 simp only [List.mem_cons, List.not_mem_nil, or_false] at hn
 rcases hn with rfl
 · exact n10 hx
theorem rowl_give {y : Int} (hy : isN y) : RowL ("give", [y]) (.pl (.give y)) ∧ rowX ("give", [y]) = "give " ++ numS y := by
 have e : rowX ("give", [y]) = "give " ++ numS y := by walk_at "tx"
 have Ly : LB (numS y) 1 := LB1 hy
 refine ⟨⟨fun d => rfl, fun hd d h => hy, ⟨by kernel_rfl, fun n hn => ?_⟩, fun d => rfl, by rw [e]; walk_at "lc"⟩, e⟩
 simp only [List.mem_cons, List.not_mem_nil, or_false] at hn
 rcases hn with rfl
 · exact n10 hy
theorem rowl_call {x y : Int} (hx : isN x) (hy : isN y) : RowL ("call", [x, 0, y]) (.call x 0 [y] true) ∧ rowX ("call", [x, 0, y]) = "call " ++ numS x ++ " 0 " ++ numS y := by
 have e : rowX ("call", [x, 0, y]) = "call " ++ numS x ++ " 0 " ++ numS y := by walk_at "tx"
 have Lx : LB (numS x) 1 := LB1 hx
 have Ly : LB (numS y) 1 := LB1 hy
 refine ⟨⟨fun d => rfl, fun hd d h => ⟨hx, by decide, fun n hn => by rw [List.mem_singleton.mp hn]; exact hy, h, rfl⟩, ⟨by kernel_rfl, fun n hn => ?_⟩, fun d => rfl, by rw [e]; walk_at "lc"⟩, e⟩
 simp only [List.mem_cons, List.not_mem_nil, or_false] at hn
 rcases hn with rfl | rfl | rfl
 · exact n10 hx
 · exact by decide
 · exact n10 hy
theorem rowl_hand {x : Int} (hx : isN x) : RowL ("hand", [0, x]) (.hand 0 [x] true) ∧ rowX ("hand", [0, x]) = "hand 0 " ++ numS x := by
 have e : rowX ("hand", [0, x]) = "hand 0 " ++ numS x := by walk_at "tx"
 have Lx : LB (numS x) 1 := LB1 hx
 refine ⟨⟨fun d => rfl, fun hd d h => ⟨by decide, fun n hn => by rw [List.mem_singleton.mp hn]; exact hx, h, rfl⟩, ⟨by kernel_rfl, fun n hn => ?_⟩, fun d => rfl, by rw [e]; walk_at "lc"⟩, e⟩
 simp only [List.mem_cons, List.not_mem_nil, or_false] at hn
 rcases hn with rfl | rfl
 · exact by decide
 · exact n10 hx
theorem row_at {c : Int} {X Y Z : Str} (hX : X = numS (c % 6)) (hY : Y = numS (c / 6 % 6)) (hZ : Z = numS (c / 36 % 4294967296)) : ∃ r s, atI ([V.str ("set " ++ X ++ " " ++ Z), V.str ("copy " ++ X ++ " " ++ Y), V.str ("sum " ++ X ++ " " ++ Y ++ " 5")] ++ [V.str ("minus " ++ X ++ " 0 " ++ Y), V.str ("product 1 " ++ X ++ " " ++ Y), V.str ("less " ++ X ++ " " ++ Y ++ " 2")] ++ [V.str ("drop " ++ X), V.str ("give " ++ Y), V.str ("call " ++ X ++ " 0 " ++ Y), V.str ("hand 0 " ++ X)]) (c / 36 % 10) = some (.str (rowX r)) ∧ RowL r s := by
 subst hX hY hZ
 have hx : isN (c % 6) := ⟨by omega, by omega⟩
 have hy : isN (c / 6 % 6) := ⟨by omega, by omega⟩
 have hv : isVal (c / 36 % 4294967296) := ⟨by omega, by omega⟩
 have hc : c / 36 % 10 = 0 ∨ c / 36 % 10 = 1 ∨ c / 36 % 10 = 2 ∨ c / 36 % 10 = 3 ∨ c / 36 % 10 = 4 ∨ c / 36 % 10 = 5 ∨ c / 36 % 10 = 6 ∨ c / 36 % 10 = 7 ∨ c / 36 % 10 = 8 ∨ c / 36 % 10 = 9 := by omega
 generalize c % 6 = x at *
 generalize c / 6 % 6 = y at *
 generalize c / 36 % 4294967296 = v at *
 rcases hc with h | h | h | h | h | h | h | h | h | h <;> rw [h]
 · obtain ⟨k, e⟩ := rowl_set hx hv
   exact ⟨_, _, atI_nat (j := 0) (congrArg (fun z => some (V.str z)) e.symm), k⟩
 · obtain ⟨k, e⟩ := rowl_copy hx hy
   exact ⟨_, _, atI_nat (j := 1) (congrArg (fun z => some (V.str z)) e.symm), k⟩
 · obtain ⟨k, e⟩ := rowl_sum hx hy
   exact ⟨_, _, atI_nat (j := 2) (congrArg (fun z => some (V.str z)) e.symm), k⟩
 · obtain ⟨k, e⟩ := rowl_minus hx hy
   exact ⟨_, _, atI_nat (j := 3) (congrArg (fun z => some (V.str z)) e.symm), k⟩
 · obtain ⟨k, e⟩ := rowl_product hx hy
   exact ⟨_, _, atI_nat (j := 4) (congrArg (fun z => some (V.str z)) e.symm), k⟩
 · obtain ⟨k, e⟩ := rowl_less hx hy
   exact ⟨_, _, atI_nat (j := 5) (congrArg (fun z => some (V.str z)) e.symm), k⟩
 · obtain ⟨k, e⟩ := rowl_drop hx
   exact ⟨_, _, atI_nat (j := 6) (congrArg (fun z => some (V.str z)) e.symm), k⟩
 · obtain ⟨k, e⟩ := rowl_give hy
   exact ⟨_, _, atI_nat (j := 7) (congrArg (fun z => some (V.str z)) e.symm), k⟩
 · obtain ⟨k, e⟩ := rowl_call hx hy
   exact ⟨_, _, atI_nat (j := 8) (congrArg (fun z => some (V.str z)) e.symm), k⟩
 · obtain ⟨k, e⟩ := rowl_hand hx
   exact ⟨_, _, atI_nat (j := 9) (congrArg (fun z => some (V.str z)) e.symm), k⟩
structure BlkL (rs : List RD) (s : Stm) : Prop where
 rows : ∀ d, rowsS (d + 2) s = rs
 ok : ∀ (hd : List Int) (d : Nat), hd[0]? = some 1 → OkL hd (d + 2) s
 g : ∀ r ∈ rs, RdG r
 ne : rs ≠ []
 cnt : ∀ d, cnt1 (d + 2) s ≤ 3
 len : LB (textR rs) 100
theorem x_one (w : String) {x : Int} {t : Str} (h : t.cps.toList = (Str.ofString w).cps.toList ++ [32]) : rowX (Str.ofString w, [x]) = t ++ numS x := by
 refine str_eq ?_
 rw [rowX_one]
 simp only [str_app, h]
 rfl
theorem tx_if {x : Int} {r : RD} : textR [rd "if" [x], r, rd "else" [], r, rd "end" []] = "if " ++ numS x ++ "; " ++ rowX r ++ "; else; " ++ rowX r ++ "; end" := by
 refine str_eq ?_
 unfold textR
 rw [join_toList]
 show jn _ [(rowX (rd "if" [x])).cps.toList, (rowX r).cps.toList, (rowX (rd "else" [])).cps.toList, (rowX r).cps.toList, (rowX (rd "end" [])).cps.toList] = _
 rw [show rowX (rd "if" [x]) = "if " ++ numS x from x_one "if" (by decide +kernel), show rowX (rd "else" []) = "else" from rowX_nil _, show rowX (rd "end" []) = "end" from rowX_nil _]
 simp only [str_app, List.append_assoc]
 rfl
theorem tx_while {x : Int} {r : RD} : textR [rd "while" [x], r, rd "end" []] = "while " ++ numS x ++ "; " ++ rowX r ++ "; end" := by
 refine str_eq ?_
 unfold textR
 rw [join_toList]
 show jn _ [(rowX (rd "while" [x])).cps.toList, (rowX r).cps.toList, (rowX (rd "end" [])).cps.toList] = _
 rw [show rowX (rd "while" [x]) = "while " ++ numS x from x_one "while" (by decide +kernel), show rowX (rd "end" []) = "end" from rowX_nil _]
 simp only [str_app, List.append_assoc]
 rfl
theorem tx_try {x : Int} {r : RD} : textR [rd "try" [], r, rd "landing" [x], r, rd "end" []] = "try; " ++ rowX r ++ "; landing " ++ numS x ++ "; " ++ rowX r ++ "; end" := by
 refine str_eq ?_
 unfold textR
 rw [join_toList]
 show jn _ [(rowX (rd "try" [])).cps.toList, (rowX r).cps.toList, (rowX (rd "landing" [x])).cps.toList, (rowX r).cps.toList, (rowX (rd "end" [])).cps.toList] = _
 rw [show rowX (rd "landing" [x]) = "landing " ++ numS x from x_one "landing" (by decide +kernel), show rowX (rd "try" []) = "try" from rowX_nil _, show rowX (rd "end" []) = "end" from rowX_nil _]
 simp only [str_app, List.append_assoc]
 rfl
theorem tx_0 {r : RD} : textR [r] = rowX r := by
 refine str_eq ?_
 unfold textR
 rw [join_toList]
 rfl
theorem g_one {w : Str} {x : Int} (hx : isN x) (hc : hasC (rd w [x]) = true) : RdG (rd w [x]) := ⟨hc, fun n hn => by rw [List.mem_singleton.mp hn]; exact n10 hx⟩
theorem g_nil {w : Str} (hc : hasC (rd w []) = true) : RdG (rd w []) := ⟨hc, fun n hn => by cases hn⟩
theorem blk_0 {r : RD} {s : Stm} (h : RowL r s) : BlkL [r] s := ⟨fun d => h.rows (d + 1), fun hd d e => h.ok hd (d + 1) e, fun r' hr => by rw [List.mem_singleton.mp hr]; exact h.g, by simp, fun d => by rw [h.cnt (d + 1)]; decide, by rw [tx_0]; exact LBle h.len (by decide)⟩
theorem one_s {r : RD} {s : Stm} (h : RowL r s) (d : Nat) : rowsL (d + 1) [s] = [r] := by unfold rowsL; simp [h.rows d]
theorem one_c {r : RD} {s : Stm} (h : RowL r s) (d : Nat) : ([s].map (cnt1 (d + 1))).sum = 1 := by simp [h.cnt d]
theorem one_o {r : RD} {s : Stm} (h : RowL r s) {hd : List Int} {d : Nat} (e : hd[0]? = some 1) : ∀ s' ∈ [s], OkL hd (d + 1) s' := fun s' hs => by rw [List.mem_singleton.mp hs]; exact h.ok hd d e
theorem blk_if {r : RD} {s : Stm} {x : Int} (h : RowL r s) (hx : isN x) : BlkL [rd "if" [x], r, rd "else" [], r, rd "end" []] (.ifS x [s] [s]) := by
 have Lr := h.len
 have Lx := LB1 hx
 refine ⟨fun d => ?_, fun hd d e => ⟨hx, Nat.succ_pos _, one_o h e, one_o h e⟩, fun r' hr => ?_, by simp, fun d => ?_, by rw [tx_if]; walk_at "lc"⟩
 · show rd "if" [x] :: (rowsL (d + 1) [s] ++ rd "else" [] :: (rowsL (d + 1) [s] ++ [rd "end" []])) = _
   rw [one_s h]; rfl
 · simp only [List.mem_cons, List.not_mem_nil, or_false] at hr
   rcases hr with rfl | rfl | rfl | rfl | rfl
   · exact g_one hx (by kernel_rfl)
   · exact h.g
   · exact g_nil (by decide +kernel)
   · exact h.g
   · exact g_nil (by decide +kernel)
 · show 1 + ([s].map (cnt1 (d + 1))).sum + ([s].map (cnt1 (d + 1))).sum ≤ 3
   rw [one_c h]; decide
theorem blk_while {r : RD} {s : Stm} {x : Int} (h : RowL r s) (hx : isN x) : BlkL [rd "while" [x], r, rd "end" []] (.whileS x [s]) := by
 have Lr := h.len
 have Lx := LB1 hx
 refine ⟨fun d => ?_, fun hd d e => ⟨hx, Nat.succ_pos _, one_o h e⟩, fun r' hr => ?_, by simp, fun d => ?_, by rw [tx_while]; walk_at "lc"⟩
 · show rd "while" [x] :: (rowsL (d + 1) [s] ++ [rd "end" []]) = _
   rw [one_s h]; rfl
 · simp only [List.mem_cons, List.not_mem_nil, or_false] at hr
   rcases hr with rfl | rfl | rfl
   · exact g_one hx (by kernel_rfl)
   · exact h.g
   · exact g_nil (by decide +kernel)
 · show 1 + ([s].map (cnt1 (d + 1))).sum ≤ 3
   rw [one_c h]; decide
theorem blk_try {r : RD} {s : Stm} {x : Int} (h : RowL r s) (hx : isN x) : BlkL [rd "try" [], r, rd "landing" [x], r, rd "end" []] (.tryS [s] x [s]) := by
 have Lr := h.len
 have Lx := LB1 hx
 refine ⟨fun d => ?_, fun hd d e => ⟨hx, Nat.succ_pos _, one_o h e, one_o h e⟩, fun r' hr => ?_, by simp, fun d => ?_, by rw [tx_try]; walk_at "lc"⟩
 · show rd "try" [] :: (rowsL (d + 1) [s] ++ rd "landing" [x] :: (rowsL (d + 1) [s] ++ [rd "end" []])) = _
   rw [one_s h]; rfl
 · simp only [List.mem_cons, List.not_mem_nil, or_false] at hr
   rcases hr with rfl | rfl | rfl | rfl | rfl
   · exact g_nil (by decide +kernel)
   · exact h.g
   · exact g_one hx (by kernel_rfl)
   · exact h.g
   · exact g_nil (by decide +kernel)
 · show 1 + ([s].map (cnt1 (d + 1))).sum + ([s].map (cnt1 (d + 1))).sum ≤ 3
   rw [one_c h]; decide
structure TxtL (t : Str) (rs : List RD) (fs : List (Int × List Stm)) : Prop where
 tx : t = textR rs
 rp : rs = rowsP fs
 ne : rs ≠ []
 g : ∀ r ∈ rs, RdG r
 ok : ProgOk fs
 okl : ∀ f ∈ fs, ∀ s ∈ f.2, OkL (fs.map (·.1)) 5 s
 len : LB t 4000
 bl : 32 ∈ t.cps.toList
def spRowX : Sp := fun vs H Q _ => ∃ c : Int, vs = [.int c] ∧ ∀ r s H', Same H H' → RowL r s → Q (.str (rowX r)) H'
def spBlkX : Sp := fun vs H Q _ => ∃ (c : Int) (r : RD) (s : Stm), vs = [.str (rowX r), .int c] ∧ RowL r s ∧ ∀ rs s' H', Same H H' → BlkL rs s' → Q (.str (textR rs)) H'
def spTxtX (K : PySem.W.Frag) : Sp := fun vs H Q _ => ∃ (a0 : Addr) (ns : List Int), vs = [.ref a0] ∧ SqL K H a0 (ns.map V.int) ∧ ∀ t rs fs H', Same H H' → TxtL t rs fs → Q (.str t) H'
def spPlcX : Sp := fun vs H Q _ => ∃ t : Str, vs = [.str t, .str " "] ∧ LB t 4000 ∧ ∀ l (ps : List Nat) H', Same H H' → H' l = some (.lst (ps.map fun (n : Nat) => V.int (n : Int))) → (∀ n ∈ ps, t.cps.toList[n]? = some 32) → (32 ∈ t.cps.toList → ps ≠ []) → ps.length ≤ 4000 → Q (.ref l) H'
def spWoX : Sp := fun vs H Q _ => ∃ (t : Str) (rs : List RD) (fs : List (Int × List Stm)), vs = [.str t] ∧ TxtL t rs fs ∧ ∀ t' H', Same H H' → toldS t' = "text" → LB t' 5000 → Q (.str t') H'
def spNumX : Sp := fun vs H Q _ => ∃ (t : Str) (rs : List RD) (fs : List (Int × List Stm)) (c : Int), vs = [.str t, .int c] ∧ TxtL t rs fs ∧ ∀ t' H', Same H H' → toldS t' = "text" → LB t' 5000 → Q (.str t') H'
def spSplX : Sp := fun vs H Q _ => ∃ (t : Str) (rs : List RD) (fs : List (Int × List Stm)) (i c : Int), vs = [.str t, .int i, .int c] ∧ 0 ≤ i ∧ i < 10 ∧ TxtL t rs fs ∧ ∀ t' H', Same H H' → toldS t' = "text" → LB t' 5000 → Q (.str t') H'
def spNpX : Sp := fun vs H Q _ => ∃ i n : Int, vs = [.int i, .int n] ∧ 0 ≤ i ∧ i < 10 ∧ 0 ≤ n ∧ n < 10 ^ 9 ∧ ∀ t' H', Same H H' → toldS t' = "program" → LB t' 5000 → Q (.str t') H'
end
end
section
variable {P : Program} {w : World} {K : PySem.W.Frag} {mg : Str → Option Value} {base : Heap} {a : Adr}
section
open PySem.Builtin PySem.Builtin.Str
abbrev Bk := List RD × Stm
def rssC (C : List (Int × Bk)) : List (List RD) := C.flatMap fun c => [[rd "fun" [c.1]], c.2.1]
def rssB (B : List Bk) (C : List (Int × Bk)) : List (List RD) := [rd "fun" [1]] :: (B.map (·.1) ++ rssC C)
def fsB (B : List Bk) (C : List (Int × Bk)) : List (Int × List Stm) := (1, B.map (·.2)) :: C.map fun c => (c.1, [c.2.2])
theorem rowsL_B : ∀ B : List Bk, (∀ b ∈ B, BlkL b.1 b.2) → rowsL 5 (B.map (·.2)) = (B.map (·.1)).flatten
 | [], _ => rfl
 | b :: r, h => by
   have ih := rowsL_B r fun x hx => h x (List.mem_cons_of_mem _ hx)
   have e : rowsL 5 ((b :: r).map (·.2)) = rowsS 5 b.2 ++ rowsL 5 (r.map (·.2)) := rfl
   rw [e, ih, (h b (List.mem_cons_self ..)).rows 3]; rfl
theorem rowsP_C : ∀ C : List (Int × Bk), (∀ c ∈ C, BlkL c.2.1 c.2.2) → rowsP (C.map fun c => (c.1, [c.2.2])) = (rssC C).flatten
 | [], _ => rfl
 | c :: r, h => by
   have ih := rowsP_C r fun x hx => h x (List.mem_cons_of_mem _ hx)
   have e : rowsP ((c :: r).map fun c => (c.1, [c.2.2])) = rd "fun" [c.1] :: ((rowsS 5 c.2.2 ++ []) ++ rowsP (r.map fun c => (c.1, [c.2.2]))) := rfl
   rw [e, ih, (h c (List.mem_cons_self ..)).rows 3, List.append_nil]; rfl
theorem rowsP_B {B : List Bk} {C : List (Int × Bk)} (hB : ∀ b ∈ B, BlkL b.1 b.2) (hC : ∀ c ∈ C, BlkL c.2.1 c.2.2) : rowsP (fsB B C) = (rssB B C).flatten := by
 have e : rowsP (fsB B C) = rd "fun" [1] :: (rowsL 5 (B.map (·.2)) ++ rowsP (C.map fun c => (c.1, [c.2.2]))) := rfl
 rw [e, rowsL_B B hB, rowsP_C C hC, ← List.flatten_append]; rfl
theorem cntL_B : ∀ B : List Bk, (∀ b ∈ B, BlkL b.1 b.2) → cntL 5 (B.map (·.2)) ≤ 3 * B.length
 | [], _ => Nat.le_refl _
 | b :: r, h => by
   have ih := cntL_B r fun x hx => h x (List.mem_cons_of_mem _ hx)
   have hb : cnt1 5 b.2 ≤ 3 := (h b (List.mem_cons_self ..)).cnt 3
   have e : cntL 5 ((b :: r).map (·.2)) = cnt1 5 b.2 + cntL 5 (r.map (·.2)) := by unfold cntL; rw [List.map_cons, List.map_cons, List.sum_cons]
   rw [e, List.length_cons]; omega
theorem cnt_C : ∀ C : List (Int × Bk), (∀ c ∈ C, BlkL c.2.1 c.2.2) → ((C.map fun c => (c.1, [c.2.2])).map fun f : Int × List Stm => cntL 5 f.2).sum ≤ 3 * C.length
 | [], _ => Nat.le_refl _
 | c :: r, h => by
   have ih := cnt_C r fun x hx => h x (List.mem_cons_of_mem _ hx)
   have hb : cnt1 5 c.2.2 ≤ 3 := (h c (List.mem_cons_self ..)).cnt 3
   have e : cntL 5 [c.2.2] = cnt1 5 c.2.2 := by unfold cntL; simp
   rw [List.map_cons, List.map_cons, List.sum_cons, List.length_cons]
   show cntL 5 [c.2.2] + _ ≤ _
   rw [e]; omega
theorem rssC_len : ∀ C : List (Int × Bk), (rssC C).length = 2 * C.length
 | [] => rfl
 | c :: r => by
   have ih := rssC_len r
   have e : rssC (c :: r) = [rd "fun" [c.1]] :: c.2.1 :: rssC r := rfl
   rw [e, List.length_cons, List.length_cons, ih, List.length_cons]; omega
theorem rssC_snoc (C : List (Int × Bk)) (c : Int × Bk) : rssC (C ++ [c]) = rssC C ++ [[rd "fun" [c.1]], c.2.1] := by unfold rssC; simp
theorem fun_g {n : Int} (h0 : 0 ≤ n) (h1 : n ≤ 3) : RdG (rd "fun" [n]) := g_one ⟨h0, by omega⟩ (by kernel_rfl)
theorem fun_l {n : Int} (h0 : 0 ≤ n) (h1 : n ≤ 3) : textR [rd "fun" [n]] = "fun " ++ numS n ∧ LB (textR [rd "fun" [n]]) 100 := by
 have e : textR [rd "fun" [n]] = "fun " ++ numS n := by rw [tx_0]; exact x_one "fun" (by decide +kernel)
 have L := LB1 (x := n) ⟨h0, by omega⟩
 exact ⟨e, by rw [e]; exact LBle (LBapp LBlit L) (by decide +kernel)⟩
structure PtL (B : List Bk) (C : List (Int × Bk)) : Prop where
 b : ∀ b ∈ B, BlkL b.1 b.2
 c : ∀ c ∈ C, BlkL c.2.1 c.2.2
 n : ∀ c ∈ C, 0 ≤ c.1 ∧ c.1 ≤ 3
 lb : B.length ≤ 4
 lc : C.length ≤ 4
theorem PtL.all {B : List Bk} {C : List (Int × Bk)} (h : PtL B C) {P : List RD → Prop} (h1 : P [rd "fun" [1]]) (h2 : ∀ n : Int, 0 ≤ n → n ≤ 3 → P [rd "fun" [n]]) (h3 : ∀ rs s, BlkL rs s → P rs) : ∀ rs ∈ rssB B C, P rs := by
 intro rs hrs
 rcases List.mem_cons.mp hrs with rfl | hrs
 · exact h1
 rcases List.mem_append.mp hrs with hrs | hrs
 · obtain ⟨b, hb, rfl⟩ := List.mem_map.mp hrs
   exact h3 _ _ (h.b b hb)
 · obtain ⟨c, hc, hrs⟩ := List.mem_flatMap.mp hrs
   rcases List.mem_cons.mp hrs with rfl | hrs
   · exact h2 _ (h.n c hc).1 (h.n c hc).2
   · have := List.mem_singleton.mp hrs
     subst this
     exact h3 _ _ (h.c c hc)
theorem PtL.len {B : List Bk} {C : List (Int × Bk)} (h : PtL B C) : (rssB B C).length ≤ 13 := by
 have h1 := h.lb
 have h2 := h.lc
 show (B.map (·.1) ++ rssC C).length + 1 ≤ 13
 rw [List.length_append, List.length_map, rssC_len]; omega
theorem PtL.tl {B : List Bk} {C : List (Int × Bk)} (h : PtL B C) : ∀ t ∈ (rssB B C).map textR, t.length ≤ 100 := by
 intro t ht
 obtain ⟨rs, hrs, rfl⟩ := List.mem_map.mp ht
 exact h.all (P := fun rs => (textR rs).length ≤ 100) (fun_l (by decide) (by decide)).2 (fun n a b => (fun_l a b).2) (fun rs s k => k.len) rs hrs
theorem PtL.jok {B : List Bk} {C : List (Int × Bk)} (h : PtL B C) : JoinOk "; " ((rssB B C).map textR) = true :=
 joinOk_of (L := 102) (N := 13) (fun t ht => by have := h.tl t ht; have e : ("; " : Str).length = 2 := by decide +kernel
                                                omega) (by rw [List.length_map]; exact h.len) (by decide)
theorem jn_has {c : Nat} (sep : List Nat) {a : List Nat} (h : c ∈ a) (r : List (List Nat)) : c ∈ jn sep (a :: r) := by
 cases r with
 | nil => exact h
 | cons b r => exact List.mem_append_left _ h
theorem PtL.txt {B : List Bk} {C : List (Int × Bk)} (h : PtL B C) : TxtL (PySem.Str.join "; " ((rssB B C).map textR)) (rssB B C).flatten (fsB B C) := by
 have hne : ∀ rs ∈ rssB B C, rs ≠ [] := h.all (by simp) (fun _ _ _ => by simp) (fun _ _ k => k.ne)
 have hne2 : rssB B C ≠ [] := by unfold rssB; simp
 have hg : ∀ rs ∈ rssB B C, ∀ r ∈ rs, RdG r := h.all (fun r hr => by rw [List.mem_singleton.mp hr]; exact fun_g (by decide) (by decide)) (fun n a b r hr => by rw [List.mem_singleton.mp hr]; exact fun_g a b) (fun _ _ k => k.g)
 have hd0 : ((fsB B C).map (·.1))[0]? = some 1 := rfl
 have okl : ∀ f ∈ fsB B C, ∀ s ∈ f.2, OkL ((fsB B C).map (·.1)) 5 s := by
   intro f hf s hs
   rcases List.mem_cons.mp hf with rfl | hf
   · obtain ⟨b, hb, rfl⟩ := List.mem_map.mp hs
     exact (h.b b hb).ok _ 3 hd0
   · obtain ⟨c, hc, rfl⟩ := List.mem_map.mp hf
     have := List.mem_singleton.mp hs
     subst this
     exact (h.c c hc).ok _ 3 hd0
 have h1 := h.lb
 have h2 := h.lc
 have k1 := cntL_B B h.b
 have k2 := cnt_C C h.c
 have hl := join_le (sep := "; ") (L := 100) (N := 13) h.tl (by rw [List.length_map]; exact h.len)
 have e2 : ("; " : Str).length = 2 := by decide +kernel
 rw [e2] at hl
 refine ⟨join_texts hne hne2, (rowsP_B h.b h.c).symm, fun z => ?_, fun r hr => ?_, ⟨?_, ?_, fun f hf => ?_, fun f hf s hs => (okl f hf s hs).ok, ?_⟩, okl, Nat.le_trans hl (by decide), ?_⟩
 · exact hne [rd "fun" [1]] (List.mem_cons_self ..) (List.flatten_eq_nil_iff.mp z _ (List.mem_cons_self ..))
 · obtain ⟨rs, hrs, hr⟩ := List.mem_flatten.mp hr
   exact hg rs hrs r hr
 · show 1 ≤ (C.map fun c => (c.1, [c.2.2])).length + 1; omega
 · show (C.map fun c => (c.1, [c.2.2])).length + 1 ≤ 8
   rw [List.length_map]; omega
 · rcases List.mem_cons.mp hf with rfl | hf
   · exact ⟨show (0 : Int) ≤ 1 by decide, show (1 : Int) ≤ 3 by decide⟩
   · obtain ⟨c, hc, rfl⟩ := List.mem_map.mp hf
     exact h.n c hc
 · show cntL 5 (B.map (·.2)) + ((C.map fun c => (c.1, [c.2.2])).map fun f : Int × List Stm => cntL 5 f.2).sum ≤ 80
   omega
 · rw [join_toList]
   show 32 ∈ jn _ ((textR [rd "fun" [1]]).cps.toList :: _)
   refine jn_has _ ?_ _
   decide +kernel
def txV (rs : List RD) : V := .str (textR rs)
theorem rssB_snocB (B : List Bk) (b : Bk) : (rssB (B ++ [b]) []).map txV = (rssB B []).map txV ++ [.str (textR b.1)] := by
 unfold rssB rssC; simp [txV]
theorem rssB_snocC (B : List Bk) (C : List (Int × Bk)) (c : Int × Bk) : (rssB B (C ++ [c])).map txV = (rssB B C).map txV ++ [.str (textR [rd "fun" [c.1]]), .str (textR c.2.1)] := by
 unfold rssB; rw [rssC_snoc]; simp [txV]
theorem SqL_sm {K : PySem.W.Frag} {H H' : Hp} {a : Addr} {xs : List V} (e : Same H H') (h : SqL K H a xs) : SqL K H' a xs := by
 rcases h with (h | ⟨o, h⟩) | h
 · exact .inl (.inl (e _ _ h))
 · exact .inl (.inr ⟨o, e _ _ h⟩)
 · exact .inr h
theorem repT_S (n : Nat) (s : Str) : repT n s = repS n s := str_eq (by rw [repT_list, repS_list])
end
section
open PySem.Builtin PySem.Builtin.Str
theorem LB1' {x : Int} (h0 : 0 ≤ x) (h : x ≤ 9) : LB (numS x) 1 := Nat.le_of_eq (numS_one h0 h)
theorem app3 {t a b c : Str} (h : c.cps.toList = a.cps.toList ++ b.cps.toList) : t ++ a ++ b = t ++ c := str_eq (by simp only [str_app, h, List.append_assoc])
theorem way5_at {rs : List RD} (hne : rs ≠ []) (hg : ∀ r ∈ rs, RdG r) {N : Str} (hx : ∃ y ∈ way5, y.1.cps.toList = ("; set 0 " : Str).cps.toList ++ N.cps.toList) : toldS (textR rs ++ "; set 0 " ++ N) = "text" := by
 obtain ⟨y, hy, e⟩ := hx
 rw [app3 e]
 exact way5_bad hy hne hg
theorem num_at {rs : List RD} (hne : rs ≠ []) (hg : ∀ r ∈ rs, RdG r) (c : Int) : ∃ N : Str, atI [V.str "007", V.str "00", V.str ("4294967295" ++ numS (c % 10)), V.str "", V.str "-1", V.str "+1", V.str "x"] (c / 10 % 7) = some (.str N) ∧ LB N 20 ∧ toldS (textR rs ++ "; set 0 " ++ N) = "text" := by
 have hc : c / 10 % 7 = 0 ∨ c / 10 % 7 = 1 ∨ c / 10 % 7 = 2 ∨ c / 10 % 7 = 3 ∨ c / 10 % 7 = 4 ∨ c / 10 % 7 = 5 ∨ c / 10 % 7 = 6 := by omega
 have hd : c % 10 = 0 ∨ c % 10 = 1 ∨ c % 10 = 2 ∨ c % 10 = 3 ∨ c % 10 = 4 ∨ c % 10 = 5 ∨ c % 10 = 6 ∨ c % 10 = 7 ∨ c % 10 = 8 ∨ c % 10 = 9 := by omega
 rcases hc with h | h | h | h | h | h | h <;> rw [h]
 · exact ⟨_, atI_nat (j := 0) rfl, by unfold LB; decide +kernel, way5_at hne hg (by decide +kernel)⟩
 · exact ⟨_, atI_nat (j := 1) rfl, by unfold LB; decide +kernel, way5_at hne hg (by decide +kernel)⟩
 · refine ⟨_, atI_nat (j := 2) rfl, ?_, ?_⟩
   · rcases hd with e | e | e | e | e | e | e | e | e | e <;> rw [e] <;> unfold LB <;> decide +kernel
   · refine way5_at hne hg ?_
     rcases hd with e | e | e | e | e | e | e | e | e | e <;> rw [e] <;> decide +kernel
 · exact ⟨_, atI_nat (j := 3) rfl, by unfold LB; decide +kernel, way5_at hne hg (by decide +kernel)⟩
 · exact ⟨_, atI_nat (j := 4) rfl, by unfold LB; decide +kernel, way5_at hne hg (by decide +kernel)⟩
 · exact ⟨_, atI_nat (j := 5) rfl, by unfold LB; decide +kernel, way5_at hne hg (by decide +kernel)⟩
 · exact ⟨_, atI_nat (j := 6) rfl, by unfold LB; decide +kernel, way5_at hne hg (by decide +kernel)⟩
def w3 : List Str := ["; end", "; else", "; landing 0", "; while 0; else; end", "; try; end", "; if 0; end"]
def w5 : List Str := ["; keep 0", "; Set 0 1", "; fun", "; call", "; hand", "; set 0"]
def w6 : List Str := ["; set 0 1 2", "; give 1 2", "; try 1; landing 0; end", "; fun 1 1", "; else 1"]
def w9 : List Str := ["; while 0; fun 0; end", "; try; fun 0; landing 1; end", "; if 0; else; fun 1; end"]
theorem w_at {ws : List Str} {P : Str → Prop} (h : ∀ x ∈ ws, P x) {i : Int} (h0 : 0 ≤ i) (h1 : i < (ws.length : Int)) : ∃ x, atI (ws.map V.str) i = some (.str x) ∧ P x := by
 have hi : i.toNat < ws.length := by omega
 refine ⟨ws[i.toNat], ?_, h _ (List.getElem_mem hi)⟩
 rw [show atI (ws.map V.str) i = atI (ws.map V.str) ((i.toNat : Nat) : Int) from by rw [show ((i.toNat : Nat) : Int) = i by omega]]
 exact atI_nat (by rw [List.getElem?_map, List.getElem?_eq_getElem hi]; rfl)
theorem w3_in : ∀ x ∈ w3, LB x 40 ∧ ∃ y ∈ way3, y.1 = x := by unfold LB; decide +kernel
theorem w5_in : ∀ x ∈ w5, LB x 40 ∧ ∃ y ∈ way5, y.1 = x := by unfold LB; decide +kernel
theorem w6_in : ∀ x ∈ w6, LB x 40 ∧ ∃ y ∈ way5, y.1 = x := by unfold LB; decide +kernel
theorem w9_in : ∀ x ∈ w9, LB x 40 ∧ ∃ y ∈ way9, y.1 = x := by unfold LB; decide +kernel
theorem TxtL.pf {t : Str} {rs : List RD} {fs : List (Int × List Stm)} (h : TxtL t rs fs) : pF ((rowsP fs).length + 1) rs = some fs := by
 have k := pF_rows (hd := fs.map (·.1)) fs ((rowsP fs).length + 1) h.okl (Nat.lt_succ_self _)
 rw [← h.rp] at k
 rw [← h.rp]; exact k
theorem TxtL.w3 {t : Str} {rs : List RD} {fs : List (Int × List Stm)} (h : TxtL t rs fs) : ∀ x ∈ FB.w3, LB x 40 ∧ toldS (t ++ x) = "text" := fun x hx => by
 obtain ⟨l, y, hy, rfl⟩ := w3_in x hx
 exact ⟨l, by rw [h.tx]; exact way3_bad hy h.ne h.g h.pf⟩
theorem TxtL.w5 {t : Str} {rs : List RD} {fs : List (Int × List Stm)} (h : TxtL t rs fs) : ∀ x ∈ FB.w5, LB x 40 ∧ toldS (t ++ x) = "text" := fun x hx => by
 obtain ⟨l, y, hy, rfl⟩ := w5_in x hx
 exact ⟨l, by rw [h.tx]; exact way5_bad hy h.ne h.g⟩
theorem TxtL.w6 {t : Str} {rs : List RD} {fs : List (Int × List Stm)} (h : TxtL t rs fs) : ∀ x ∈ FB.w6, LB x 40 ∧ toldS (t ++ x) = "text" := fun x hx => by
 obtain ⟨l, y, hy, rfl⟩ := w6_in x hx
 exact ⟨l, by rw [h.tx]; exact way5_bad hy h.ne h.g⟩
theorem TxtL.w9 {t : Str} {rs : List RD} {fs : List (Int × List Stm)} (h : TxtL t rs fs) : ∀ x ∈ FB.w9, LB x 40 ∧ toldS (t ++ x) = "text" := fun x hx => by
 obtain ⟨l, y, hy, rfl⟩ := w9_in x hx
 exact ⟨l, by rw [h.tx]; exact way9_bad hy h.ne h.g h.pf⟩
theorem pl_at {ps : List Nat} (h : 0 < ps.length) (c : Int) : ∃ n ∈ ps, atI (ps.map fun (n : Nat) => V.int (n : Int)) (c % (ps.length : Int)) = some (.int (n : Int)) := by
 have h0 := Int.emod_nonneg c (show (ps.length : Int) ≠ 0 by omega)
 have h1 := Int.emod_lt_of_pos c (show (0 : Int) < (ps.length : Int) by omega)
 generalize c % (ps.length : Int) = i at *
 have hi : i.toNat < ps.length := by omega
 refine ⟨ps[i.toNat], List.getElem_mem hi, ?_⟩
 rw [show atI (ps.map fun (n : Nat) => V.int (n : Int)) i = atI (ps.map fun (n : Nat) => V.int (n : Int)) ((i.toNat : Nat) : Int) from by rw [show ((i.toNat : Nat) : Int) = i by omega]]
 exact atI_nat (by rw [List.getElem?_map, List.getElem?_eq_getElem hi]; rfl)
theorem TxtL.read {t : Str} {rs : List RD} {fs : List (Int × List Stm)} (h : TxtL t rs fs) : toldS t = "read" := by
 refine told_yes (fs := fs) (Nat.le_trans h.len (by decide)) ?_ h.ok h.okl
 rw [h.tx, read_rows h.ne h.g, h.rp]
end
theorem drop_cons {α : Type} {rs : List α} {k : Nat} {r : α} {t : List α} (h : rs.drop k = r :: t) : rs[k]? = some r ∧ rs.drop (k + 1) = t := by
 have h1 : (rs.drop k)[0]? = some r := by rw [h]; rfl
 rw [List.getElem?_drop] at h1
 refine ⟨h1, ?_⟩
 have h2 := congrArg (List.drop 1) h
 rw [List.drop_drop] at h2
 exact h2
theorem word_drop {rs : List RD} {k : Nat} {B : List RD} (h : rs.drop k = B) : wordAt rs k = wordAt B 0 := by
 unfold wordAt
 rw [← h, List.getElem?_drop]; rfl
theorem inV_strs (w : Str) : ∀ ts : List Str, inV (.str w) (ts.map V.str) = decide (w ∈ ts)
 | [] => rfl
 | t :: r => by
   have e : eqV (.str t) (.str w) = decide (t = w) := rfl
   have ih := inV_strs w r
   unfold inV at ih ⊢
   rw [List.map_cons, List.any_cons, ih, e]
   by_cases h : t = w
   · subst h; simp
   · have h2 : ¬ w = t := fun z => h z.symm
     simp [h, h2]
theorem inV_stop (w : Str) : inV (.str w) [.str "fun", .str "else", .str "landing", .str "end", .str ""] = decide (w ∈ stopW) := inV_strs w stopW
theorem PRt.put {a : Adr} {H : Hp} {x dx lr l : Addr} {fs : List (Str × V)} {k : Nat} {ps : List Addr} {rs : List RD} {us : List V} {o : HO} (h : PRt a H x dx lr fs k ps rs) (hl : H l = some (.lst us)) (nl : l ≠ x) (nr : l ≠ lr) : PRt a (upd H l o) x dx lr fs k ps rs :=
 ⟨by rw [upd_ne nl.symm]; exact h.obj, h.pf, by rw [upd_ne nr.symm]; exact h.lst, h.rows.mono fun p r e => by
   show (upd H l o) p = _
   rw [upd_ne (fun z => by have e : H p = _ := e; rw [z, hl] at e; cases e)]; exact e, h.few⟩
theorem nt_sub2 {x l : Addr} {H H1 H2 HF : Hp} {C dx : Addr} {f0 f1 : List (Str × V)} (k : KeepX x H H1) (h0 : H x = some (.ins C dx f0)) (h1 : H1 x = some (.ins C dx f1)) (k2 : KeepX x H1 H2) (k3 : KeepX x H2 HF) : Same (nt (upd H1 l (.lst [])) H2) (nt H HF) := by
 refine nt_sub (fun b o e1 e2 => ?_) (fun b xs e => ?_)
 · have nb := upd_none e1
   have nx : b ≠ x := fun z => by rw [z, h1] at nb; cases nb.1
   have hn : H b = none := by
     cases h : H b with
     | none => rfl
     | some o' => have := k b o' h nx; rw [nb.1] at this; cases this
   exact nt_new hn (k3 b o e2 nx)
 · have nl : b ≠ l := fun z => by rw [z, upd_same] at e; cases e
   rw [upd_ne nl] at e
   have nx : b ≠ x := fun z => by rw [z, h1] at e; cases e
   cases h : H b with
   | none => exact nt_new h (k3 _ _ (k2 _ _ e nx) nx)
   | some o =>
     have := k b o h nx
     rw [e] at this
     cases this
     exact nt_tup h
theorem nt_sub1 {x : Addr} {H H1 H2 HF : Hp} {C dx : Addr} {f0 f1 : List (Str × V)} (k : KeepX x H H1) (h0 : H x = some (.ins C dx f0)) (h1 : H1 x = some (.ins C dx f1)) (k2 : KeepX x H1 H2) (k3 : KeepX x H2 HF) : Same (nt H1 H2) (nt H HF) := by
 refine nt_sub (fun b o e1 e2 => ?_) (fun b xs e => ?_)
 · have nx : b ≠ x := fun z => by rw [z, h1] at e1; cases e1
   have hn : H b = none := by
     cases h : H b with
     | none => rfl
     | some o' => have := k b o' h nx; rw [e1] at this; cases this
   exact nt_new hn (k3 b o e2 nx)
 · have nx : b ≠ x := fun z => by rw [z, h1] at e; cases e
   cases h : H b with
   | none => exact nt_new h (k3 _ _ (k2 _ _ e nx) nx)
   | some o =>
     have := k b o h nx
     rw [e] at this
     cases this
     exact nt_tup h
theorem KeepX.none {x : Addr} {H H' : Hp} {o o' : HO} (k : KeepX x H H') (h : H x = some o) (h' : H' x = some o') {b : Addr} (e : H' b = none) : H b = none := keep_none k h h' e
theorem nt_to2 {x l l2 : Addr} {H1 H2 HF : Hp} {C dx : Addr} {f1 : List (Str × V)} {us : List V} (h1 : H1 x = some (.ins C dx f1)) (hl : H1 l = some (.lst us)) (k2 : KeepX x H1 H2) (k3 : ∀ b o, H2 b = some o → b ≠ l → b ≠ x → HF b = some o) : Same (nt (upd H1 l2 (.lst [])) H2) (hid l (hid x HF)) := fun b o h => by
 rcases nt_of h with ⟨e1, e2⟩ | ⟨xs, e, rfl⟩
 · have nb := upd_none e1
   have nx : b ≠ x := fun z => by rw [z, h1] at nb; cases nb.1
   have nl : b ≠ l := fun z => by rw [z, hl] at nb; cases nb.1
   exact hid_at (hid_at (k3 b o e2 nl nx) nx) nl
 · have n2 : b ≠ l2 := fun z => by rw [z, upd_same] at e; cases e
   rw [upd_ne n2] at e
   have nx : b ≠ x := fun z => by rw [z, h1] at e; cases e
   have nl : b ≠ l := fun z => by rw [z, hl] at e; cases e
   exact hid_at (hid_at (k3 b _ (k2 _ _ e nx) nl nx) nx) nl
theorem ok_is_number (T : Txt w K mg a) : FnE P w K mg base CX0 1 "is_number" spIsNumX := by
 refine fnE_of (sp := spIsNumX) 0 T.fn_is_number sc_is_number (fun vs H Q E h => ?_) (fun f cdv A outer s H vs Q E hr h => ?_)
 · obtain ⟨x, rfl, _⟩ := h
   rfl
 · obtain ⟨x, rfl, hl, q⟩ := h
   have hll : x.cps.toList.length ≤ 1500000 := hl
   have key : ∀ (σ0 : L2.St) (hσ : ∃ v, σ0 = [v]) (fin : List V → Hp → Prop), fin (x.cps.toList.map fun c => V.bl (decide (c ∈ FIGS))) H → CompW (Its x) (gName 0) tTrue (tOp rInS (tVar 0) (tC (V.str (Str.ofString "0123456789")))) fin σ0 H := by
     intro σ0 hσ fin hf
     refine comp_str (fun i ys σ H2 => (∃ v, σ = [v]) ∧ H2 = H ∧ ys = (x.cps.toList.take i).map fun c => V.bl (decide (c ∈ FIGS))) ⟨hσ, rfl, rfl⟩ (fun i ys σ H2 hi ⟨_, _, e⟩ => by rw [e, List.length_map, List.length_take, sizeLine_eq]; omega) ?_ ?_
     · rintro i d ys σ H2 hd ⟨⟨v, rfl⟩, rfl, rfl⟩
       walk_at "rd"
       refine ⟨d, _, rfl, rfl, ?_⟩
       exact ⟨⟨_, rfl⟩, rfl, by rw [List.take_add_one, hd, Option.toList_some, List.map_append]; rfl⟩
     · rintro ys σ H2 ⟨_, rfl, rfl⟩
       rw [List.take_length]
       exact hf
   have fin : ∀ p, H p = none → (1 ≤ x.cps.toList.length) → (x.cps.toList.length ≤ 10) → ¬ (x.cps.toList.head? = some 48 ∧ 1 < x.cps.toList.length) → rAll K [.ref p] (upd H p (.lst (x.cps.toList.map fun c => V.bl (decide (c ∈ FIGS))))) Q := fun p hp h1 h2 h3 => by
     refine r_all (bs := x.cps.toList.map fun c => decide (c ∈ FIGS)) (by rw [List.map_map]; exact SqL.of upd_same) ?_
     have e : (x.cps.toList.map fun c => decide (c ∈ FIGS)).all id = isNumT x := by
       unfold isNumT
       rw [decide_eq_true h1, decide_eq_true h2, List.all_map]
       have h4 : (x.cps.toList.head? == some 48 && decide (1 < x.cps.toList.length)) = false := by
         rw [Bool.and_eq_false_iff]
         by_cases hz : x.cps.toList.head? = some 48
         · exact .inr (decide_eq_false fun z => h3 ⟨hz, z⟩)
         · exact .inl (by simpa using hz)
       rw [h4]
       simp only [Bool.true_and, Bool.not_false]
       rfl
     rw [e]
     exact q _ (by walk_at "same")
   refine ⟨_, (pss_cons (ps_if (PW.pt (pw_or (pt_cmpR (op_eqK (K := K) rfl hr.units) (pv 0) pe_str (nomark _)) (pw_or1 (pt_cmpR op_gt (pe_callB (call_lenK (K := K) rfl) rfl T.z_len b_len (pa_cons (pv 0) pa_nil)) (pe_glob (v := .int 10) rfl T.g_MOST_FIGURES.choose_spec ⟨_, rfl⟩) (nomark _))))) (pss_one (ps_ret pe_bl)) pss_nil)
     (pss_cons (ps_if (PW.pt (pw_and (pt_cmpR (op_eqK (K := K) rfl hr.units) (pe_ix (ix_K (K := K) rfl) (pv 0) pe_int (fun _ _ => rfl)) pe_str (nomark _)) (pw_and1 (pt_cmpR (op_neK (K := K) rfl hr.units) (pv 0) pe_str (nomark _))))) (pss_one (ps_ret pe_bl)) pss_nil)
     (pss_one (ps_ret (pe_callB (call_allK (K := K) rfl rfl) rfl T.z_all b_all (pa_cons (pe_comp (own := ["sign"]) (fr := []) rfl ⟨rfl, (by walk_at "clok"), (by walk_at "frok"), rfl, (by decide +kernel), (by decide +kernel), rfl⟩ (pi_str (pv 0)) (fun _ _ _ _ => (pg_name (i := 0) (show List.Nodup [("sign" : Str)] from by decide +kernel) rfl (Or.inl rfl))) (fun _ _ _ _ => pts_nil) (fun _ _ _ _ => (pe_cmpR op_inS (pv 0) (pe_glob (v := .str "0123456789") rfl T.g_FIGURES.choose_spec ⟨_, rfl⟩) rfl))) pa_nil)))))), ?_⟩
   refine r_st (σ' := [some _]) rfl ?_
   walk_at "rd"
   refine ifStr (fun hh => ?_) (fun hne => ?_)
   · walk_at "rd"
     subst hh
     exact q H (Same.refl _)
   have hne2 : 1 ≤ x.cps.toList.length := by
     rcases Nat.eq_zero_or_pos x.cps.toList.length with z | z
     · exact absurd (str_eq (show x.cps.toList = ("" : Str).cps.toList from List.length_eq_zero_iff.mp z)) hne
     · exact z
   walk_at "rd"
   refine ⟨_, _, rfl, ⟨by rw [sizeLine_eq]; omega, rfl⟩, ?_⟩
   walk_at "rd"
   have hxl : x.length = x.cps.toList.length := rfl
   refine ifDec (fun hh => ?_) (fun hh => ?_)
   · walk_at "rd"
     have e : isNumT x = false := by unfold isNumT; rw [decide_eq_false (show ¬ x.cps.toList.length ≤ 10 by omega)]; simp
     have q1 := q H (Same.refl _)
     rw [e] at q1
     exact q1
   obtain ⟨c, r, hcr⟩ : ∃ c r, x.cps.toList = c :: r := List.exists_cons_of_length_pos hne2
   walk_at "rd"
   refine .inl (.inr (.inr ⟨_, 0, c, rfl, rfl, by rw [sizeLine_eq]; omega, by rw [hcr]; exact atI_nat (j := 0) rfl, ?_⟩))
   walk_at "rd"
   refine ifStr (fun hh2 => ?_) (fun hh2 => ?_)
   · have e48 : c = 48 := by
       have := congrArg (fun x : Str => x.cps.toList) hh2
       exact (List.cons.inj this).1
     subst e48
     walk_at "rd"
     refine ifStrN (fun h3 => ?_) (fun h3 => ?_)
     · walk_at "rd"
       have q1 := q H (Same.refl _)
       rw [isNumT_zero hcr h3] at q1
       exact q1
     · walk_at "rd"
       refine key _ ⟨_, rfl⟩ _ ?_
       intro p hp
       walk_at "rd"
       exact fin p hp hne2 (by omega) (fun z => by
         have z2 := z.2
         rw [h3] at z2
         exact absurd z2 (by decide))
   · walk_at "rd"
     refine key _ ⟨_, rfl⟩ _ ?_
     intro p hp
     walk_at "rd"
     exact fin p hp hne2 (by omega) (fun z => hh2 (str_eq (by
       have z1 := z.1
       rw [hcr] at z1
       cases z1
       rfl)))
theorem ok_is_whole (T : Txt w K mg a) : FnE P w K mg base CX0 1 "is_whole" spWhI := by
 refine fnE_of (sp := spWhI) 0 T.fn_is_whole sc_is_whole (fun vs H Q E h => ?_) (fun f cdv A outer s H vs Q E hr h => ?_)
 · obtain ⟨i, rfl, _⟩ := h
   rfl
 · obtain ⟨i, rfl, h0, q⟩ := h
   refine ⟨_, (pss_one (ps_ret (pe_and (pe_callB (call_isiK (K := K) rfl) rfl T.z_isinstance b_isinstance (pa_cons (pv 0) (pa_cons (pe_bltn (v := .ty "int") rfl T.z_int b_int rfl) pa_nil))) (pe_and (pe_not (pe_callB (call_isiK (K := K) rfl) rfl T.z_isinstance b_isinstance (pa_cons (pv 0) (pa_cons (pe_bltn (v := .ty "bool") rfl T.z_bool b_bool rfl) pa_nil)))) (pe_one (pe_cmpR op_ge (pv 0) pe_int (nomark _))))))), ?_⟩
   refine r_st (σ' := [some _]) rfl ?_
   walk_at "rd"
   rw [decide_eq_true h0]
   exact q
theorem ok_asked_for_text (T : Txt w K mg a) : FnE P w K mg base (CXR P w) 1 "asked_for_text" (spAskX a) := by
 refine fnX_of (sp := (spAskX a)) 0 T.fn_asked_for_text sc_asked_for_text (fun vs H Q E h => ?_) (fun f cdv A outer s H vs Q E hr h => ?_)
 · obtain ⟨v, rfl, _⟩ := h
   rfl
 · obtain ⟨v, rfl, h⟩ := h
   refine ⟨_, (pss_one (ps_if (PT.nox (pt_not (pt_truK (K := K) rfl (pe_callB (call_isiK (K := K) rfl) rfl T.z_isinstance b_isinstance (pa_cons (pv 0) (pa_cons (pe_bltn (v := .ty "str") rfl T.z_str b_str rfl) pa_nil)))))) (pss_one (ps_raise T.x_NoText rfl (pa_cons pe_str pa_nil))) pss_nil)), ?_⟩
   refine r_st (σ' := [some _]) rfl ?_
   rcases h with ⟨x, rfl, q⟩ | ⟨hn, e⟩
   · walk_at "rd"
     exact q
   · rcases hn with rfl | ⟨i, rfl⟩ | ⟨l, xs, rfl, hl⟩ | ⟨l, xs, rfl, hl⟩
     · walk_at "rd"
       exact ⟨by decide, e⟩
     · walk_at "rd"
       exact ⟨by decide, e⟩
     · walk_at "rd"
       exact ⟨by decide, e⟩
     · walk_at "rd"
       exact ⟨by decide, e⟩
theorem ok_lists_within (T : Txt w K mg a) : FnE P w K mg base CX0 1 "lists_within" spWithin := by
 refine fnE_of (sp := spWithin) 0 T.fn_lists_within sc_lists_within (fun vs H Q E h => ?_) (fun f cdv A outer s H vs Q E hr h => ?_)
 · obtain ⟨p, w', xs, ls, rfl, _⟩ := h
   rfl
 · obtain ⟨p, w', xs, ls, rfl, hp, kd, few, fil, q⟩ := h
   obtain ⟨kvs, C, hkv⟩ := parts_of T
   obtain ⟨qk, hqk, tk⟩ := hkv _ _ kd
   have hat0 := at_head (.str w') (xs.map (·.1))
   refine ⟨_, (pss_one (ps_ret (pe_comp (own := ["part", "kind"]) (fr := []) rfl ⟨rfl, (by walk_at "clok"), (by walk_at "frok"), rfl, (by decide +kernel), (by decide +kernel), rfl⟩ (pi_zip2 (K := K) rfl rfl T.z_zip (pa_cons (pe_slice (sl_K (K := K) rfl) (pv 0) (po_some pe_int) po_none) (pa_cons (pe_rget (w := w) (K := K) rfl rfl (pe_glob (v := .ref a.G_PARTS) rfl T.s_PARTS rfl) (pe_ix (ix_K (K := K) rfl) (pv 0) pe_int (fun _ _ => rfl)) (fun _ _ => rfl)) pa_nil))) (fun _ _ _ _ => (pg_tupK (K := K) (n := 2) rfl rfl (pgs_cons (pg_name (i := 0) (show List.Nodup [("part" : Str), ("kind" : Str)] from by decide +kernel) rfl (Or.inl rfl)) (pgs_cons (pg_name (i := 1) (show List.Nodup [("part" : Str), ("kind" : Str)] from by decide +kernel) rfl (Or.inl rfl)) pgs_nil)))) (fun _ _ _ _ => (pts_one (pt_cmpR (op_eqK (K := K) rfl hr.units) (pv 1) pe_str (nomark _)))) (fun _ _ _ _ => (pv 0))))), ?_⟩
   refine r_st (σ' := [some _]) rfl ?_
   walk_at "rd"
   refine r_slT (SqT.of hp) (cut_tail_neV _ _) fun ls' nls => ?_
   rw [cut_tailV]
   have hp1 := look_new (o := .tup (xs.map (·.1))) hp nls
   walk_at "rd"
   refine ⟨_, _, rfl, C, ?_⟩
   walk_at "rd"
   refine ⟨_, .ref qk, rfl, hqk, ?_⟩
   walk_at "rd"
   refine ⟨ls', qk, _, _, rfl, SqT.of upd_same, tk _, ?_⟩
   have e2 : ∀ H, SqT K H qk (xs.map fun p => .str p.2) := fun H => by have := tk H; rw [List.map_map] at this; exact this
   refine comp_filZ (α := V × Str) (xs := xs) (e1 := fun p => p.1) (e2 := fun p => .str p.2) (fun p => p.1) (fun x => decide (x.2 = ("statements" : Str))) (fun σ => ∃ u v, σ = [u, v]) (SqT.of upd_same) (e2 _) (by walk_at "small") ⟨_, _, rfl⟩ ?_ ?_
   · rintro i ⟨zz, k⟩ ys σ H1 T' hx cc s1 ⟨u, v', rfl⟩ nT
     refine r_gTup (SqT.of upd_same) rfl ?_
     show gCons _ _ [zz, .str k] _ _ _
     walk_at "rd"
     by_cases hk : k = "statements"
     · rw [decide_eq_true (congrArg V.str hk)]
       walk_at "rd"
       exact cc.yes hx (decide_eq_true hk) rfl (s1.trans (same_new nT)) ⟨_, _, rfl⟩
     · rw [decide_eq_false (fun z => hk (V.str.inj z))]
       walk_at "rd"
       exact cc.no hx (decide_eq_false hk) (s1.trans (same_new nT)) ⟨_, _, rfl⟩
   intro H1 s1 l2 nl2
   exact q l2 _ ((same_new nls).trans (s1.trans (same_new nl2))) (by rw [← fil]; exact upd_same) (none_same ((same_new (o := .tup (xs.map (·.1))) nls).trans s1) nl2)
theorem ok_has_count (T : Txt w K mg a) : FnE P w K mg base CX0 1 "has_count" spHasX := by
 refine fnE_of (sp := spHasX) 0 T.fn_has_count sc_has_count (fun vs H Q E h => ?_) (fun f cdv A outer s H vs Q E hr h => ?_)
 · obtain ⟨x, k, rfl, _⟩ := h
   rfl
 · obtain ⟨x, k, rfl, q⟩ := h
   refine ⟨_, (pss_cons (ps_if (pt_cmpR (op_inC rfl rfl) (pv 0) (pe_glob (v := .ref a.G_AHEAD_OF_NAMES) rfl T.s_AHEAD_OF_NAMES rfl) rfl) (pss_one (ps_ret (pe_cmpR op_ge (pv 1) (pe_cget rfl rfl (pe_glob (v := .ref a.G_AHEAD_OF_NAMES) rfl T.s_AHEAD_OF_NAMES rfl) (pv 0) (fun _ _ => rfl)) (nomark _)))) pss_nil)
     (pss_one (ps_ret (pe_and (pe_cmpR (op_inC rfl rfl) (pv 0) (pe_glob (v := .ref a.G_COUNTS) rfl T.s_COUNTS rfl) rfl) (pe_one (pe_cmpR (op_eqK (K := K) rfl hr.units) (pv 1) (pe_cget rfl rfl (pe_glob (v := .ref a.G_COUNTS) rfl T.s_COUNTS rfl) (pv 0) (fun _ _ => rfl)) (nomark _))))))), ?_⟩
   refine r_st (σ' := [some _, some _]) rfl ?_
   walk_at "rq"
   rcases hasN_c x k with ⟨rfl, e⟩ | ⟨rfl, e⟩ | ⟨ha, ⟨n, hc, e⟩ | ⟨hc, e⟩⟩
   · rw [e] at q
     refine r_inCY T.d_AHEAD_OF_NAMES rfl ?_
     walk_at "rq"
     refine r_cGet ?_
     walk_at "rq"
     refine r_cgetV T.d_AHEAD_OF_NAMES rfl ?_
     walk_at "rq"
     rw [show decide ((2 : Int) ≤ (k : Int)) = decide (2 ≤ k) from by rw [decide_eq_decide]; omega]
     exact q
   · rw [e] at q
     refine r_inCY T.d_AHEAD_OF_NAMES rfl ?_
     walk_at "rq"
     refine r_cGet ?_
     walk_at "rq"
     refine r_cgetV T.d_AHEAD_OF_NAMES rfl ?_
     walk_at "rq"
     rw [show decide ((1 : Int) ≤ (k : Int)) = decide (1 ≤ k) from by rw [decide_eq_decide]; omega]
     exact q
   · rw [e] at q
     refine r_inCN T.d_AHEAD_OF_NAMES ha ?_
     walk_at "rq"
     refine r_inCY T.d_COUNTS hc ?_
     walk_at "rq"
     refine r_cGet ?_
     walk_at "rq"
     refine r_cgetV T.d_COUNTS hc ?_
     walk_at "rq"
     rw [show decide (V.int (k : Int) = V.int (n : Int)) = decide (k = n) from by rw [decide_eq_decide]; exact ⟨fun z => by injection z with z; omega, fun z => by rw [z]⟩]
     exact q
   · rw [e] at q
     refine r_inCN T.d_AHEAD_OF_NAMES ha ?_
     walk_at "rq"
     refine r_inCN T.d_COUNTS hc ?_
     walk_at "rq"
     exact q
theorem ok_plain_statement (T : Txt w K mg a) : FnE P w K mg base CX0 1 "plain_statement" spPlainX := by
 refine fnE_of (sp := spPlainX) 0 T.fn_plain_statement sc_plain_statement (fun vs H Q E h => ?_) (fun f cdv A outer s H vs Q E hr h => ?_)
 · obtain ⟨p, s', r, rfl, _⟩ := h
   rfl
 · obtain ⟨p, s', r, rfl, hp, hpl, hN, q⟩ := h
   refine ⟨_, (pss_cons (ps_if (pt_cmpR (op_notInC rfl rfl) (pe_ix (ix_K (K := K) rfl) (pv 0) pe_int (fun _ _ => rfl)) (pe_glob (v := .ref a.G_AHEAD_OF_NAMES) rfl T.s_AHEAD_OF_NAMES rfl) rfl) (pss_one (ps_ret (pv 0))) pss_nil)
     (pss_cons (ps_set (i := 1) sc_plain_statement.nd rfl (Or.inl rfl) (pe_op (op_plusK (K := K) rfl) pe_int (pe_cget rfl rfl (pe_glob (v := .ref a.G_AHEAD_OF_NAMES) rfl T.s_AHEAD_OF_NAMES rfl) (pe_ix (ix_K (K := K) rfl) (pv 0) pe_int (fun _ _ => rfl)) (fun _ _ => rfl))))
     (pss_one (ps_ret (pe_op (op_plusK (K := K) rfl) (pe_slice (sl_XK (K := K) rfl) (pv 0) po_none (po_some (pv 1))) (pe_tup (pa_cons (pe_callTy (call_listK (K := K) rfl) rfl T.z_list b_list (pa_cons (pe_slice (sl_XK (K := K) rfl) (pv 0) (po_some (pv 1)) po_none) pa_nil)) pa_nil))))))), ?_⟩
   refine r_st (σ' := [some _, none]) rfl ?_
   cases plain_c hpl hN.ct with
   | set x v =>
     have hp : H p = some (.tup [.str "set", .int x, .int v]) := hp
     walk_at "rq"
     refine r_nCN T.d_AHEAD_OF_NAMES rfl ?_
     walk_at "rq"
     exact q p _ (Same.refl _) (fun d => nt_tup hp)
   | copy x y =>
     have hp : H p = some (.tup [.str "copy", .int x, .int y]) := hp
     walk_at "rq"
     refine r_nCN T.d_AHEAD_OF_NAMES rfl ?_
     walk_at "rq"
     exact q p _ (Same.refl _) (fun d => nt_tup hp)
   | sum x y z =>
     have hp : H p = some (.tup [.str "sum", .int x, .int y, .int z]) := hp
     walk_at "rq"
     refine r_nCN T.d_AHEAD_OF_NAMES rfl ?_
     walk_at "rq"
     exact q p _ (Same.refl _) (fun d => nt_tup hp)
   | minus x y z =>
     have hp : H p = some (.tup [.str "minus", .int x, .int y, .int z]) := hp
     walk_at "rq"
     refine r_nCN T.d_AHEAD_OF_NAMES rfl ?_
     walk_at "rq"
     exact q p _ (Same.refl _) (fun d => nt_tup hp)
   | product x y z =>
     have hp : H p = some (.tup [.str "product", .int x, .int y, .int z]) := hp
     walk_at "rq"
     refine r_nCN T.d_AHEAD_OF_NAMES rfl ?_
     walk_at "rq"
     exact q p _ (Same.refl _) (fun d => nt_tup hp)
   | less x y z =>
     have hp : H p = some (.tup [.str "less", .int x, .int y, .int z]) := hp
     walk_at "rq"
     refine r_nCN T.d_AHEAD_OF_NAMES rfl ?_
     walk_at "rq"
     exact q p _ (Same.refl _) (fun d => nt_tup hp)
   | give x =>
     have hp : H p = some (.tup [.str "give", .int x]) := hp
     walk_at "rq"
     refine r_nCN T.d_AHEAD_OF_NAMES rfl ?_
     walk_at "rq"
     exact q p _ (Same.refl _) (fun d => nt_tup hp)
   | drop x =>
     have hp : H p = some (.tup [.str "drop", .int x]) := hp
     walk_at "rq"
     refine r_nCN T.d_AHEAD_OF_NAMES rfl ?_
     walk_at "rq"
     exact q p _ (Same.refl _) (fun d => nt_tup hp)
   | call x f' ns =>
     have hp : H p = some (.tup (.str "call" :: .int x :: .int f' :: ns.map V.int)) := hp
     have hat := at_head (.str "call") (.int x :: .int f' :: ns.map V.int)
     have h3 : ns.length ≤ 8002 := by have := hN.few; simp only [List.length_cons] at this; omega
     walk_at "rq"
     refine r_nCY T.d_AHEAD_OF_NAMES rfl ?_
     walk_at "rq"
     refine r_cGet ?_
     walk_at "rq"
     refine r_cgetV T.d_AHEAD_OF_NAMES rfl ?_
     walk_at "rq"
     refine r_headT (k := 3) (SqT.of hp) (by simp only [List.length_cons]; omega) (fun hk => ?_) (fun l nl => ?_)
     · have hns : ns = [] := List.length_eq_zero_iff.mp (by simp only [List.length_cons, List.length_map] at hk; omega)
       subst hns
       walk_at "rq"
       refine r_tailT (k := 3) (SqT.of hp) (Nat.le_refl _) (by decide) (fun l2 nl2 => ?_)
       walk_at "rq"
       refine r_listT (SqT.of upd_same) fun l3 nl3 => ?_
       walk_at "rq"
       rename_i l4 nl4
       refine r_plusT (SqT.of (look_new (look_new (look_new hp nl2) nl3) nl4)) (SqT.of upd_same) (by simp) (by simp) (Nat.le_of_ble_eq_true rfl) fun t nt => ?_
       have nl3' : H l3 = none := (upd_none nl3).1
       have nt' : H t = none := (upd_none (upd_none (upd_none nt).1).1).1
       exact q t _ (((same_new nl2).trans (same_new nl3)).trans ((same_new nl4).trans (same_new nt))) (fun d => ⟨l3, nt_new nt' upd_same, nt_new nl3' (look_new (look_new upd_same nl4) nt)⟩)
     · walk_at "rq"
       have hp1 := look_new (o := .tup ((.str "call" :: .int x :: .int f' :: ns.map V.int).take 3)) hp nl
       refine r_tailT (k := 3) (SqT.of hp1) (by simp only [List.length_cons]; omega) (by decide) (fun l2 nl2 => ?_)
       walk_at "rq"
       refine r_listT (SqT.of upd_same) fun l3 nl3 => ?_
       walk_at "rq"
       rename_i l4 nl4
       refine r_plusT (SqT.of (look_new (look_new (look_new (upd_same) nl2) nl3) nl4)) (SqT.of upd_same) (by simp) (by simp) (by rw [sizeLine_eq]; simp) fun t nt => ?_
       have nl3' : H l3 = none := (upd_none (upd_none nl3).1).1
       have nt' : H t = none := (upd_none (upd_none (upd_none (upd_none nt).1).1).1).1
       exact q t _ ((((same_new nl).trans (same_new nl2)).trans (same_new nl3)).trans ((same_new nl4).trans (same_new nt))) (fun d => ⟨l3, nt_new nt' upd_same, nt_new nl3' (look_new (look_new upd_same nl4) nt)⟩)
   | hand f' ns =>
     have hp : H p = some (.tup (.str "hand" :: .int f' :: ns.map V.int)) := hp
     have hat := at_head (.str "hand") (.int f' :: ns.map V.int)
     have h3 : ns.length ≤ 8002 := by have := hN.few; simp only [List.length_cons] at this; omega
     walk_at "rq"
     refine r_nCY T.d_AHEAD_OF_NAMES rfl ?_
     walk_at "rq"
     refine r_cGet ?_
     walk_at "rq"
     refine r_cgetV T.d_AHEAD_OF_NAMES rfl ?_
     walk_at "rq"
     refine r_headT (k := 2) (SqT.of hp) (by simp only [List.length_cons]; omega) (fun hk => ?_) (fun l nl => ?_)
     · have hns : ns = [] := List.length_eq_zero_iff.mp (by simp only [List.length_cons, List.length_map] at hk; omega)
       subst hns
       walk_at "rq"
       refine r_tailT (k := 2) (SqT.of hp) (Nat.le_refl _) (by decide) (fun l2 nl2 => ?_)
       walk_at "rq"
       refine r_listT (SqT.of upd_same) fun l3 nl3 => ?_
       walk_at "rq"
       rename_i l4 nl4
       refine r_plusT (SqT.of (look_new (look_new (look_new hp nl2) nl3) nl4)) (SqT.of upd_same) (by simp) (by simp) (Nat.le_of_ble_eq_true rfl) fun t nt => ?_
       have nl3' : H l3 = none := (upd_none nl3).1
       have nt' : H t = none := (upd_none (upd_none (upd_none nt).1).1).1
       exact q t _ (((same_new nl2).trans (same_new nl3)).trans ((same_new nl4).trans (same_new nt))) (fun d => ⟨l3, nt_new nt' upd_same, nt_new nl3' (look_new (look_new upd_same nl4) nt)⟩)
     · walk_at "rq"
       have hp1 := look_new (o := .tup ((.str "hand" :: .int f' :: ns.map V.int).take 2)) hp nl
       refine r_tailT (k := 2) (SqT.of hp1) (by simp only [List.length_cons]; omega) (by decide) (fun l2 nl2 => ?_)
       walk_at "rq"
       refine r_listT (SqT.of upd_same) fun l3 nl3 => ?_
       walk_at "rq"
       rename_i l4 nl4
       refine r_plusT (SqT.of (look_new (look_new (look_new (upd_same) nl2) nl3) nl4)) (SqT.of upd_same) (by simp) (by simp) (by rw [sizeLine_eq]; simp) fun t nt => ?_
       have nl3' : H l3 = none := (upd_none (upd_none nl3).1).1
       have nt' : H t = none := (upd_none (upd_none (upd_none (upd_none nt).1).1).1).1
       exact q t _ ((((same_new nl).trans (same_new nl2)).trans (same_new nl3)).trans ((same_new nl4).trans (same_new nt))) (fun d => ⟨l3, nt_new nt' upd_same, nt_new nl3' (look_new (look_new upd_same nl4) nt)⟩)
theorem mk_ProgramRows (T : Txt w K mg a) : MkE P w K mg base CX0 1 "ProgramRows" a.C_ProgramRows (spPRI a) := by
 refine mkE_of (sp := (spPRI a)) 0 T.c_ProgramRows T.i_ProgramRows sc_ProgramRows_init (fun vs H Q E h => ?_) (fun f cdv A outer s H vs Q E hr h => ?_)
 · obtain ⟨x, dx, lr, rfl, _⟩ := h
   rfl
 · obtain ⟨x, dx, lr, rfl, hx, q⟩ := h
   refine ⟨_, (pss_cons (ps_fldK (K := K) rfl (pv 0) (pv 1))
     (pss_one (ps_fldK (K := K) rfl (pv 0) pe_int))), ?_⟩
   refine r_st (σ' := [some _, some _]) rfl ?_
   walk_at "rd"
   refine q _ _ (fun b o h1 h2 => ?_) upd_same ⟨by walk_at "lk", by walk_at "lk", ?_, ?_⟩
   · walk_at "hlk"
   · exact Nat.le_of_lt_succ (by walk_at "fewf")
   · intro y hy
     refine look_no (fun e => by subst e; revert hy; decide +kernel) (look_no (fun e => by subst e; revert hy; decide +kernel) rfl)
theorem me_ProgramRows_next_word (T : Txt w K mg a)  : MethE P w K mg base CX0 1 a.C_ProgramRows "next_word" (spNext a) := by
 refine methE_of (sp := (spNext a)) 0 T.cl_ProgramRows T.m_ProgramRows_next_word sc_ProgramRows_next_word (fun vs H Q E h => ?_) (fun f cdv A outer s H vs Q E hr h => ?_)
 · obtain ⟨x, dx, lr, fs, k, ps, rs, rfl, _⟩ := h
   rfl
 · obtain ⟨x, dx, lr, fs, k, ps, rs, rfl, R, q⟩ := h
   have hx := R.obj
   have f1 := R.pf.rows
   have f2 := R.pf.mark
   have hlr := R.lst
   have hpl := R.rows.1
   refine ⟨_, (pss_one (ps_ret (pe_ifExp (pt_cmpR op_lt (pe_fldK (K := K) rfl (pv 0)) (pe_callB (call_lenK (K := K) rfl) rfl T.z_len b_len (pa_cons (pe_fldK (K := K) rfl (pv 0)) pa_nil)) (nomark _)) (pe_ix (ix_K (K := K) rfl) (pe_ix (ix_K (K := K) rfl) (pe_fldK (K := K) rfl (pv 0)) (pe_fldK (K := K) rfl (pv 0)) (fun _ _ => rfl)) pe_int (fun _ _ => rfl)) pe_str))), ?_⟩
   refine r_st (σ' := [some _]) rfl ?_
   by_cases hk : k < rs.length
   · have hrk : rs[k]? = some rs[k] := List.getElem?_eq_getElem hk
     obtain ⟨p, hpk, hp⟩ := R.at hrk
     have hw : wordAt rs k = rs[k].1 := by unfold wordAt; rw [hrk]
     rw [hw] at q
     generalize rs[k] = r at hrk hp q
     have hp : H p = some (.tup (.str r.1 :: r.2.map V.int)) := hp
     have hat : atI (ps.map V.ref) (k : Int) = some (.ref p) := atI_nat (by rw [List.getElem?_map, hpk]; rfl)
     have hat2 := at_head (.str r.1) (r.2.map V.int)
     walk_at "rq"
     refine r_lenL (SqL.of hlr) ?_
     rw [List.length_map, hpl]
     walk_at "rq"
     exact q
   · have hw : wordAt rs k = "" := by unfold wordAt; rw [List.getElem?_eq_none (by omega)]
     rw [hw] at q
     walk_at "rq"
     refine r_lenL (SqL.of hlr) ?_
     rw [List.length_map, hpl]
     walk_at "rq"
     exact q
theorem ok_law_cell_at (T : Txt w K mg a) : FnE P w K mg base CX0 1 "_law_cell_at" (spCellAt K) := by
 refine fnE_of (sp := (spCellAt K)) 0 T.fn_law_cell_at sc_law_cell_at (fun vs H Q E h => ?_) (fun f cdv A outer s H vs Q E hr h => ?_)
 · obtain ⟨p, ns, k, rfl, _⟩ := h
   rfl
 · obtain ⟨p, ns, k, rfl, hS, h0, q⟩ := h
   refine ⟨_, (pss_cons (ps_if (pt_cmpR op_lt (pv 1) (pe_callB (call_lenK (K := K) rfl) rfl T.z_len b_len (pa_cons (pv 0) pa_nil)) (nomark _)) (pss_one (ps_ret (pe_ix (ix_K (K := K) rfl) (pv 0) (pv 1) (fun _ _ => rfl)))) pss_nil)
     (pss_one (ps_ret pe_int))), ?_⟩
   refine r_st (σ' := [some _, some _]) rfl ?_
   walk_at "rd"
   refine ifDec (fun hh => ?_) (fun hh => ?_)
   · walk_at "rd"
     exact q
   · walk_at "rd"
     have e := cellAt_out h0 hh
     rw [e] at q
     exact q
end
section
variable {P : Program} {w : World} {K : PySem.W.Frag} {mg : Str → Option Value} {base : Heap} {a : Adr}
local macro_rules | `(tactic| walk_at "lb") => `(tactic| first | with_reducible assumption | with_reducible exact LBlit | (with_reducible exact LBapp (by walk_at "lb") (by walk_at "lb")))
local macro_rules | `(tactic| walk_at "lc") => `(tactic| (with_reducible exact LBle (by walk_at "lb") (by decide +kernel)))
local macro_rules | `(tactic| walk_at "rp") => `(tactic| (walk_at "rq"; repeat (((with_reducible refine' r_plusS ?zs ?_); (case zs => exact LB2 (by walk_at "lb") (by walk_at "lb") (by decide +kernel))); walk_at "rq")))
theorem ok_law_row (T : Txt w K mg a) : FnE P w K mg base CX0 1 "_law_row" spRowX := by
 refine fnE_of (sp := spRowX) 0 T.fn_law_row sc_law_row (fun vs H Q E h => ?_) (fun f cdv A outer s H vs Q E hr h => ?_)
 · obtain ⟨c, rfl, _⟩ := h
   rfl
 · obtain ⟨c, rfl, q⟩ := h
   refine ⟨_, (pss_cons (ps_set (i := 1) sc_law_row.nd rfl (Or.inl rfl) (pe_callTy call_str_int rfl T.z_str b_str (pa_cons (pe_op op_mod (pv 0) pe_int) pa_nil)))
     (pss_cons (ps_set (i := 2) sc_law_row.nd rfl (Or.inl rfl) (pe_callTy call_str_int rfl T.z_str b_str (pa_cons (pe_op op_mod (pe_op op_fdiv (pv 0) pe_int) pe_int) pa_nil)))
     (pss_cons (ps_set (i := 3) sc_law_row.nd rfl (Or.inl rfl) (pe_lst (pa_cons (pe_op (op_plusK (K := K) rfl) (pe_op (op_plusK (K := K) rfl) (pe_op (op_plusK (K := K) rfl) pe_str (pv 1)) pe_str) (pe_callTy call_str_int rfl T.z_str b_str (pa_cons (pe_op op_mod (pe_op op_fdiv (pv 0) pe_int) pe_int) pa_nil))) (pa_cons (pe_op (op_plusK (K := K) rfl) (pe_op (op_plusK (K := K) rfl) (pe_op (op_plusK (K := K) rfl) pe_str (pv 1)) pe_str) (pv 2)) (pa_cons (pe_op (op_plusK (K := K) rfl) (pe_op (op_plusK (K := K) rfl) (pe_op (op_plusK (K := K) rfl) (pe_op (op_plusK (K := K) rfl) pe_str (pv 1)) pe_str) (pv 2)) pe_str) pa_nil)))))
     (pss_cons (ps_set (i := 3) sc_law_row.nd rfl (Or.inl rfl) (pe_op (op_plusK (K := K) rfl) (pv 3) (pe_lst (pa_cons (pe_op (op_plusK (K := K) rfl) (pe_op (op_plusK (K := K) rfl) (pe_op (op_plusK (K := K) rfl) pe_str (pv 1)) pe_str) (pv 2)) (pa_cons (pe_op (op_plusK (K := K) rfl) (pe_op (op_plusK (K := K) rfl) (pe_op (op_plusK (K := K) rfl) pe_str (pv 1)) pe_str) (pv 2)) (pa_cons (pe_op (op_plusK (K := K) rfl) (pe_op (op_plusK (K := K) rfl) (pe_op (op_plusK (K := K) rfl) (pe_op (op_plusK (K := K) rfl) pe_str (pv 1)) pe_str) (pv 2)) pe_str) pa_nil))))))
     (pss_cons (ps_set (i := 3) sc_law_row.nd rfl (Or.inl rfl) (pe_op (op_plusK (K := K) rfl) (pv 3) (pe_lst (pa_cons (pe_op (op_plusK (K := K) rfl) pe_str (pv 1)) (pa_cons (pe_op (op_plusK (K := K) rfl) pe_str (pv 2)) (pa_cons (pe_op (op_plusK (K := K) rfl) (pe_op (op_plusK (K := K) rfl) (pe_op (op_plusK (K := K) rfl) pe_str (pv 1)) pe_str) (pv 2)) (pa_cons (pe_op (op_plusK (K := K) rfl) pe_str (pv 1)) pa_nil)))))))
     (pss_one (ps_ret (pe_ix (ix_K (K := K) rfl) (pv 3) (pe_op op_mod (pe_op op_fdiv (pv 0) pe_int) pe_int) (fun _ _ => rfl))))))))), ?_⟩
   refine r_st (σ' := [some _, none, none, none]) rfl ?_
   walk_at "rq"
   refine ⟨log_num (by omega) (by omega), ?_⟩
   obtain ⟨X, hX, LX⟩ : ∃ X, X = numS (c % 6) ∧ LB X 10 := ⟨_, rfl, LBnum (by omega) (by omega)⟩
   rw [show Str.ofString (toString (c % 6)) = X from hX.symm]
   walk_at "rq"
   refine ⟨log_num (by omega) (by omega), ?_⟩
   obtain ⟨Y, hY, LY⟩ : ∃ X, X = numS (c / 6 % 6) ∧ LB X 10 := ⟨_, rfl, LBnum (by omega) (by omega)⟩
   rw [show Str.ofString (toString (c / 6 % 6)) = Y from hY.symm]
   walk_at "rp"
   refine ⟨log_num (by omega) (by omega), ?_⟩
   obtain ⟨Z, hZ, LZ⟩ : ∃ X, X = numS (c / 36 % 4294967296) ∧ LB X 10 := ⟨_, rfl, LBnum (by omega) (by omega)⟩
   rw [show Str.ofString (toString (c / 36 % 4294967296)) = Z from hZ.symm]
   walk_at "rp"
   obtain ⟨r, s', hat, hr'⟩ := row_at hX hY hZ
   refine r_ixL (SqL.of upd_same) hat ?_
   exact q r s' _ (by walk_at "same") hr'
end
section
variable {P : Program} {w : World} {K : PySem.W.Frag} {mg : Str → Option Value} {base : Heap} {a : Adr}
local macro_rules | `(tactic| walk_at "lb") => `(tactic| first | with_reducible assumption | with_reducible exact LBlit | (with_reducible exact LBapp (by walk_at "lb") (by walk_at "lb")))
local macro_rules | `(tactic| walk_at "lc") => `(tactic| (with_reducible exact LBle (by walk_at "lb") (by decide +kernel)))
local macro_rules | `(tactic| walk_at "rp") => `(tactic| (walk_at "rq"; repeat (((with_reducible refine' r_plusS ?zs ?_); (case zs => exact LB2 (by walk_at "lb") (by walk_at "lb") (by decide +kernel))); walk_at "rq")))
theorem ok_law_blocked (T : Txt w K mg a) : FnE P w K mg base CX0 1 "_law_blocked" spBlkX := by
 refine fnE_of (sp := spBlkX) 0 T.fn_law_blocked sc_law_blocked (fun vs H Q E h => ?_) (fun f cdv A outer s H vs Q E hr h => ?_)
 · obtain ⟨c, r, s', rfl, _⟩ := h
   rfl
 · obtain ⟨c, r, s', rfl, hr', q⟩ := h
   refine ⟨_, (pss_cons (ps_set (i := 2) sc_law_blocked.nd rfl (Or.inl rfl) (pe_callTy call_str_int rfl T.z_str b_str (pa_cons (pe_op op_mod (pe_op op_fdiv (pv 1) pe_int) pe_int) pa_nil)))
     (pss_cons (ps_if (pt_cmpR (op_eqK (K := K) rfl hr.units) (pe_op op_mod (pv 1) pe_int) pe_int (nomark _)) (pss_one (ps_ret (pe_op (op_plusK (K := K) rfl) (pe_op (op_plusK (K := K) rfl) (pe_op (op_plusK (K := K) rfl) (pe_op (op_plusK (K := K) rfl) (pe_op (op_plusK (K := K) rfl) (pe_op (op_plusK (K := K) rfl) pe_str (pv 2)) pe_str) (pv 0)) pe_str) (pv 0)) pe_str))) pss_nil)
     (pss_cons (ps_if (pt_cmpR (op_eqK (K := K) rfl hr.units) (pe_op op_mod (pv 1) pe_int) pe_int (nomark _)) (pss_one (ps_ret (pe_op (op_plusK (K := K) rfl) (pe_op (op_plusK (K := K) rfl) (pe_op (op_plusK (K := K) rfl) (pe_op (op_plusK (K := K) rfl) pe_str (pv 2)) pe_str) (pv 0)) pe_str))) pss_nil)
     (pss_cons (ps_if (pt_cmpR (op_eqK (K := K) rfl hr.units) (pe_op op_mod (pv 1) pe_int) pe_int (nomark _)) (pss_one (ps_ret (pe_op (op_plusK (K := K) rfl) (pe_op (op_plusK (K := K) rfl) (pe_op (op_plusK (K := K) rfl) (pe_op (op_plusK (K := K) rfl) (pe_op (op_plusK (K := K) rfl) (pe_op (op_plusK (K := K) rfl) pe_str (pv 0)) pe_str) (pv 2)) pe_str) (pv 0)) pe_str))) pss_nil)
     (pss_one (ps_ret (pv 0))))))), ?_⟩
   refine r_st (σ' := [some _, some _, none]) rfl ?_
   have LR := hr'.len
   have hx : isN (c / 4 % 6) := ⟨by omega, by omega⟩
   have hq0 := q _ _ H (Same.refl _) (blk_0 hr')
   have hq1 := q _ _ H (Same.refl _) (blk_if hr' hx)
   have hq2 := q _ _ H (Same.refl _) (blk_while hr' hx)
   have hq3 := q _ _ H (Same.refl _) (blk_try hr' hx)
   rw [tx_0] at hq0
   rw [tx_if] at hq1
   rw [tx_while] at hq2
   rw [tx_try] at hq3
   have LX : LB (numS (c / 4 % 6)) 1 := LB1 hx
   walk_at "rq"
   refine ⟨log_num (by omega) (by omega), ?_⟩
   rw [show Str.ofString (toString (c / 4 % 6)) = numS (c / 4 % 6) from rfl]
   generalize numS (c / 4 % 6) = X at *
   clear hx q hr'
   have hc : c % 4 = 0 ∨ c % 4 = 1 ∨ c % 4 = 2 ∨ c % 4 = 3 := by omega
   rcases hc with h | h | h | h
   · walk_at "rp"
     exact hq0
   · walk_at "rp"
     exact hq1
   · walk_at "rp"
     exact hq2
   · walk_at "rp"
     exact hq3
end
section
variable {P : Program} {w : World} {K : PySem.W.Frag} {mg : Str → Option Value} {base : Heap} {a : Adr}
local macro_rules | `(tactic| walk_at "lb") => `(tactic| first | with_reducible assumption | with_reducible exact LBlit | (with_reducible exact LBapp (by walk_at "lb") (by walk_at "lb")))
local macro_rules | `(tactic| walk_at "lc") => `(tactic| (with_reducible exact LBle (by walk_at "lb") (by decide +kernel)))
local macro_rules | `(tactic| walk_at "rp") => `(tactic| (walk_at "rq"; repeat (((with_reducible refine' r_plusS ?zs ?_); (case zs => exact LB2 (by walk_at "lb") (by walk_at "lb") (by decide +kernel))); walk_at "rq")))
theorem ok_law_places (T : Txt w K mg a) : FnE P w K mg base CX0 1 "_law_places" spPlcX := by
 refine fnE_of (sp := spPlcX) 0 T.fn_law_places sc_law_places (fun vs H Q E h => ?_) (fun f cdv A outer s H vs Q E hr h => ?_)
 · obtain ⟨t, rfl, _⟩ := h
   rfl
 · obtain ⟨t, rfl, hl, q⟩ := h
   have hl : t.length ≤ 4000 := hl
   have hl2 : t.cps.toList.length ≤ 4000 := hl
   refine ⟨_, (pss_one (ps_ret (pe_comp (own := ["_law_k"]) (fr := [("_law_text_here", 0), ("_law_sign", 1)]) rfl ⟨rfl, (by walk_at "clok"), (by walk_at "frok"), rfl, (by decide +kernel), (by decide +kernel), rfl⟩ (pi_range1 rfl T.z_range (pa_cons (pe_callB (call_lenK (K := K) rfl) rfl T.z_len b_len (pa_cons (pv 0) pa_nil)) pa_nil)) (fun _ _ _ _ => (pg_name (i := 0) (show List.Nodup [("_law_k" : Str), ("_law_text_here" : Str), ("_law_sign" : Str)] from by decide +kernel) rfl (Or.inl rfl))) (fun _ _ _ _ => (pts_one (pt_cmpR (op_eqK (K := K) rfl hr.units) (pe_ix (ix_K (K := K) rfl) (pv 1) (pv 0) (fun _ _ => rfl)) (pv 2) (nomark _)))) (fun _ _ _ _ => (pv 0))))), ?_⟩
   refine r_st (σ' := [some _, some _]) rfl ?_
   walk_at "rq"
   refine ⟨_, _, rfl, ⟨by rw [sizeLine_eq]; omega, rfl⟩, ?_⟩
   walk_at "rq"
   refine comp_filR (fun i => .int (i : Int)) (fun i => decide (t.cps.toList[i]? = some 32)) (fun σ => ∃ v, σ = [v, some (.str t), some (.str " ")]) (by rw [sizeLine_eq]; omega) ⟨_, rfl⟩ ?_ ?_
   · rintro i ys σ H1 hi cc s1 ⟨v, rfl⟩
     have hi2 : i < t.length := by omega
     have hi3 : i < t.cps.toList.length := hi2
     have hget : t.cps.toList[i]? = some t.cps.toList[i] := List.getElem?_eq_getElem hi3
     have hrg : (List.range ((t.length : Int)).toNat)[i]? = some i := List.getElem?_range hi
     generalize t.cps.toList[i] = ch at hget
     walk_at "rq"
     refine .inl (.inr (.inr ⟨_, _, ch, rfl, rfl, by rw [sizeLine_eq]; omega, by rw [show (0 : Int) + (i : Int) = (i : Int) by omega]; exact atI_nat hget, ?_⟩))
     walk_at "rq"
     refine ifStr (fun hc => ?_) (fun hc => ?_)
     · have e32 : ch = 32 := (List.cons.inj (congrArg (fun x : Str => x.cps.toList) hc)).1
       walk_at "rq"
       exact cc.yes hrg (decide_eq_true (by rw [hget, e32])) (by rw [show (0 : Int) + (i : Int) = (i : Int) by omega]) s1 ⟨_, rfl⟩
     · walk_at "rq"
       exact cc.no hrg (decide_eq_false (fun z => hc (by rw [hget] at z; injection z with z; rw [z]; rfl))) s1 ⟨_, rfl⟩
   intro H1 s1 l nl
   refine q l _ _ (s1.trans (same_new nl)) upd_same (fun n hn => of_decide_eq_true (List.mem_filter.mp hn).2) (fun h32 => ?_) (Nat.le_trans (List.length_filter_le _ _) (by rw [List.length_range]; omega))
   obtain ⟨i, hi, e⟩ := List.getElem_of_mem h32
   have hi2 : i < t.length := hi
   have hm : i ∈ (List.range ((t.length : Int)).toNat).filter fun i => decide (t.cps.toList[i]? = some 32) := List.mem_filter.mpr ⟨List.mem_range.mpr (by omega), decide_eq_true (by rw [List.getElem?_eq_getElem hi, e])⟩
   exact List.ne_nil_of_mem hm
end
section
variable {P : Program} {w : World} {K : PySem.W.Frag} {mg : Str → Option Value} {base : Heap} {a : Adr}
local macro_rules | `(tactic| walk_at "lb") => `(tactic| first | with_reducible assumption | with_reducible exact LBlit | (with_reducible exact LBapp (by walk_at "lb") (by walk_at "lb")))
local macro_rules | `(tactic| walk_at "lc") => `(tactic| (with_reducible exact LBle (by walk_at "lb") (by decide +kernel)))
local macro_rules | `(tactic| walk_at "rp") => `(tactic| (walk_at "rq"; repeat (((with_reducible refine' r_plusS ?zs ?_); (case zs => exact LB2 (by walk_at "lb") (by walk_at "lb") (by decide +kernel))); walk_at "rq")))
theorem ok_law_without_end (T : Txt w K mg a) : FnE P w K mg base CX0 1 "_law_without_end" spWoX := by
 refine fnE_of (sp := spWoX) 0 T.fn_law_without_end sc_law_without_end (fun vs H Q E h => ?_) (fun f cdv A outer s H vs Q E hr h => ?_)
 · obtain ⟨t, rs, fs, rfl, _⟩ := h
   rfl
 · obtain ⟨t, rs, fs, rfl, hT, q⟩ := h
   have LT := hT.len
   have hg := hT.g
   have hpf := hT.pf
   obtain rfl := hT.tx
   refine ⟨_, (pss_cons (ps_ifEnd (j := 0) rfl (Or.inl rfl) (by decide +kernel) (by decide +kernel) (by decide +kernel))
     (pss_one (ps_ret (pe_op (op_plusK (K := K) rfl) (pv 0) pe_str)))), ?_⟩
   refine r_st (σ' := [some _]) rfl ?_
   walk_at "rp"
   refine ⟨_, rfl, Nat.le_trans LT (by decide), fun _ => ?_, fun p hp => ?_⟩
   · walk_at "rp"
     exact q _ _ (Same.refl _) (way3_bad (x := ("; while 0", [rd "while" [0]])) (by simp [way3]) hT.ne hg hpf) (by walk_at "lc")
   · obtain ⟨c1, c2⟩ := cut_one hp
     refine q _ _ (Same.refl _) (told_2 hg hpf (p := p) (m := (textR rs).cps.toList.drop (p + (Str.ofString "; end").length)) (by rw [c1]; rfl) c2) ?_
     have e := congrArg List.length c2
     rw [List.length_append, List.length_take, List.length_drop] at e
     have LT2 : (textR rs).cps.toList.length ≤ 4000 := LT
     exact Nat.le_trans (Nat.le_of_eq e) (by have : (Str.ofString "; end").length = 5 := by decide +kernel
                                             omega)
end
section
variable {P : Program} {w : World} {K : PySem.W.Frag} {mg : Str → Option Value} {base : Heap} {a : Adr}
local macro_rules | `(tactic| walk_at "lb") => `(tactic| first | with_reducible assumption | with_reducible exact LBlit | (with_reducible exact LBapp (by walk_at "lb") (by walk_at "lb")))
local macro_rules | `(tactic| walk_at "lc") => `(tactic| (with_reducible exact LBle (by walk_at "lb") (by decide +kernel)))
local macro_rules | `(tactic| walk_at "rp") => `(tactic| (walk_at "rq"; repeat (((with_reducible refine' r_plusS ?zs ?_); (case zs => exact LB2 (by walk_at "lb") (by walk_at "lb") (by decide +kernel))); walk_at "rq")))
theorem ok_law_numbered (T : Txt w K mg a) : FnE P w K mg base CX0 1 "_law_numbered" spNumX := by
 refine fnE_of (sp := spNumX) 0 T.fn_law_numbered sc_law_numbered (fun vs H Q E h => ?_) (fun f cdv A outer s H vs Q E hr h => ?_)
 · obtain ⟨t, rs, fs, c, rfl, _⟩ := h
   rfl
 · obtain ⟨t, rs, fs, c, rfl, hT, q⟩ := h
   have LT := hT.len
   have LD : LB (numS (c % 10)) 1 := LB1' (by omega) (by omega)
   refine ⟨_, (pss_cons (ps_set (i := 2) sc_law_numbered.nd rfl (Or.inl rfl) (pe_ix (ix_K (K := K) rfl) (pe_lst (pa_cons pe_str (pa_cons pe_str (pa_cons (pe_op (op_plusK (K := K) rfl) pe_str (pe_callTy call_str_int rfl T.z_str b_str (pa_cons (pe_op op_mod (pv 1) pe_int) pa_nil))) (pa_cons pe_str (pa_cons pe_str (pa_cons pe_str (pa_cons pe_str pa_nil)))))))) (pe_op op_mod (pe_op op_fdiv (pv 1) pe_int) pe_int) (fun _ _ => rfl)))
     (pss_one (ps_ret (pe_op (op_plusK (K := K) rfl) (pe_op (op_plusK (K := K) rfl) (pv 0) pe_str) (pv 2))))), ?_⟩
   refine r_st (σ' := [some _, some _, none]) rfl ?_
   walk_at "rp"
   refine ⟨log_num (by omega) (by omega), ?_⟩
   rw [show Str.ofString (toString (c % 10)) = numS (c % 10) from rfl]
   obtain ⟨N, hat, LN, hN⟩ := num_at hT.ne hT.g c
   obtain rfl := hT.tx
   walk_at "rp"
   rename_i l1 n1
   exact q _ _ (same_new n1) hN (by walk_at "lc")
end
section
variable {P : Program} {w : World} {K : PySem.W.Frag} {mg : Str → Option Value} {base : Heap} {a : Adr}
local macro_rules | `(tactic| walk_at "lb") => `(tactic| first | with_reducible assumption | with_reducible exact LBlit | (with_reducible exact LBapp (by walk_at "lb") (by walk_at "lb")))
local macro_rules | `(tactic| walk_at "lc") => `(tactic| (with_reducible exact LBle (by walk_at "lb") (by decide +kernel)))
local macro_rules | `(tactic| walk_at "rp") => `(tactic| (walk_at "rq"; repeat (((with_reducible refine' r_plusS ?zs ?_); (case zs => exact LB2 (by walk_at "lb") (by walk_at "lb") (by decide +kernel))); walk_at "rq")))
theorem ok_law_no_program (T : Txt w K mg a) : FnE P w K mg base CX0 1 "_law_no_program" spNpX := by
 refine fnE_of (sp := spNpX) 0 T.fn_law_no_program sc_law_no_program (fun vs H Q E h => ?_) (fun f cdv A outer s H vs Q E hr h => ?_)
 · obtain ⟨i, n, rfl, _⟩ := h
   rfl
 · obtain ⟨i, n, rfl, h0, h1, n0, n1, q⟩ := h
   refine ⟨_, (pss_cons (ps_if (pt_cmpR (op_eqK (K := K) rfl hr.units) (pv 0) pe_int (nomark _)) (pss_one (ps_ret pe_str)) pss_nil)
     (pss_cons (ps_if (pt_cmpR (op_eqK (K := K) rfl hr.units) (pv 0) pe_int (nomark _)) (pss_one (ps_ret (pe_op (op_plusK (K := K) rfl) pe_str (pe_callTy call_str_int rfl T.z_str b_str (pa_cons (pv 1) pa_nil))))) pss_nil)
     (pss_cons (ps_if (pt_cmpR (op_eqK (K := K) rfl hr.units) (pv 0) pe_int (nomark _)) (pss_one (ps_ret (pe_op (op_plusK (K := K) rfl) (pe_op (op_plusK (K := K) rfl) pe_str (pe_callTy call_str_int rfl T.z_str b_str (pa_cons (pe_op (op_plusK (K := K) rfl) pe_int (pv 1)) pa_nil))) pe_str))) pss_nil)
     (pss_cons (ps_if (pt_cmpR (op_eqK (K := K) rfl hr.units) (pv 0) pe_int (nomark _)) (pss_one (ps_ret pe_str)) pss_nil)
     (pss_cons (ps_if (pt_cmpR (op_eqK (K := K) rfl hr.units) (pv 0) pe_int (nomark _)) (pss_one (ps_ret (pe_op (op_plusK (K := K) rfl) pe_str (pe_callTy call_str_int rfl T.z_str b_str (pa_cons (pe_op (op_plusK (K := K) rfl) pe_int (pv 1)) pa_nil))))) pss_nil)
     (pss_cons (ps_if (pt_cmpR (op_eqK (K := K) rfl hr.units) (pv 0) pe_int (nomark _)) (pss_one (ps_ret pe_str)) pss_nil)
     (pss_cons (ps_if (pt_cmpR (op_eqK (K := K) rfl hr.units) (pv 0) pe_int (nomark _)) (pss_one (ps_ret (pe_op (op_plusK (K := K) rfl) pe_str (pe_op op_repS pe_str pe_int)))) pss_nil)
     (pss_cons (ps_if (pt_cmpR (op_eqK (K := K) rfl hr.units) (pv 0) pe_int (nomark _)) (pss_one (ps_ret (pe_op (op_plusK (K := K) rfl) pe_str (pe_op op_repS pe_str pe_int)))) pss_nil)
     (pss_cons (ps_if (pt_cmpR (op_eqK (K := K) rfl hr.units) (pv 0) pe_int (nomark _)) (pss_one (ps_ret (pe_op (op_plusK (K := K) rfl) (pe_op (op_plusK (K := K) rfl) pe_str (pe_op op_repS pe_str pe_int)) (pe_op op_repS pe_str pe_int)))) pss_nil)
     (pss_one (ps_ret pe_str))))))))))), ?_⟩
   refine r_st (σ' := [some _, some _]) rfl ?_
   have L0 : LB (numS n) 10 := LBnum n0 (by omega)
   have L1 : LB (numS (1 + n)) 10 := LBnum (by omega) (by omega)
   have L2 : LB (numS (4294967296 + n)) 10 := LBnum (by omega) (by omega)
   have R1 : LB (repT 81 (Str.ofString "; give 0")) 700 := by rw [repT_S]; exact Nat.le_trans (Nat.le_of_eq (repS_len _ _)) (by decide +kernel)
   have R2 : LB (repT 8 (Str.ofString "; fun 0")) 700 := by rw [repT_S]; exact Nat.le_trans (Nat.le_of_eq (repS_len _ _)) (by decide +kernel)
   have R3 : LB (repT 40 (Str.ofString "; while 0")) 700 := by rw [repT_S]; exact Nat.le_trans (Nat.le_of_eq (repS_len _ _)) (by decide +kernel)
   have R4 : LB (repT 40 (Str.ofString "; end")) 700 := by rw [repT_S]; exact Nat.le_trans (Nat.le_of_eq (repS_len _ _)) (by decide +kernel)
   have q' : ∀ t', toldS t' = "program" → LB t' 5000 → Q (.str t') H := fun t' e l => q t' H (Same.refl _) e l
   clear q
   have hc : i = 0 ∨ i = 1 ∨ i = 2 ∨ i = 3 ∨ i = 4 ∨ i = 5 ∨ i = 6 ∨ i = 7 ∨ i = 8 ∨ i = 9 := by omega
   rcases hc with h | h | h | h | h | h | h | h | h | h
   · walk_at "rp"
     exact q' _ told_n0 (by walk_at "lc")
   · walk_at "rp"
     refine ⟨log_num (by omega) (by omega), ?_⟩
     rw [show Str.ofString (toString n) = numS n from rfl]
     walk_at "rp"
     exact q' _ (told_n1 n0 n1) (by walk_at "lc")
   · walk_at "rp"
     refine ⟨log_num (by omega) (by omega), ?_⟩
     rw [show Str.ofString (toString (1 + n)) = numS (1 + n) from rfl]
     walk_at "rp"
     exact q' _ (told_n2 n0 n1) (by walk_at "lc")
   · walk_at "rp"
     exact q' _ told_n3 (by walk_at "lc")
   · walk_at "rp"
     refine ⟨log_num (by omega) (by omega), ?_⟩
     rw [show Str.ofString (toString (4294967296 + n)) = numS (4294967296 + n) from rfl]
     walk_at "rp"
     exact q' _ (told_n4 n0 n1) (by walk_at "lc")
   · walk_at "rp"
     exact q' _ told_n5 (by walk_at "lc")
   · walk_at "rp"
     refine ⟨_, _, rfl, rfl, by decide, by decide, by decide +kernel, by decide +kernel, ?_⟩
     rw [show (81 : Int).toNat = 81 from rfl]
     walk_at "rp"
     exact q' _ (by rw [repT_S]; exact told_6) (by walk_at "lc")
   · walk_at "rp"
     refine ⟨_, _, rfl, rfl, by decide, by decide, by decide +kernel, by decide +kernel, ?_⟩
     rw [show (8 : Int).toNat = 8 from rfl]
     walk_at "rp"
     exact q' _ (by rw [repT_S]; exact told_70) (by walk_at "lc")
   · walk_at "rp"
     exact q' _ told_n8 (by walk_at "lc")
   · walk_at "rp"
     refine ⟨_, _, rfl, rfl, by decide, by decide, by decide +kernel, by decide +kernel, ?_⟩
     rw [show (40 : Int).toNat = 40 from rfl]
     walk_at "rp"
     refine ⟨_, _, rfl, rfl, by decide, by decide, by decide +kernel, by decide +kernel, ?_⟩
     rw [show (40 : Int).toNat = 40 from rfl]
     walk_at "rp"
     exact q' _ (by rw [repT_S, repT_S]; exact told_90) (by walk_at "lc")
end
section
variable {P : Program} {w : World} {K : PySem.W.Frag} {mg : Str → Option Value} {base : Heap} {a : Adr}
theorem ok_read_number (T : Txt w K mg a) : FnE P w K mg base (CXR P w) 2 "read_number" (spReadNumX a) := by
 refine fnX_of (sp := (spReadNumX a)) 1 T.fn_read_number sc_read_number (fun vs H Q E h => ?_) (fun f cdv A outer s H vs Q E hr h => ?_)
 · obtain ⟨x, rfl, _⟩ := h
   rfl
 · obtain ⟨x, rfl, hl, q, e⟩ := h
   refine ⟨_, (pss_cons (ps_if (PT.nox (pt_not (pt_truK (K := K) rfl (pe_callE (ok_is_number (K := K) T) (hr.mono (by decide)) pass0 rfl (pa_cons (pv 0) pa_nil))))) (pss_one (ps_raise T.x_NoText rfl (pa_cons pe_str pa_nil))) pss_nil)
     (pss_one (PS.nox (ps_ret (pe_callTy call_intT rfl T.z_int b_int (pa_cons (pv 0) pa_nil)))))), ?_⟩
   refine r_st (σ' := [some _]) rfl ?_
   walk_at "rd"
   refine ⟨x, rfl, hl, fun H1 s1 => ?_⟩
   cases hb : isNumT x with
   | true =>
     obtain ⟨h1, h2⟩ := numT_reads hb
     walk_at "rd"
     refine ⟨_, _, rfl, h1, by omega, q _ (by unfold numT; rw [if_pos hb]) _ s1⟩
   | false =>
     walk_at "rd"
     exact ⟨by decide, e (by unfold numT; rw [if_neg (by rw [hb]; decide)]) _ s1⟩
theorem ok_is_up_to (T : Txt w K mg a) : FnE P w K mg base CX0 2 "is_up_to" spUpX := by
 refine fnE_of (sp := spUpX) 1 T.fn_is_up_to sc_is_up_to (fun vs H Q E h => ?_) (fun f cdv A outer s H vs Q E hr h => ?_)
 · obtain ⟨i, t, rfl, _⟩ := h
   rfl
 · obtain ⟨i, t, rfl, h0, q⟩ := h
   rw [upB_nn h0] at q
   refine ⟨_, (pss_one (ps_ret (pe_and (pe_callE (ok_is_whole (K := K) T) (hr.mono (by decide)) pass0 rfl (pa_cons (pv 0) pa_nil)) (pe_one (pe_cmpR op_le (pv 0) (pv 1) (nomark _)))))), ?_⟩
   refine r_st (σ' := [some _, some _]) rfl ?_
   walk_at "rd"
   refine ⟨_, rfl, h0, ?_⟩
   walk_at "rd"
   exact q
theorem me_ProgramRows_take_row (T : Txt w K mg a)  : MethE P w K mg base (CXR P w) 2 a.C_ProgramRows "take_row" (spTakeX a) := by
 refine methX_of (sp := (spTakeX a)) 1 T.cl_ProgramRows T.m_ProgramRows_take_row sc_ProgramRows_take_row (fun vs H Q E h => ?_) (fun f cdv A outer s H vs Q E hr h => ?_)
 · obtain ⟨x, dx, lr, fs, k, ps, rs, w', rfl, _⟩ := h
   rfl
 · obtain ⟨x, dx, lr, fs, k, ps, rs, w', rfl, R, e, q⟩ := h
   have hx := R.obj
   have f1 := R.pf.rows
   have f2 := R.pf.mark
   have f3 := R.pf.len
   have hlr := R.lst
   refine ⟨_, (pss_cons (ps_if (PT.nox (pt_cmpR (op_neK (K := K) rfl hr.units) (pe_methK0 (P := P) (w := w) (K := K) (mg := mg) (base := base) (k := 1) ⟨rfl, rfl, rfl, rfl, rfl⟩ (pv 0) (hr.mono (by decide)) pass0) (pv 1) (nomark _))) (pss_one (ps_raise T.x_NoText rfl (pa_cons (pe_fst2S (pv 1)) pa_nil))) pss_nil)
     (pss_cons (PS.nox (ps_fldK (K := K) rfl (pv 0) (pe_op (op_plusK (K := K) rfl) (pe_fldK (K := K) rfl (pv 0)) pe_int)))
     (pss_one (PS.nox (ps_ret (pe_ix (ix_K (K := K) rfl) (pe_fldK (K := K) rfl (pv 0)) (pe_op op_sub (pe_fldK (K := K) rfl (pv 0)) pe_int) (fun _ _ => rfl))))))), ?_⟩
   refine r_st (σ' := [some _, some _]) rfl ?_
   walk_at "rq"
   refine r_methV hx (R.pf.no _ (by decide +kernel)) ((me_ProgramRows_next_word T).mono (by decide)) ?_
   walk_at "rq"
   refine ⟨x, dx, lr, fs, k, ps, rs, rfl, R, ?_⟩
   walk_at "rq"
   refine ifStrN (fun hw => ?_) (fun hw => ?_)
   · obtain ⟨e1, e2⟩ := e hw
     walk_at "rq"
     refine r_fst2S (t := w') ?_
     walk_at "rq"
     exact ⟨by omega, by show 1 ≤ 1000; decide, e2⟩
   obtain ⟨hne, q⟩ := q hw
   obtain ⟨r, hr', er⟩ : ∃ r, rs[k]? = some r ∧ r.1 = w' := by
     unfold wordAt at hw
     cases z : rs[k]? with
     | none => rw [z] at hw; exact absurd hw.symm hne
     | some r => rw [z] at hw; exact ⟨r, rfl, hw⟩
   obtain ⟨p, hpk, hp⟩ := R.at hr'
   have hat : atI (ps.map V.ref) ((k : Int) + 1 - 1) = some (.ref p) := by
     rw [show (k : Int) + 1 - 1 = (k : Int) by omega]
     exact atI_nat (by rw [List.getElem?_map, hpk]; rfl)
   have nlx : lr ≠ x := fun z => by rw [z, hx] at hlr; cases hlr
   walk_at "rq"
   refine r_sFldV hx T.cl_ProgramRows T.n_ProgramRows_mark (by omega) ?_
   walk_at "rq"
   have kp : KeepX x H (upd H x (.ins a.C_ProgramRows dx (putF "mark" (.int ((k : Int) + 1)) fs))) := fun b o e n => by rw [upd_ne n]; exact e
   have R2 := R.keep (k' := k + 1) kp upd_same (by rw [show ((k + 1 : Nat) : Int) = (k : Int) + 1 by omega]; exact R.pf.setMark _)
   refine q r p _ _ hr' er hpk kp (fun b e => ?_) R2 ?_
   · have nb : b ≠ x := fun z => by rw [z, hx] at e; cases e
     rw [upd_ne nb]; exact e
   · obtain ⟨p2, e2, h2⟩ := R2.at hr'
     rw [hpk] at e2
     cases e2
     exact h2
end
section
variable {P : Program} {w : World} {K : PySem.W.Frag} {mg : Str → Option Value} {base : Heap} {a : Adr}
local macro_rules | `(tactic| walk_at "lb") => `(tactic| first | with_reducible assumption | with_reducible exact LBlit | (with_reducible exact LBapp (by walk_at "lb") (by walk_at "lb")))
local macro_rules | `(tactic| walk_at "lc") => `(tactic| (with_reducible exact LBle (by walk_at "lb") (by decide +kernel)))
local macro_rules | `(tactic| walk_at "rp") => `(tactic| (walk_at "rq"; repeat (((with_reducible refine' r_plusS ?zs ?_); (case zs => exact LB2 (by walk_at "lb") (by walk_at "lb") (by decide +kernel))); walk_at "rq")))
theorem ok_law_text (T : Txt w K mg a) : FnE P w K mg base CX0 2 "_law_text" (spTxtX K) := by
 refine fnE_of (sp := (spTxtX K)) 1 T.fn_law_text sc_law_text (fun vs H Q E h => ?_) (fun f cdv A outer s H vs Q E hr h => ?_)
 · obtain ⟨a0, ns, rfl, _⟩ := h
   rfl
 · obtain ⟨a0, ns, rfl, hS, q⟩ := h
   refine ⟨_, (pss_cons (ps_set (i := 1) sc_law_text.nd rfl (Or.inl rfl) (pe_lst (pa_cons pe_str pa_nil)))
     (pss_cons (ps_for PassesOwn.never rfl (pi_range2 rfl T.z_range (pa_cons pe_int (pa_cons (pe_op (op_plusK (K := K) rfl) pe_int (pe_op op_mod (pe_callE (ok_law_cell_at (K := K) T) (hr.mono (by decide)) pass0 rfl (pa_cons (pv 0) (pa_cons pe_int pa_nil))) pe_int)) pa_nil))) (pg_name (i := 2) sc_law_text.nd rfl (Or.inl rfl)) (pss_one (ps_expr (pe_bmK (K := K) rfl PySem.F.plainAttrs_list PySem.F.slot_list_append PySem.F.type_list_append mt_append (pv 1) (pa_cons (pe_callE (ok_law_blocked (K := K) T) (hr.mono (by decide)) pass0 rfl (pa_cons (pe_callE (ok_law_row (K := K) T) (hr.mono (by decide)) pass0 rfl (pa_cons (pe_callE (ok_law_cell_at (K := K) T) (hr.mono (by decide)) pass0 rfl (pa_cons (pv 0) (pa_cons (pe_op op_times pe_int (pv 2)) pa_nil))) pa_nil)) (pa_cons (pe_callE (ok_law_cell_at (K := K) T) (hr.mono (by decide)) pass0 rfl (pa_cons (pv 0) (pa_cons (pe_op (op_plusK (K := K) rfl) (pe_op op_times pe_int (pv 2)) pe_int) pa_nil))) pa_nil))) pa_nil)))))
     (pss_cons (ps_for PassesOwn.never rfl (pi_range1 rfl T.z_range (pa_cons (pe_op op_mod (pe_op op_fdiv (pe_callE (ok_law_cell_at (K := K) T) (hr.mono (by decide)) pass0 rfl (pa_cons (pv 0) (pa_cons pe_int pa_nil))) pe_int) pe_int) pa_nil)) (pg_name (i := 2) sc_law_text.nd rfl (Or.inl rfl)) (pss_one (ps_set (i := 1) sc_law_text.nd rfl (Or.inl rfl) (pe_op (op_plusK (K := K) rfl) (pv 1) (pe_lst (pa_cons (pe_op (op_plusK (K := K) rfl) pe_str (pe_callTy call_str_int rfl T.z_str b_str (pa_cons (pv 2) pa_nil))) (pa_cons (pe_callE (ok_law_blocked (K := K) T) (hr.mono (by decide)) pass0 rfl (pa_cons (pe_callE (ok_law_row (K := K) T) (hr.mono (by decide)) pass0 rfl (pa_cons (pe_callE (ok_law_cell_at (K := K) T) (hr.mono (by decide)) pass0 rfl (pa_cons (pv 0) (pa_cons (pe_op (op_plusK (K := K) rfl) pe_int (pv 2)) pa_nil))) pa_nil)) (pa_cons (pv 2) pa_nil))) pa_nil)))))))
     (pss_one (ps_ret (pe_bmK (K := K) rfl PySem.F.plainAttrs_str PySem.F.slot_str_join PySem.F.type_str_join (mt_join (K := K) rfl) pe_str (pa_cons (pv 1) pa_nil))))))), ?_⟩
   refine r_st (σ' := [some _, none, none]) rfl ?_
   walk_at "rq"
   rename_i l nl
   refine ⟨4, 4 + cellAt ns 3 % 5, rfl, ⟨by omega, by omega, by omega, by omega⟩, ?_⟩
   refine for_range (fun i σ H1 => (∃ u, σ = [some (.ref a0), some (.ref l), u]) ∧ Same H H1 ∧ ∃ B : List Bk, B.length = i ∧ (∀ b ∈ B, BlkL b.1 b.2) ∧ H1 l = some (.lst ((rssB B []).map txV))) ⟨⟨_, rfl⟩, same_new nl, [], rfl, (fun b hb => by cases hb), by rw [upd_same]; exact congrArg (fun z => some (HO.lst [V.str z])) (show ("fun 1" : Str) = textR [rd "fun" [1]] from by decide +kernel)⟩ ?_ ?_
   · rintro i σ H1 hi ⟨⟨u, rfl⟩, s1, B, hBl, hB, hl⟩
     have hS1 := SqL_sm s1 hS
     walk_at "rq"
     refine ⟨_, rfl, fun r s' H2 s2 hr' => ?_⟩
     have hS2 := SqL_sm s2 hS1
     walk_at "rq"
     refine ⟨_, r, s', rfl, hr', fun rs s2' H3 s3 hb => ?_⟩
     have hl3 := s3 _ _ (s2 _ _ hl)
     have s13 := s1.trans (s2.trans s3)
     clear s1 s2 s3 hS1 hS2 hl
     have hlen : ((rssB B []).map txV).length ≤ 100 := by
       rw [List.length_map]; show (B.map (·.1) ++ rssC []).length + 1 ≤ 100
       rw [List.length_append, List.length_map, rssC_len, List.length_nil]; omega
     walk_at "rq"
     refine ⟨⟨_, rfl⟩, fun b o e => by rw [upd_ne (ne_of_none e nl)]; exact s13 b o e, B ++ [(rs, s2')], by rw [List.length_append, hBl]; rfl, fun b hb' => ?_, by rw [upd_same, rssB_snocB]⟩
     rcases List.mem_append.mp hb' with z | z
     · exact hB b z
     · rw [List.mem_singleton.mp z]; exact hb
   rintro σ H1 ⟨⟨u, rfl⟩, s1, B, hBl, hB, hl⟩
   have hS1 := SqL_sm s1 hS
   have hB4 : B.length ≤ 4 := by omega
   clear nl hBl
   walk_at "rq"
   refine for_range (fun i σ H2 => Same H H2 ∧ ∃ (l' : Addr) (u : Option V) (C : List (Int × Bk)), σ = [some (.ref a0), some (.ref l'), u] ∧ C.length = i ∧ (∀ c ∈ C, BlkL c.2.1 c.2.2) ∧ (∀ c ∈ C, 0 ≤ c.1 ∧ c.1 ≤ 3) ∧ H2 l' = some (.lst ((rssB B C).map txV))) ⟨s1, l, _, [], rfl, rfl, (fun c hc => by cases hc), (fun c hc => by cases hc), hl⟩ ?_ ?_
   · rintro i σ H2 hi ⟨s2, l', u2, C, rfl, hCl, hC, hCn, hl2⟩
     have hS2 := SqL_sm s2 hS
     have hi3 : i < 4 := by omega
     have LK : LB (numS (0 + (i : Int))) 1 := LB1 ⟨by omega, by omega⟩
     walk_at "rq"
     refine ⟨log_num (by omega) (by omega), ?_⟩
     rw [show Str.ofString (toString (0 + (i : Int))) = numS (0 + (i : Int)) from rfl]
     walk_at "rp"
     refine ⟨_, rfl, fun r s' H3 s3 hr' => ?_⟩
     walk_at "rq"
     refine ⟨_, r, s', rfl, hr', fun rs s2' H4 s4 hb => ?_⟩
     have hl4 := s4 _ _ (s3 _ _ hl2)
     have s14 := s2.trans (s3.trans s4)
     clear s2 s3 s4 hS2 hl2 s1 hl hS1
     have hlen : ((rssB B C).map txV).length ≤ 100 := by
       rw [List.length_map]; show (B.map (·.1) ++ rssC C).length + 1 ≤ 100
       rw [List.length_append, List.length_map, rssC_len]; omega
     have efn : Str.ofString "fun " ++ numS (0 + (i : Int)) = textR [rd "fun" [0 + (i : Int)]] := (fun_l (by omega) (by omega)).1.symm
     rw [efn]
     walk_at "rq"
     rename_i l5 n5
     refine r_plusL (look_new hl4 n5) upd_same (by rw [sizeLine_eq]; show _ + 2 ≤ _; omega) fun l6 n6 => ?_
     walk_at "rq"
     refine ⟨s14.trans ((same_new n5).trans (same_new n6)), l6, _, C ++ [(0 + (i : Int), (rs, s2'))], rfl, by rw [List.length_append, hCl]; rfl, fun c hc => ?_, fun c hc => ?_, by rw [upd_same, rssB_snocC]⟩
     · rcases List.mem_append.mp hc with z | z
       · exact hC c z
       · rw [List.mem_singleton.mp z]; exact hb
     · rcases List.mem_append.mp hc with z | z
       · exact hCn c z
       · rw [List.mem_singleton.mp z]; exact ⟨by show 0 ≤ 0 + (i : Int); omega, by show 0 + (i : Int) ≤ 3; omega⟩
   rintro σ H2 ⟨s2, l', u2, C, rfl, hCl, hC, hCn, hl2⟩
   have hP : PtL B C := ⟨hB, hC, hCn, hB4, by omega⟩
   have hl2 : H2 l' = some (.lst (((rssB B C).map textR).map V.str)) := by rw [hl2, List.map_map]; rfl
   clear s1 hl hS1
   walk_at "rq"
   refine r_join (SqL.of hl2) hP.jok ?_
   exact q _ _ _ _ s2 hP.txt
end
section
variable {P : Program} {w : World} {K : PySem.W.Frag} {mg : Str → Option Value} {base : Heap} {a : Adr}
local macro_rules | `(tactic| walk_at "lb") => `(tactic| first | with_reducible assumption | with_reducible exact LBlit | (with_reducible exact LBapp (by walk_at "lb") (by walk_at "lb")))
local macro_rules | `(tactic| walk_at "lc") => `(tactic| (with_reducible exact LBle (by walk_at "lb") (by decide +kernel)))
local macro_rules | `(tactic| walk_at "rp") => `(tactic| (walk_at "rq"; repeat (((with_reducible refine' r_plusS ?zs ?_); (case zs => exact LB2 (by walk_at "lb") (by walk_at "lb") (by decide +kernel))); walk_at "rq")))
theorem ok_law_spoiled (T : Txt w K mg a) : FnE P w K mg base CX0 2 "_law_spoiled" spSplX := by
 refine fnE_of (sp := spSplX) 1 T.fn_law_spoiled sc_law_spoiled (fun vs H Q E h => ?_) (fun f cdv A outer s H vs Q E hr h => ?_)
 · obtain ⟨t, rs, fs, i, c, rfl, _⟩ := h
   rfl
 · obtain ⟨t, rs, fs, i, c, rfl, h0, h1, hT, q⟩ := h
   have LT := hT.len
   have LT2 : t.length ≤ 4000 := LT
   refine ⟨_, (pss_cons (ps_set (i := 3) sc_law_spoiled.nd rfl (Or.inl rfl) (pe_callE (ok_law_places (K := K) T) (hr.mono (by decide)) pass0 rfl (pa_cons (pv 0) (pa_cons pe_str pa_nil))))
     (pss_cons (ps_set (i := 4) sc_law_spoiled.nd rfl (Or.inl rfl) (pe_ix (ix_K (K := K) rfl) (pv 3) (pe_op op_mod (pv 2) (pe_callB (call_lenK (K := K) rfl) rfl T.z_len b_len (pa_cons (pv 3) pa_nil))) (fun _ _ => rfl)))
     (pss_cons (ps_if (pt_cmpR (op_eqK (K := K) rfl hr.units) (pv 1) pe_int (nomark _)) (pss_one (ps_ret (pe_op (op_plusK (K := K) rfl) (pe_op (op_plusK (K := K) rfl) (pe_slice sl_str2 (pv 0) po_none (po_some (pv 4))) pe_str) (pe_slice sl_str2 (pv 0) (po_some (pv 4)) po_none)))) pss_nil)
     (pss_cons (ps_if (pt_cmpR (op_eqK (K := K) rfl hr.units) (pv 1) pe_int (nomark _)) (pss_one (ps_ret (pe_ix (ix_K (K := K) rfl) (pe_lst (pa_cons (pe_op (op_plusK (K := K) rfl) pe_str (pv 0)) (pa_cons (pe_op (op_plusK (K := K) rfl) (pv 0) pe_str) (pa_cons (pe_op (op_plusK (K := K) rfl) (pv 0) pe_str) (pa_cons (pe_op (op_plusK (K := K) rfl) (pv 0) pe_str) (pa_cons pe_str (pa_cons (pe_op (op_plusK (K := K) rfl) pe_str (pv 0)) (pa_cons (pe_op (op_plusK (K := K) rfl) (pv 0) pe_str) pa_nil)))))))) (pe_op op_mod (pv 2) pe_int) (fun _ _ => rfl)))) pss_nil)
     (pss_cons (ps_if (pt_cmpR (op_eqK (K := K) rfl hr.units) (pv 1) pe_int (nomark _)) (pss_one (ps_ret (pe_callE (ok_law_without_end (K := K) T) (hr.mono (by decide)) pass0 rfl (pa_cons (pv 0) pa_nil)))) pss_nil)
     (pss_cons (ps_if (pt_cmpR (op_eqK (K := K) rfl hr.units) (pv 1) pe_int (nomark _)) (pss_one (ps_ret (pe_op (op_plusK (K := K) rfl) (pv 0) (pe_ix (ix_K (K := K) rfl) (pe_lst (pa_cons pe_str (pa_cons pe_str (pa_cons pe_str (pa_cons pe_str (pa_cons pe_str (pa_cons pe_str pa_nil))))))) (pe_op op_mod (pv 2) pe_int) (fun _ _ => rfl))))) pss_nil)
     (pss_cons (ps_if (pt_cmpR (op_eqK (K := K) rfl hr.units) (pv 1) pe_int (nomark _)) (pss_one (ps_ret (pe_callE (ok_law_numbered (K := K) T) (hr.mono (by decide)) pass0 rfl (pa_cons (pv 0) (pa_cons (pv 2) pa_nil))))) pss_nil)
     (pss_cons (ps_if (pt_cmpR (op_eqK (K := K) rfl hr.units) (pv 1) pe_int (nomark _)) (pss_one (ps_ret (pe_op (op_plusK (K := K) rfl) (pv 0) (pe_ix (ix_K (K := K) rfl) (pe_lst (pa_cons pe_str (pa_cons pe_str (pa_cons pe_str (pa_cons pe_str (pa_cons pe_str (pa_cons pe_str pa_nil))))))) (pe_op op_mod (pv 2) pe_int) (fun _ _ => rfl))))) pss_nil)
     (pss_cons (ps_if (pt_cmpR (op_eqK (K := K) rfl hr.units) (pv 1) pe_int (nomark _)) (pss_one (ps_ret (pe_op (op_plusK (K := K) rfl) (pv 0) (pe_ix (ix_K (K := K) rfl) (pe_lst (pa_cons pe_str (pa_cons pe_str (pa_cons pe_str (pa_cons pe_str (pa_cons pe_str pa_nil)))))) (pe_op op_mod (pv 2) pe_int) (fun _ _ => rfl))))) pss_nil)
     (pss_cons (ps_if (pt_cmpR (op_eqK (K := K) rfl hr.units) (pv 1) pe_int (nomark _)) (pss_one (ps_ret (pe_op (op_plusK (K := K) rfl) (pv 0) pe_str))) pss_nil)
     (pss_cons (ps_if (pt_cmpR (op_eqK (K := K) rfl hr.units) (pv 1) pe_int (nomark _)) (pss_one (ps_ret (pe_op (op_plusK (K := K) rfl) pe_str (pv 0)))) pss_nil)
     (pss_one (ps_ret (pe_op (op_plusK (K := K) rfl) (pv 0) (pe_ix (ix_K (K := K) rfl) (pe_lst (pa_cons pe_str (pa_cons pe_str (pa_cons pe_str pa_nil)))) (pe_op op_mod (pv 2) pe_int) (fun _ _ => rfl)))))))))))))))), ?_⟩
   refine r_st (σ' := [some _, some _, some _, none, none]) rfl ?_
   walk_at "rq"
   refine ⟨t, rfl, LT, fun l ps H1 s1 hl hps hne hpl => ?_⟩
   have hne := List.length_pos_iff.mpr (hne hT.bl)
   walk_at "rq"
   refine r_lenL (SqL.of hl) ?_
   rw [List.length_map]
   obtain ⟨n, hn, hat⟩ := pl_at hne c
   have hg := hps n hn
   have hnl : n < t.cps.toList.length := (List.getElem?_eq_some_iff.mp hg).1
   have hnl2 : n < t.length := hnl
   have q' : ∀ t' H', Same H1 H' → toldS t' = "text" → LB t' 5000 → Q (.str t') H' := fun t' H' s e => q t' H' (s1.trans s) e
   clear q s1
   have hc : i = 0 ∨ i = 1 ∨ i = 2 ∨ i = 3 ∨ i = 4 ∨ i = 5 ∨ i = 6 ∨ i = 7 ∨ i = 8 ∨ i = 9 := by omega
   clear h0 h1
   walk_at "rp"
   rcases hc with h | h | h | h | h | h | h | h | h | h
   · walk_at "rp"
     refine r_slTo (by rw [sizeLine_eq]; omega) (by omega) fun a1 ha => ?_
     have La : LB a1 4000 := by
       have e : a1.cps.toList.length ≤ 4000 := by rw [ha, List.length_take]; omega
       exact e
     walk_at "rp"
     refine r_slFrom (by rw [sizeLine_eq]; omega) (by omega) fun b1 hb => ?_
     have Lb : LB b1 4000 := by
       have e : b1.cps.toList.length ≤ 4000 := by rw [hb, List.length_drop]; have : t.cps.toList.length ≤ 4000 := LT2; omega
       exact e
     walk_at "rp"
     have hdr : t.cps.toList.drop n = 32 :: t.cps.toList.drop (n + 1) := by
       obtain ⟨z1, z2⟩ := List.getElem?_eq_some_iff.mp hg
       rw [List.drop_eq_getElem_cons z1, z2]
     have el : (a1 ++ Str.ofString " " ++ b1).cps.toList = t.cps.toList.take n ++ 32 :: 32 :: t.cps.toList.drop (n + 1) := by
       rw [str_app, str_app, ha, hb, hdr, List.append_assoc]; rfl
     refine q' _ _ (Same.refl _) (told_0 (t := t) (l := t.cps.toList.take n) (r := t.cps.toList.drop (n + 1)) (by rw [← hdr, List.take_append_drop]) el) ?_
     have e := congrArg List.length el
     rw [List.length_append, List.length_take, List.length_cons, List.length_cons, List.length_drop] at e
     have e2 : (a1 ++ Str.ofString " " ++ b1).cps.toList.length ≤ 5000 := by rw [e]; have : t.cps.toList.length ≤ 4000 := LT2; omega
     exact e2
   · obtain ⟨X, hX, hw⟩ := w_at (P := fun x => toldS x = "text" ∧ LB x 5000) (ws := [" " ++ t, t ++ " ", t ++ "\n", t ++ ";", "", "; " ++ t, t ++ "; "]) (fun x hx => ⟨by rw [hT.tx] at hx; exact told_1 x hx, by
       simp only [List.mem_cons, List.not_mem_nil, or_false] at hx
       rcases hx with rfl | rfl | rfl | rfl | rfl | rfl | rfl
       all_goals (walk_at "lc")⟩) (i := c % 7) (by omega) (by show _ < ((7 : Nat) : Int); omega)
     walk_at "rp"
     rename_i l1 n1
     exact q' _ _ (same_new n1) hw.1 hw.2
   · walk_at "rp"
     exact ⟨t, rs, fs, rfl, hT, fun t' H' s e l => q' t' H' s e l⟩
   · obtain ⟨X, hX, LX, hw⟩ := w_at hT.w3 (i := c % 6) (by omega) (by show _ < ((6 : Nat) : Int); omega)
     walk_at "rp"
     rename_i l1 n1
     exact q' _ _ (same_new n1) hw (by walk_at "lc")
   · walk_at "rp"
     exact ⟨t, rs, fs, c, rfl, hT, fun t' H' s e l => q' t' H' s e l⟩
   · obtain ⟨X, hX, LX, hw⟩ := w_at hT.w5 (i := c % 6) (by omega) (by show _ < ((6 : Nat) : Int); omega)
     walk_at "rp"
     rename_i l1 n1
     exact q' _ _ (same_new n1) hw (by walk_at "lc")
   · obtain ⟨X, hX, LX, hw⟩ := w_at hT.w6 (i := c % 5) (by omega) (by show _ < ((5 : Nat) : Int); omega)
     walk_at "rp"
     rename_i l1 n1
     exact q' _ _ (same_new n1) hw (by walk_at "lc")
   · walk_at "rp"
     exact q' _ _ (Same.refl _) (by rw [hT.tx]; exact told_7) (by walk_at "lc")
   · walk_at "rp"
     exact q' _ _ (Same.refl _) (by rw [hT.tx]; exact told_8 hT.ne hT.g) (by walk_at "lc")
   · obtain ⟨X, hX, LX, hw⟩ := w_at hT.w9 (i := c % 3) (by omega) (by show _ < ((3 : Nat) : Int); omega)
     walk_at "rp"
     rename_i l1 n1
     exact q' _ _ (same_new n1) hw (by walk_at "lc")
end
section
variable {P : Program} {w : World} {K : PySem.W.Frag} {mg : Str → Option Value} {base : Heap} {a : Adr}
theorem ok_is_name (T : Txt w K mg a) : FnE P w K mg base CX0 3 "is_name" spNmX := by
 refine fnE_of (sp := spNmX) 2 T.fn_is_name sc_is_name (fun vs H Q E h => ?_) (fun f cdv A outer s H vs Q E hr h => ?_)
 · obtain ⟨i, rfl, _⟩ := h
   rfl
 · obtain ⟨i, rfl, h0, q⟩ := h
   refine ⟨_, (pss_one (ps_ret (pe_callE (ok_is_up_to (K := K) T) (hr.mono (by decide)) pass0 rfl (pa_cons (pv 0) (pa_cons (pe_glob (v := .int 5) rfl T.g_TOP_NAME.choose_spec ⟨_, rfl⟩) pa_nil))))), ?_⟩
   refine r_st (σ' := [some _]) rfl ?_
   walk_at "rd"
   refine ⟨_, _, rfl, h0, ?_⟩
   walk_at "rd"
   exact q
theorem ok_is_function (T : Txt w K mg a) : FnE P w K mg base CX0 3 "is_function" spIsFnX := by
 refine fnE_of (sp := spIsFnX) 2 T.fn_is_function sc_is_function (fun vs H Q E h => ?_) (fun f cdv A outer s H vs Q E hr h => ?_)
 · obtain ⟨f', l, n, us, rfl, _⟩ := h
   rfl
 · obtain ⟨f', l, n, us, rfl, hf, h0, hl, q⟩ := h
   refine ⟨_, (pss_cons (ps_if (PW.pt (pw_or (pt_not (pt_truK (K := K) rfl (pe_callB (call_isiK (K := K) rfl) rfl T.z_isinstance b_isinstance (pa_cons (pv 0) (pa_cons (pe_bltn (v := .ty "tuple") rfl T.z_tuple b_tuple rfl) pa_nil))))) (pw_or1 (pt_cmpR (op_neK (K := K) rfl hr.units) (pe_callB (call_lenK (K := K) rfl) rfl T.z_len b_len (pa_cons (pv 0) pa_nil)) pe_int (nomark _))))) (pss_one (ps_ret pe_bl)) pss_nil)
     (pss_one (ps_ret (pe_and (pe_callE (ok_is_up_to (K := K) T) (hr.mono (by decide)) pass0 rfl (pa_cons (pe_ix (ix_K (K := K) rfl) (pv 0) pe_int (fun _ _ => rfl)) (pa_cons (pe_glob (v := .int 3) rfl T.g_TOP_HANDED.choose_spec ⟨_, rfl⟩) pa_nil))) (pe_one (pe_callB (call_isiK (K := K) rfl) rfl T.z_isinstance b_isinstance (pa_cons (pe_ix (ix_K (K := K) rfl) (pv 0) pe_int (fun _ _ => rfl)) (pa_cons (pe_bltn (v := .ty "list") rfl T.z_list b_list rfl) pa_nil)))))))), ?_⟩
   refine r_st (σ' := [some _]) rfl ?_
   walk_at "rd"
   refine ⟨_, _, rfl, h0, ?_⟩
   cases hu : upB n 3 with
   | false =>
     rw [hu] at q
     walk_at "rd"
     exact q
   | true =>
     rw [hu] at q
     walk_at "rd"
     exact q
theorem ok_read_words (T : Txt w K mg a) : FnE P w K mg base (CXR P w) 3 "read_words" (spRdWX a) := by
 refine fnX_of (sp := (spRdWX a)) 2 T.fn_read_words sc_read_words (fun vs H Q E h => ?_) (fun f cdv A outer s H vs Q E hr h => ?_)
 · obtain ⟨t, rfl, _⟩ := h
   rfl
 · obtain ⟨t, rfl, hl, e1, q⟩ := h
   obtain ⟨w', ps, hsp⟩ := split_cons t " "
   obtain ⟨_, hs2⟩ := split_len t " "
   have hlen : ps.length ≤ 8002 := by rw [hsp, List.length_cons] at hs2; omega
   have hpl : ∀ p ∈ ps, p.length ≤ 1500000 := fun p hp => Nat.le_trans (split_part (by rw [hsp]; exact List.mem_cons_of_mem _ hp)) (by omega)
   refine ⟨_, (pss_cons (PS.nox (ps_set (i := 1) sc_read_words.nd rfl (Or.inl rfl) (pe_bmK (K := K) rfl PySem.F.plainAttrs_str PySem.F.slot_str_split PySem.F.type_str_split mt_split (pv 0) (pa_cons pe_str pa_nil))))
     (pss_cons (ps_if (PT.nox (pt_not (pt_truK (K := K) rfl (pe_callE (ok_has_count (K := K) T) (hr.mono (by decide)) pass0 rfl (pa_cons (pe_ix (ix_K (K := K) rfl) (pv 1) pe_int (fun _ _ => rfl)) (pa_cons (pe_op op_sub (pe_callB (call_lenK (K := K) rfl) rfl T.z_len b_len (pa_cons (pv 1) pa_nil)) pe_int) pa_nil)))))) (pss_one (ps_raise T.x_NoText rfl (pa_cons pe_str pa_nil))) pss_nil)
     (pss_one (ps_ret (pe_callTy (call_tupK (K := K) rfl) rfl T.z_tuple b_tuple (pa_cons (pe_op (op_plusK (K := K) rfl) (pe_lst (pa_cons (pe_ix (ix_K (K := K) rfl) (pv 1) pe_int (fun _ _ => rfl)) pa_nil)) (pe_compX rfl rfl rfl (fun _ _ z => z) (own := ["word"]) (fr := []) rfl ⟨rfl, (by walk_at "clok"), (by walk_at "frok"), rfl, (by decide +kernel), (by decide +kernel), rfl⟩ (pi_seqK (K := K) rfl (pe_slice (sl_K (K := K) rfl) (pv 1) (po_some pe_int) po_none)) (fun _ _ _ _ => (pg_name (i := 0) (show List.Nodup [("word" : Str)] from by decide +kernel) rfl (Or.inl rfl))) (fun _ _ _ _ => pts_nil) (fun _ _ _ _ => (pe_callE (ok_read_number (K := K) T) (hr.mono (by decide)) pass_c rfl (pa_cons (pv 0) pa_nil))))) pa_nil)))))), ?_⟩
   refine r_st (σ' := [some _, none]) rfl ?_
   walk_at "rq"
   refine r_split rfl (by rw [sizeLine_eq]; omega) hsp (by rw [List.length_cons, sizeLine_eq]; omega) (fun l hl => ?_)
   have hat := at_head (.str w') (ps.map V.str)
   rw [show (w' :: ps).map V.str = V.str w' :: ps.map V.str from rfl]
   walk_at "rq"
   refine r_lenL (SqL.of upd_same) ?_
   walk_at "rq"
   refine ⟨w', ps.length, by rw [List.length_cons, List.length_map]; show [V.str w', V.int (((ps.length + 1 : Nat) : Int) - 1)] = [V.str w', V.int (ps.length : Int)]; rw [show ((ps.length + 1 : Nat) : Int) - 1 = (ps.length : Int) by omega], ?_⟩
   cases hb : hasN w' ps.length with
   | false =>
     walk_at "rq"
     exact ⟨by decide, e1 (rowR_no hsp hb) _ (same_new hl)⟩
   | true =>
   walk_at "rq"
   rename_i l2 hl2 l3 hl3
   have ec : cutV (V.str w' :: ps.map V.str) (some 1) none = ps.map V.str := cut_tailV _ _
   rw [ec]
   refine comp_list (K := K) (a := l3) (xs := ps.map V.str) (fun i ys σ H1 => (∃ v, σ = [v]) ∧ Same (upd (upd (upd H l (.lst (V.str w' :: ps.map V.str))) l2 (.lst [V.str w'])) l3 (.lst (ps.map V.str))) H1 ∧ ∃ ns : List Int, ys = ns.map V.int ∧ allNum (ps.take i) = some ns) ⟨⟨_, rfl⟩, Same.refl _, [], rfl, rfl⟩ (fun i ys σ H1 hi ⟨_, s1, ns, e, e2⟩ => ⟨SqL.of (s1 _ _ upd_same), by rw [e, List.length_map, allNum_len e2, List.length_take, sizeLine_eq]; omega⟩) ?_ ?_
   · rintro i x ys σ H1 hx ⟨⟨v, rfl⟩, s1, ns, rfl, hns⟩
     obtain ⟨p, hp2, rfl⟩ := map_at hx
     have hpm := List.mem_of_getElem? hp2
     walk_at "rq"
     refine ⟨p, rfl, hpl p hpm, fun n hn H2 s2 => ?_, fun hn H2 s2 => ?_⟩
     · exact ⟨⟨_, rfl⟩, s1.trans s2, ns ++ [n], by rw [List.map_append]; rfl, by rw [take_snoc hp2]; exact allNum_snoc hns hn⟩
     · exact e1 (rowR_num hsp (allNum_no hpm hn)) H2 ((((same_new hl).trans (same_new hl2)).trans (same_new hl3)).trans (s1.trans s2))
   rintro ys σ H1 ⟨_, s1, ns, rfl, hns⟩
   rw [List.length_map, List.take_length] at hns
   have hnl : ns.length ≤ 8002 := by rw [allNum_len hns]; exact hlen
   have h2 : H1 l2 = some (.lst [V.str w']) := s1 _ _ (look_new upd_same hl3)
   have s2 : Same H H1 := ((((same_new hl).trans (same_new hl2)).trans (same_new hl3)).trans s1)
   clear s1 hl hl2 hl3
   walk_at "rq"
   rename_i l5 n5 l6 n6
   refine r_tupLst (SqL.of upd_same) fun t' nt => ?_
   exact q (w', ns) (rowR_yes hsp hns hb) t' _ (s2.trans ((same_new n5).trans ((same_new n6).trans (same_new nt)))) (none_same (s2.trans ((same_new n5).trans (same_new n6))) nt) upd_same
theorem ok_are_names (T : Txt w K mg a) : FnE P w K mg base CX0 4 "are_names" spNmsX := by
 refine fnE_of (sp := spNmsX) 3 T.fn_are_names sc_are_names (fun vs H Q E h => ?_) (fun f cdv A outer s H vs Q E hr h => ?_)
 · obtain ⟨q', ns, rfl, _⟩ := h
   rfl
 · obtain ⟨q', ns, rfl, hq, hn, h3, q⟩ := h
   refine ⟨_, (pss_one (ps_ret (pe_and (pe_callB (call_isi2 (K := K) rfl) rfl T.z_isinstance b_isinstance (pa_cons (pv 0) (pa_cons (pe_tup (pa_cons (pe_bltn (v := .ty "list") rfl T.z_list b_list rfl) (pa_cons (pe_bltn (v := .ty "tuple") rfl T.z_tuple b_tuple rfl) pa_nil))) pa_nil))) (pe_one (pe_callB (call_allK (K := K) rfl rfl) rfl T.z_all b_all (pa_cons (pe_comp (own := ["thing"]) (fr := []) rfl ⟨rfl, (by walk_at "clok"), (by walk_at "frok"), rfl, (by decide +kernel), (by decide +kernel), rfl⟩ (pi_seqK (K := K) rfl (pv 0)) (fun _ _ _ _ => (pg_name (i := 0) (show List.Nodup [("thing" : Str)] from by decide +kernel) rfl (Or.inl rfl))) (fun _ _ _ _ => pts_nil) (fun _ _ _ _ => (pe_callE (ok_is_name (K := K) T) (hr.mono (by decide)) pass0 rfl (pa_cons (pv 0) pa_nil)))) pa_nil)))))), ?_⟩
   refine r_st (σ' := [some _]) rfl ?_
   walk_at "rd"
   rename_i t nt
   refine r_isi2 (SqT.of upd_same) (.inl ⟨_, look_new hq nt⟩) T.k_list_list T.k_tuple_list T.k_tuple_tuple ?_
   have hq1 := look_new (o := .tup [.ty "list", .ty "tuple"]) hq nt
   walk_at "rd"
   refine comp_mapL (α := Int) (xs := ns) (emb := V.int) (fun x => .bl (upB x 5)) (fun σ => ∃ v, σ = [v]) (SqL.of hq1) (by rw [sizeLine_eq]; omega) ⟨_, rfl⟩ ?_ ?_
   · rintro i x ys σ H1 hx cc s1 ⟨v, rfl⟩
     walk_at "rd"
     refine ⟨x, rfl, hn x (List.mem_of_getElem? hx), ?_⟩
     exact cc.next hx rfl s1 ⟨_, rfl⟩
   intro H1 s1 l2 nl2
   have s2 := (same_new (o := .tup [.ty "list", .ty "tuple"]) nt).trans (s1.trans (same_new (o := .lst (ns.map fun x => V.bl (upB x 5))) nl2))
   walk_at "rd"
   refine r_all (bs := ns.map fun x => upB x 5) (by rw [List.map_map]; exact SqL.of upd_same) ?_
   rw [show (ns.map fun x => upB x 5).all id = ns.all (upB · 5) from by rw [List.all_map]; rfl]
   exact q _ s2
theorem ok_is_part (T : Txt w K mg a) : FnE P w K mg base CX0 5 "is_part" spPartX := by
 refine fnE_of (sp := spPartX) 4 T.fn_is_part sc_is_part (fun vs H Q E h => ?_) (fun f cdv A outer s H vs Q E hr h => ?_)
 · obtain ⟨v, n, k, rfl, _⟩ := h
   rfl
 · obtain ⟨v, n, k, rfl, h, q⟩ := h
   refine ⟨_, (pss_cons (ps_if (pt_cmpR (op_eqK (K := K) rfl hr.units) (pv 1) pe_str (nomark _)) (pss_one (ps_ret (pe_callE (ok_is_name (K := K) T) (hr.mono (by decide)) pass0 rfl (pa_cons (pv 0) pa_nil)))) pss_nil)
     (pss_cons (ps_if (pt_cmpR (op_eqK (K := K) rfl hr.units) (pv 1) pe_str (nomark _)) (pss_one (ps_ret (pe_callE (ok_is_up_to (K := K) T) (hr.mono (by decide)) pass0 rfl (pa_cons (pv 0) (pa_cons (pe_glob (v := .int 4294967295) rfl T.g_TOP_VALUE.choose_spec ⟨_, rfl⟩) pa_nil))))) pss_nil)
     (pss_cons (ps_if (pt_cmpR (op_eqK (K := K) rfl hr.units) (pv 1) pe_str (nomark _)) (pss_one (ps_ret (pe_callE (ok_is_up_to (K := K) T) (hr.mono (by decide)) pass0 rfl (pa_cons (pv 0) (pa_cons (pe_op op_sub (pv 2) pe_int) pa_nil))))) pss_nil)
     (pss_cons (ps_if (pt_cmpR (op_eqK (K := K) rfl hr.units) (pv 1) pe_str (nomark _)) (pss_one (ps_ret (pe_callE (ok_are_names (K := K) T) (hr.mono (by decide)) pass0 rfl (pa_cons (pv 0) pa_nil)))) pss_nil)
     (pss_one (ps_ret (pe_callB (call_isiK (K := K) rfl) rfl T.z_isinstance b_isinstance (pa_cons (pv 0) (pa_cons (pe_bltn (v := .ty "list") rfl T.z_list b_list rfl) pa_nil))))))))), ?_⟩
   refine r_st (σ' := [some _, some _, some _]) rfl ?_
   cases v with
   | num i =>
     obtain ⟨h0, rfl | rfl | rfl⟩ := h
     · walk_at "rd"
       refine ⟨_, rfl, h0, ?_⟩
       walk_at "rd"
       exact q _ (Same.refl _)
     · walk_at "rd"
       refine ⟨_, _, rfl, h0, ?_⟩
       walk_at "rd"
       exact q _ (Same.refl _)
     · walk_at "rd"
       refine ⟨_, _, rfl, h0, ?_⟩
       walk_at "rd"
       exact q _ (Same.refl _)
   | nms q' ns =>
     obtain ⟨rfl, hq, hn, h3⟩ := h
     walk_at "rd"
     refine ⟨q', ns, rfl, hq, hn, h3, fun H1 s1 => ?_⟩
     walk_at "rd"
     exact q _ s1
   | stm q' =>
     obtain ⟨rfl, us, hq⟩ := h
     walk_at "rd"
     exact q _ (Same.refl _)
theorem ok_is_statement (T : Txt w K mg a) : FnE P w K mg base CX0 6 "is_statement" spStmX := by
 refine fnE_of (sp := spStmX) 5 T.fn_is_statement sc_is_statement (fun vs H Q E h => ?_) (fun f cdv A outer s H vs Q E hr h => ?_)
 · obtain ⟨p, h, d, s, hd, rfl, _⟩ := h
   rfl
 · obtain ⟨p, h, d, s, hd, rfl, hst, hok, hh, h8, q⟩ := h
   obtain ⟨w', xs, ls, F⟩ := hst.infX (hd := hd) hok
   obtain ⟨kvs, C, hkv⟩ := parts_of T
   obtain ⟨qk, hqk, tk⟩ := hkv _ _ F.kd
   have hp := F.hp
   have fw := F.few
   have hat0 := at_head (.str w') (xs.map (·.1.v))
   have hln : (V.str w' :: xs.map (·.1.v)).length = xs.length + 1 := by rw [List.length_cons, List.length_map]
   refine ⟨_, (pss_cons (ps_if (PW.pt (pw_or (pt_not (pt_truK (K := K) rfl (pe_callB (call_isiK (K := K) rfl) rfl T.z_isinstance b_isinstance (pa_cons (pv 0) (pa_cons (pe_bltn (v := .ty "tuple") rfl T.z_tuple b_tuple rfl) pa_nil))))) (pw_or (pt_cmpR (op_eqK (K := K) rfl hr.units) (pe_callB (call_lenK (K := K) rfl) rfl T.z_len b_len (pa_cons (pv 0) pa_nil)) pe_int (nomark _)) (pw_or1 (pt_not (pt_truK (K := K) rfl (pe_callB (call_isiK (K := K) rfl) rfl T.z_isinstance b_isinstance (pa_cons (pe_ix (ix_K (K := K) rfl) (pv 0) pe_int (fun _ _ => rfl)) (pa_cons (pe_bltn (v := .ty "str") rfl T.z_str b_str rfl) pa_nil))))))))) (pss_one (ps_ret pe_bl)) pss_nil)
     (pss_cons (ps_set (i := 2) sc_is_statement.nd rfl (Or.inl rfl) (pe_rget1 (w := w) (K := K) rfl rfl (pe_glob (v := .ref a.G_PARTS) rfl T.s_PARTS rfl) (pe_ix (ix_K (K := K) rfl) (pv 0) pe_int (fun _ _ => rfl)) ⟨rfl, rfl, rfl, rfl⟩))
     (pss_cons (ps_if (PW.pt (pw_or (pt_cmpR op_isNA (pv 2) pe_non (nomark _)) (pw_or1 (pt_cmpR (op_neK (K := K) rfl hr.units) (pe_callB (call_lenK (K := K) rfl) rfl T.z_len b_len (pa_cons (pv 0) pa_nil)) (pe_op (op_plusK (K := K) rfl) pe_int (pe_callB (call_lenK (K := K) rfl) rfl T.z_len b_len (pa_cons (pv 2) pa_nil))) (nomark _))))) (pss_one (ps_ret pe_bl)) pss_nil)
     (pss_cons (ps_if (pt_not (pt_truK (K := K) rfl (pe_callB (call_allK (K := K) rfl rfl) rfl T.z_all b_all (pa_cons (pe_comp (own := ["part", "kind"]) (fr := [("handed", 1)]) rfl ⟨rfl, (by walk_at "clok"), (by walk_at "frok"), rfl, (by decide +kernel), (by decide +kernel), rfl⟩ (pi_zip2 (K := K) rfl rfl T.z_zip (pa_cons (pe_slice (sl_K (K := K) rfl) (pv 0) (po_some pe_int) po_none) (pa_cons (pv 2) pa_nil))) (fun _ _ _ _ => (pg_tupK (K := K) (n := 2) rfl rfl (pgs_cons (pg_name (i := 0) (show List.Nodup [("part" : Str), ("kind" : Str), ("handed" : Str)] from by decide +kernel) rfl (Or.inl rfl)) (pgs_cons (pg_name (i := 1) (show List.Nodup [("part" : Str), ("kind" : Str), ("handed" : Str)] from by decide +kernel) rfl (Or.inl rfl)) pgs_nil)))) (fun _ _ _ _ => pts_nil) (fun _ _ _ _ => (pe_callE (ok_is_part (K := K) T) (hr.mono (by decide)) pass0 rfl (pa_cons (pv 0) (pa_cons (pv 1) (pa_cons (pe_callB (call_lenK (K := K) rfl) rfl T.z_len b_len (pa_cons (pv 2) pa_nil)) pa_nil)))))) pa_nil)))) (pss_one (ps_ret pe_bl)) pss_nil)
     (pss_cons (ps_if (PW.pt (pw_or (pt_cmpR (op_eqK (K := K) rfl hr.units) (pe_ix (ix_K (K := K) rfl) (pv 0) pe_int (fun _ _ => rfl)) pe_str (nomark _)) (pw_or1 (pt_cmpR (op_eqK (K := K) rfl hr.units) (pe_ix (ix_K (K := K) rfl) (pv 0) pe_int (fun _ _ => rfl)) pe_str (nomark _))))) (pss_one (ps_ret (pe_cmpR (op_eqK (K := K) rfl hr.units) (pe_callB (call_lenK (K := K) rfl) rfl T.z_len b_len (pa_cons (pe_ix (ix_K (K := K) rfl) (pv 0) (pe_un un_neg pe_int) (fun _ _ => rfl)) pa_nil)) (pe_ix (ix_K (K := K) rfl) (pv 1) (pe_ix (ix_K (K := K) rfl) (pv 0) (pe_un un_neg pe_int) (fun _ _ => rfl)) (fun _ _ => rfl)) (nomark _)))) pss_nil)
     (pss_one (ps_ret pe_bl))))))), ?_⟩
   refine r_st (σ' := [some _, some _, none]) rfl ?_
   walk_at "rd"
   refine ⟨_, _, rfl, C, ?_⟩
   walk_at "rd"
   refine ⟨_, .ref qk, rfl, hqk, ?_⟩
   walk_at "rd"
   refine r_lenT (tk _) ?_
   rw [List.length_map, List.length_map]
   walk_at "rd"
   refine r_slT (SqT.of hp) (cut_tail_neV _ _) fun ls' nls => ?_
   rw [cut_tailV]
   walk_at "rd"
   refine ⟨ls', qk, _, _, rfl, SqT.of upd_same, tk _, ?_⟩
   have e2 : ∀ H, SqT K H qk (xs.map fun p => .str p.2) := fun H => by have := tk H; rw [List.map_map] at this; exact this
   refine comp_mapZ (α := Pv × Str) (xs := xs) (e1 := fun p => p.1.v) (e2 := fun p => .str p.2) (fun x => .bl (partB hd.length x.2 x.1)) (fun σ => ∃ u v, σ = [u, v, some (.ref h)]) (SqT.of upd_same) (e2 _) (by walk_at "small") ⟨_, _, rfl⟩ ?_ ?_
   · rintro i ⟨zz, k⟩ ys σ H1 T' hx cc s1 ⟨u, v', rfl⟩ nT
     have hpk := F.ok _ (List.mem_of_getElem? hx)
     have s01 := (same_new (o := .tup (xs.map (·.1.v))) nls).trans (s1.trans (same_new (o := .tup [zz.v, .str k]) nT))
     have s11 := s1.trans (same_new (o := .tup [zz.v, .str k]) nT)
     have hh1 := s01 _ _ hh
     refine r_gTup (SqT.of upd_same) rfl ?_
     show gCons _ _ [zz.v, .str k] _ _ _
     generalize (upd H1 T' (.tup [zz.v, .str k])) = H2 at s01 s11 hh1 ⊢
     have hpk2 := hpk.same s01
     clear s01 nT s1
     walk_at "rd"
     refine ⟨zz, _, k, rfl, hpk2, fun H3 s3 => ?_⟩
     exact cc.next hx rfl (s11.trans s3) ⟨_, _, rfl⟩
   intro H1 s1 l2 nl2
   have s2 : Same H (upd H1 l2 (.lst (xs.map fun x => V.bl (partB hd.length x.2 x.1)))) := (same_new nls).trans (s1.trans (same_new nl2))
   walk_at "rd"
   refine r_all (bs := xs.map fun x => partB hd.length x.2 x.1) (by rw [List.map_map]; exact SqL.of upd_same) ?_
   rw [show (xs.map fun x => partB hd.length x.2 x.1).all id = xs.all fun x => partB hd.length x.2 x.1 from by rw [List.all_map]; rfl]
   generalize (upd H1 l2 (.lst (xs.map fun x => V.bl (partB hd.length x.2 x.1)))) = H2 at s2 ⊢
   clear nls nl2 s1
   have hp2 := s2 _ _ hp
   have hh2 := s2 _ _ hh
   rcases F.cl with ⟨hw, pre, f', q', ns, ex, hq', f0, hf, hsb⟩ | ⟨n1, n2, hsb⟩
   · rw [ex] at hp2
     rw [hsb] at q
     cases hall : xs.all fun x => partB hd.length x.2 x.1 with
     | false =>
       rw [hall, Bool.false_and] at q
       walk_at "rd"
       exact q _ s2
     | true =>
       have hfl : f'.toNat < hd.length := hf hall
       rw [hall, Bool.true_and] at q
       have hat1 : atI (V.str w' :: (pre ++ [.int f', .ref q'])) (-1) = some (.ref q') := at_last1
       have hat2 : atI (V.str w' :: (pre ++ [.int f', .ref q'])) (-2) = some (.int f') := at_last2
       have hat0 := at_head (.str w') (pre ++ [.int f', .ref q'])
       have hq2 := s2 _ _ hq'
       have hgt : hd[f'.toNat]? = some hd[f'.toNat] := List.getElem?_eq_getElem hfl
       have hat3 : atI (hd.map V.int) f' = some (.int hd[f'.toNat]) := by
         rw [show atI (hd.map V.int) f' = atI (hd.map V.int) ((f'.toNat : Nat) : Int) from by rw [show ((f'.toNat : Nat) : Int) = f' by omega]]
         exact atI_nat (by rw [List.getElem?_map, hgt]; rfl)
       have ed : decide (hd[f'.toNat]? = some (ns.length : Int)) = decide (V.int (ns.length : Int) = V.int hd[f'.toNat]) := by
         rw [hgt, decide_eq_decide]
         exact ⟨fun z => by injection z with z; rw [z], fun z => by injection z with z; rw [z]⟩
       rw [ed] at q
       generalize hd[f'.toNat] = nf at hat3 q
       rcases hw with rfl | rfl
       · walk_at "rd"
         exact q _ s2
       · walk_at "rd"
         exact q _ s2
   · have d1 : decide (V.str w' = V.str "call") = false := decide_eq_false fun z => n1 (V.str.inj z)
     have d2 : decide (V.str w' = V.str "hand") = false := decide_eq_false fun z => n2 (V.str.inj z)
     rw [hsb] at q
     cases hall : xs.all fun x => partB hd.length x.2 x.1 with
     | false =>
       rw [hall] at q
       walk_at "rd"
       exact q _ s2
     | true =>
       rw [hall] at q
       walk_at "rd"
       rw [d1]
       walk_at "rd"
       rw [d2]
       walk_at "rd"
       exact q _ s2
theorem ok_are_statements (T : Txt w K mg a) : FnE P w K mg base CX0 7 "are_statements" spAreX := by
 refine fnE_of (sp := spAreX) 6 T.fn_are_statements sc_are_statements (fun vs H Q E h => ?_) (fun f cdv A outer s H vs Q E hr h => ?_)
 · obtain ⟨b, h, ls, bs, hd, d0, rfl, _⟩ := h
   rfl
 · obtain ⟨b, h, ls, bs, hd, d0, rfl, hb, hls, h8, hh, hd8, q⟩ := h
   have hll := hls.1
   refine ⟨_, (pss_cons (ps_setC (i := 2) sc_are_statements.nd rfl rfl (own := ["body"]) (fr := []) rfl ⟨rfl, (by walk_at "clok"), (by walk_at "frok"), rfl, (by decide +kernel), (by decide +kernel), rfl⟩ (pi_seqK (K := K) rfl (pv 0)) (fun _ _ _ _ => (pg_name (i := 0) (show List.Nodup [("body" : Str)] from by decide +kernel) rfl (Or.inl rfl))) (fun _ _ _ _ => pts_nil) (fun _ _ _ _ => (pe_tup (pa_cons (pv 0) (pa_cons pe_int pa_nil)))))
     (pss_cons (ps_set (i := 3) sc_are_statements.nd rfl (Or.inl rfl) pe_int)
     (pss_cons (ps_while PassesOwn.never (pt_cmpR op_gt (pe_callB (call_lenK (K := K) rfl) rfl T.z_len b_len (pa_cons (pv 2) pa_nil)) pe_int (nomark _)) (pss_cons (ps_set (i := 4) sc_are_statements.nd rfl (Or.inr rfl) (pe_bm0K (K := K) rfl PySem.F.plainAttrs_list PySem.F.slot_list_pop PySem.F.type_list_pop mt_pop (pv 2)))
     (pss_cons (ps_set (i := 3) sc_are_statements.nd rfl (Or.inl rfl) (pe_op (op_plusK (K := K) rfl) (pv 3) (pe_callB (call_lenK (K := K) rfl) rfl T.z_len b_len (pa_cons (pe_ix (ix_K (K := K) rfl) (pv 4) pe_int (fun _ _ => rfl)) pa_nil))))
     (pss_cons (ps_if (PW.pt (pw_or (pt_cmpR op_gt (pv 3) (pe_glob (v := .int 80) rfl T.g_TOP_STATEMENTS.choose_spec ⟨_, rfl⟩) (nomark _)) (pw_or1 (pt_not (pt_truK (K := K) rfl (pe_callB (call_allK (K := K) rfl rfl) rfl T.z_all b_all (pa_cons (pe_comp (own := ["statement"]) (fr := [("handed", 1)]) rfl ⟨rfl, (by walk_at "clok"), (by walk_at "frok"), rfl, (by decide +kernel), (by decide +kernel), rfl⟩ (pi_seqK (K := K) rfl (pe_ix (ix_K (K := K) rfl) (pv 4) pe_int (fun _ _ => rfl))) (fun _ _ _ _ => (pg_name (i := 0) (show List.Nodup [("statement" : Str), ("handed" : Str)] from by decide +kernel) rfl (Or.inl rfl))) (fun _ _ _ _ => pts_nil) (fun _ _ _ _ => (pe_callE (ok_is_statement (K := K) T) (hr.mono (by decide)) pass0 rfl (pa_cons (pv 0) (pa_cons (pv 1) pa_nil))))) pa_nil))))))) (pss_one (ps_ret pe_bl)) pss_nil)
     (pss_one (ps_for PassesOwn.never rfl (pi_seqK (K := K) rfl (pe_ix (ix_K (K := K) rfl) (pv 4) pe_int (fun _ _ => rfl))) (pg_name (i := 5) sc_are_statements.nd rfl (Or.inl rfl)) (pss_cons (ps_set (i := 6) sc_are_statements.nd rfl (Or.inl rfl) (pe_callE (ok_lists_within (K := K) T) (hr.mono (by decide)) pass0 rfl (pa_cons (pv 5) pa_nil)))
     (pss_cons (ps_if (PW.pt (pw_and (pt_cmpR op_gt (pe_callB (call_lenK (K := K) rfl) rfl T.z_len b_len (pa_cons (pv 6) pa_nil)) pe_int (nomark _)) (pw_and1 (pt_cmpR (op_eqK (K := K) rfl hr.units) (pe_ix (ix_K (K := K) rfl) (pv 4) pe_int (fun _ _ => rfl)) (pe_glob (v := .int 4) rfl T.g_TOP_WITHIN.choose_spec ⟨_, rfl⟩) (nomark _))))) (pss_one (ps_ret pe_bl)) pss_nil)
     (pss_one (ps_expr (pe_bmK (K := K) rfl PySem.F.plainAttrs_list PySem.F.slot_list_extend PySem.F.type_list_extend mt_extend (pv 2) (pa_cons (pe_comp (own := ["statements"]) (fr := [("found", 4)]) rfl ⟨rfl, (by walk_at "clok"), (by walk_at "frok"), rfl, (by decide +kernel), (by decide +kernel), rfl⟩ (pi_seqK (K := K) rfl (pv 6)) (fun _ _ _ _ => (pg_name (i := 0) (show List.Nodup [("statements" : Str), ("found" : Str)] from by decide +kernel) rfl (Or.inl rfl))) (fun _ _ _ _ => pts_nil) (fun _ _ _ _ => (pe_tup (pa_cons (pv 0) (pa_cons (pe_op (op_plusK (K := K) rfl) (pe_ix (ix_K (K := K) rfl) (pv 1) pe_int (fun _ _ => rfl)) pe_int) pa_nil))))) pa_nil))))))))))))
     (pss_one (ps_ret pe_bl))))), ?_⟩
   refine r_st (σ' := [some _, some _, none, none, none, none, none]) rfl ?_
   walk_at "rd"
   refine comp_list (xs := ls.map V.ref) (fun i ys σ H1 => (∃ v, σ = [v]) ∧ Same H H1 ∧ ∃ ts : List Addr, ys = ts.map V.ref ∧ WaitX H H1 ts ((bs.take i).map fun b => (b, 0))) ⟨⟨_, rfl⟩, Same.refl _, [], rfl, by rw [List.take_zero]; exact Each.nil⟩ ?_ ?_ ?_
   · rintro i ys σ H1 hi ⟨_, s1, ts, rfl, hw⟩
     refine ⟨SqL.of (s1 _ _ hb), ?_⟩
     rw [List.length_map, hw.1, List.length_map, List.length_take]
     walk_at "small"
   · rintro i v ys σ H1 hv ⟨⟨u, rfl⟩, s1, ts, rfl, hw⟩
     obtain ⟨l, hx, rfl⟩ : ∃ p, ls[i]? = some p ∧ v = .ref p := by
       rw [List.getElem?_map] at hv
       obtain ⟨p, hp, e⟩ := Option.map_eq_some_iff.mp hv
       exact ⟨p, hp, e.symm⟩
     have hi : i < bs.length := by rw [← hll]; exact (List.getElem?_eq_some_iff.mp hx).1
     have hbi : bs[i]? = some bs[i] := List.getElem?_eq_getElem hi
     obtain ⟨g1, g2⟩ := hls.2 i l _ hx hbi
     walk_at "rd"
     rename_i t nt
     refine ⟨⟨_, rfl⟩, s1.trans (same_new nt), ts ++ [t], by rw [List.map_append]; rfl, ?_⟩
     rw [List.take_add_one, hbi, Option.toList_some, List.map_append]
     exact Each.snoc (hw.same (same_new nt)) ⟨l, d0, upd_same, g1, g2⟩
   rintro ys σ H1 ⟨_, s1, ts, rfl, hw⟩ lw nlw
   rw [List.length_map, hll, List.take_length] at hw
   have nlwH : H lw = none := none_same s1 nlw
   have hw1 := hw.same (same_new (o := .lst (ts.map V.ref)) nlw)
   have s2 := s1.trans (same_new (o := .lst (ts.map V.ref)) nlw)
   have hlw1 : (upd H1 lw (.lst (ts.map V.ref))) lw = some (.lst (ts.map V.ref)) := upd_same
   generalize (upd H1 lw (.lst (ts.map V.ref))) = H2 at hw1 s2 hlw1 ⊢
   clear hw nlw s1
   generalize hR : areB hd 400 0 ((bs.map fun b => (b, 0)).reverse) = R at q
   walk_at "rd"
   refine ⟨fun j σ H3 => Same H H3 ∧ ∃ (ts : List Addr) (ws : List (List Stm × Nat)) (many : Nat) (u v x : Option V), σ = [some (.ref b), some (.ref h), some (.ref lw), some (.int (many : Int)), u, v, x] ∧ H3 lw = some (.lst (ts.map V.ref)) ∧ WaitX H H3 ts ws ∧ areB hd j many ws.reverse = R ∧ many ≤ 80 ∧ 2 * (80 - many) + ws.length < j ∧ j ≤ 400, ⟨400, s2, ts, _, 0, _, _, _, rfl, hlw1, hw1, hR, by omega, by rw [List.length_map]; omega, Nat.le_refl _⟩, ?_⟩
   clear hw1 hlw1 s2 hR
   rintro j σ H3 ⟨s3, ts, ws, many, u, v, x, rfl, hlw, hw, hR, hm80, hj, hj4⟩
   have hwl := hw.1
   by_cases hz : 0 < ws.length
   · obtain ⟨ts', t, ws', ⟨ss, k⟩, rfl, rfl, hw', l, d, ht, ⟨ps, hl, hps⟩, hokk⟩ := hw.last hz
     have hpl : ps.length = ss.length := hps.1
     have hokk : ∀ s ∈ ss, WfS d s := hokk
     have hps : Each (StAt H d) ps ss := hps
     have ht : H3 t = some (.tup [.ref l, .int (k : Int)]) := ht
     obtain ⟨f, rfl⟩ : ∃ f, j = f + 1 := ⟨j - 1, by omega⟩
     rw [List.reverse_append] at hR
     have hR : areB hd (f + 1) many ((ss, k) :: ws'.reverse) = R := hR
     rw [List.length_append, List.length_singleton] at hj hwl
     walk_at "rd"
     refine ⟨_, fun σ' H' h => h, ?_⟩
     walk_at "rd"
     refine r_pop (xs := ts'.map V.ref) (by rw [hlw, List.map_append]; rfl) ?_
     have s4 : Same H (upd H3 lw (.lst (ts'.map V.ref))) := fun b o e => by rw [upd_ne (ne_of_none e nlwH)]; exact s3 b o e
     have hlw4 : (upd H3 lw (.lst (ts'.map V.ref))) lw = some (.lst (ts'.map V.ref)) := upd_same
     have ht4 : (upd H3 lw (.lst (ts'.map V.ref))) t = some (.tup [.ref l, .int (k : Int)]) := tup_upd hlw _ _ ht
     have hw4 := WaitX.to (tup_upd (o := .lst (ts'.map V.ref)) hlw) (show WaitX H H3 ts' ws' from hw')
     generalize (upd H3 lw (.lst (ts'.map V.ref))) = H4 at s4 hlw4 ht4 hw4 ⊢
     clear s3 hlw ht hw' hw
     have hl4 := s4 _ _ hl
     have hh4 := s4 _ _ hh
     walk_at "rd"
     rw [List.length_map, hpl]
     refine ifDec (fun hh1 => ?_) (fun hh1 => ?_)
     · walk_at "rd"
       rw [areB_many (by omega)] at hR
       rw [← hR] at q
       exact q _ s4
     have hmb : many + ss.length ≤ 80 := by omega
     clear hh1
     walk_at "rd"
     refine comp_mapL (α := Addr × Stm) (xs := ps.zip ss) (emb := fun x => V.ref x.1) (fun x => .bl (stB hd x.2)) (fun σ => ∃ v, σ = [v, some (.ref h)]) (by rw [zip_l hpl]; exact SqL.of hl4) (by rw [List.length_zip, sizeLine_eq]; omega) ⟨_, rfl⟩ ?_ ?_
     · rintro i ⟨p, sm⟩ ys σ H5 hx cc s5 ⟨v, rfl⟩
       obtain ⟨hx1, hx2⟩ := List.getElem?_zip_eq_some.mp hx
       have hok := hokk _ (List.mem_of_getElem? hx2)
       have hst := hps.2 i p _ hx1 hx2
       cases d with
       | zero => exact hst.elim
       | succ d =>
       walk_at "rd"
       refine ⟨p, h, d, sm, hd, rfl, StAt.same (s4.trans s5) hst, hok.1, s5 _ _ hh4, hd8, fun H6 s6 => ?_⟩
       exact cc.next hx rfl (s5.trans s6) ⟨_, rfl⟩
     intro H5 s5 lb nlb
     have s6 := s5.trans (same_new (o := .lst ((ps.zip ss).map fun x => V.bl (stB hd x.2))) nlb)
     walk_at "rd"
     refine r_all (bs := (ps.zip ss).map fun x => stB hd x.2) (by rw [List.map_map]; exact SqL.of upd_same) ?_
     generalize (upd H5 lb (.lst ((ps.zip ss).map fun x => V.bl (stB hd x.2)))) = H6 at s6 ⊢
     rw [show ((ps.zip ss).map fun x => stB hd x.2).all id = ss.all (stB hd) from by rw [List.all_map, ← zip_r hpl (b := ss), List.all_map, zip_r hpl]; rfl]
     have hlw6 := s6 _ _ hlw4
     have ht6 := s6 _ _ ht4
     have hw6 := hw4.same s6
     have s06 := s4.trans s6
     clear s5 nlb s6 ht4 hlw4 hl4 hh4 s4 hw4
     cases hall : ss.all (stB hd) with
     | false =>
       walk_at "rd"
       rw [areB_bad hall] at hR
       rw [← hR] at q
       exact q _ s06
     | true =>
     have hl6 := s06 _ _ hl
     walk_at "rd"
     refine for_list (K := K) (a := l) (xs := ps.map V.ref) (fun i σ H7 => (∃ x y, σ = [some (.ref b), some (.ref h), some (.ref lw), some (.int ((many : Int) + (ss.length : Int))), some (.ref t), x, y]) ∧ Same H H7 ∧ H7 t = some (.tup [.ref l, .int (k : Int)]) ∧ ∃ (tn : List Addr) (wn : List (List Stm × Nat)), H7 lw = some (.lst ((ts' ++ tn).map V.ref)) ∧ WaitX H H7 (ts' ++ tn) (ws' ++ wn) ∧ inB k (ss.take i) = some wn) ⟨⟨_, _, rfl⟩, s06, ht6, [], [], by rw [List.append_nil]; exact hlw6, by rw [List.append_nil, List.append_nil]; exact hw6, rfl⟩ (fun i σ H7 _ ⟨_, s7, _⟩ => SqL.of (s7 _ _ hl)) ?_ ?_
     · clear s06 hlw6 ht6 hl6 hw6
       rintro i v σ H7 hv ⟨⟨x, y, rfl⟩, s7, ht7, tn, wn, hlw7, hw7, hin⟩
       obtain ⟨p, hx, rfl⟩ : ∃ p, ps[i]? = some p ∧ v = .ref p := by
         rw [List.getElem?_map] at hv
         obtain ⟨p, hp, e⟩ := Option.map_eq_some_iff.mp hv
         exact ⟨p, hp, e.symm⟩
       have hi : i < ss.length := by rw [← hpl]; exact (List.getElem?_eq_some_iff.mp hx).1
       have hsi : ss[i]? = some ss[i] := List.getElem?_eq_getElem hi
       have hst := hps.2 i p _ hx hsi
       have hok := hokk _ (List.mem_of_getElem? hsi)
       have htk : ss.take (i + 1) = ss.take i ++ [ss[i]] := by rw [List.take_add_one, hsi]; rfl
       have hwn := inB_len hin
       rw [List.length_take] at hwn
       generalize ss[i] = sm at hsi hst hok htk
       cases d with
       | zero => exact hst.elim
       | succ d =>
       obtain ⟨w', xs, ls', F⟩ := hst.infX (hd := hd) hok.1
       have hbl := F.inn.1
       have h2 := inn_two sm
       walk_at "rd"
       refine ⟨p, w', xs.map fun x => (x.1.v, x.2), ls', rfl, by rw [List.map_map]; exact s7 _ _ F.hp, by rw [List.map_map]; exact F.kd, by rw [List.length_map]; exact F.few, F.fil, fun li H8 s8 hli nli => ?_⟩
       have hlw8 := s8 _ _ hlw7
       have ht8 := s8 _ _ ht7
       have hw8 := hw7.same s8
       have s08 := s7.trans s8
       clear s7 s8 hlw7 ht7 hw7 nli
       walk_at "rd"
       refine ifDec (fun hh1 => ?_) (fun hh1 => ?_)
       · have hne : sm.inn ≠ [] := fun z => by rw [List.length_map, hbl, z] at hh1; cases hh1
         clear hh1
         by_cases hk4 : k = 4
         · have hk5 : (k : Int) = 4 := by omega
           rw [areB_in (inB_no hsi hne hk4)] at hR
           rw [← hR] at q
           walk_at "rd"
           exact q _ s08
         · have hk5 : (k : Int) ≠ 4 := by omega
           have hns : ¬ (sm.inn ≠ [] ∧ k = 4) := fun z => hk4 z.2
           walk_at "rd"
           refine comp_list (xs := ls'.map V.ref) (fun i ys σ H9 => (∃ v, σ = [v, some (.ref t)]) ∧ Same H8 H9 ∧ ∃ ts2 : List Addr, ys = ts2.map V.ref ∧ WaitX H H9 ts2 ((sm.inn.take i).map fun b => (b, k + 1))) ⟨⟨_, rfl⟩, Same.refl _, [], rfl, by rw [List.take_zero]; exact Each.nil⟩ ?_ ?_ ?_
           · rintro i2 ys σ H9 hi ⟨_, s9, ts2, rfl, hw9⟩
             refine ⟨SqL.of (s9 _ _ hli), ?_⟩
             rw [List.length_map, hw9.1, List.length_map, List.length_take]
             walk_at "small"
           · rintro i2 v ys σ H9 hv ⟨⟨u, rfl⟩, s9, ts2, rfl, hw9⟩
             obtain ⟨l2, hx2, rfl⟩ : ∃ p, ls'[i2]? = some p ∧ v = .ref p := by
               rw [List.getElem?_map] at hv
               obtain ⟨p, hp, e⟩ := Option.map_eq_some_iff.mp hv
               exact ⟨p, hp, e.symm⟩
             have hi2 : i2 < sm.inn.length := by rw [← hbl]; exact (List.getElem?_eq_some_iff.mp hx2).1
             have hbi : sm.inn[i2]? = some sm.inn[i2] := List.getElem?_eq_getElem hi2
             have g1 := F.inn.2 i2 l2 _ hx2 hbi
             have g2 := hok.2 _ (List.mem_of_getElem? hbi)
             have ht9 := s9 _ _ ht8
             walk_at "rd"
             rename_i t2 nt2
             refine ⟨⟨_, rfl⟩, s9.trans (same_new nt2), ts2 ++ [t2], by rw [List.map_append]; rfl, ?_⟩
             rw [List.take_add_one, hbi, Option.toList_some, List.map_append]
             exact Each.snoc (hw9.same (same_new nt2)) ⟨l2, d, upd_same, g1, g2⟩
           rintro ys σ H9 ⟨_, s9, ts2, rfl, hw9⟩ l9 nl9
           rw [List.length_map, hbl, List.take_length] at hw9
           have hlw9 := s9 _ _ hlw8
           have ht9 := s9 _ _ ht8
           have hw79 := (hw8.same s9).same (same_new (o := .lst (ts2.map V.ref)) nl9)
           have hwa := Each.app hw79 (hw9.same (same_new (o := .lst (ts2.map V.ref)) nl9))
           have hl2 := hw9.1
           rw [List.length_map] at hl2
           have s99 := (s08.trans s9).trans (same_new (o := .lst (ts2.map V.ref)) nl9)
           have hlen := hw8.1
           rw [List.length_append, List.length_append] at hlen
           walk_at "rd"
           refine r_extend (look_new hlw9 nl9) upd_same (by rw [List.length_map, List.length_map, hl2, List.length_append, sizeLine_eq]; omega) ?_
           refine ⟨⟨_, _, rfl⟩, fun b o e => by rw [upd_ne (ne_of_none e nlwH)]; exact s99 b o e, tup_upd (look_new hlw9 nl9) _ _ (look_new ht9 nl9), tn ++ ts2, wn ++ sm.inn.map (fun b => (b, k + 1)), by rw [upd_same, ← List.append_assoc, List.map_append (l₂ := ts2)], ?_, ?_⟩
           · rw [← List.append_assoc, ← List.append_assoc]
             exact WaitX.to (tup_upd (look_new hlw9 nl9)) hwa
           · rw [htk]
             exact inB_snoc hns hin
       · have hne : sm.inn = [] := List.length_eq_zero_iff.mp (by rw [← hbl]; rw [List.length_map] at hh1; omega)
         have hns : ¬ (sm.inn ≠ [] ∧ k = 4) := fun z => z.1 hne
         clear hh1
         walk_at "rd"
         refine comp_list (xs := ls'.map V.ref) (fun i ys σ H9 => (∃ v, σ = [v, some (.ref t)]) ∧ Same H8 H9 ∧ ∃ ts2 : List Addr, ys = ts2.map V.ref ∧ WaitX H H9 ts2 ((sm.inn.take i).map fun b => (b, k + 1))) ⟨⟨_, rfl⟩, Same.refl _, [], rfl, by rw [List.take_zero]; exact Each.nil⟩ ?_ ?_ ?_
         · rintro i2 ys σ H9 hi ⟨_, s9, ts2, rfl, hw9⟩
           refine ⟨SqL.of (s9 _ _ hli), ?_⟩
           rw [List.length_map, hw9.1, List.length_map, List.length_take]
           walk_at "small"
         · rintro i2 v ys σ H9 hv ⟨⟨u, rfl⟩, s9, ts2, rfl, hw9⟩
           obtain ⟨l2, hx2, rfl⟩ : ∃ p, ls'[i2]? = some p ∧ v = .ref p := by
             rw [List.getElem?_map] at hv
             obtain ⟨p, hp, e⟩ := Option.map_eq_some_iff.mp hv
             exact ⟨p, hp, e.symm⟩
           have hi2 : i2 < sm.inn.length := by rw [← hbl]; exact (List.getElem?_eq_some_iff.mp hx2).1
           have hbi : sm.inn[i2]? = some sm.inn[i2] := List.getElem?_eq_getElem hi2
           have g1 := F.inn.2 i2 l2 _ hx2 hbi
           have g2 := hok.2 _ (List.mem_of_getElem? hbi)
           have ht9 := s9 _ _ ht8
           walk_at "rd"
           rename_i t2 nt2
           refine ⟨⟨_, rfl⟩, s9.trans (same_new nt2), ts2 ++ [t2], by rw [List.map_append]; rfl, ?_⟩
           rw [List.take_add_one, hbi, Option.toList_some, List.map_append]
           exact Each.snoc (hw9.same (same_new nt2)) ⟨l2, d, upd_same, g1, g2⟩
         rintro ys σ H9 ⟨_, s9, ts2, rfl, hw9⟩ l9 nl9
         rw [List.length_map, hbl, List.take_length] at hw9
         have hlw9 := s9 _ _ hlw8
         have ht9 := s9 _ _ ht8
         have hw79 := (hw8.same s9).same (same_new (o := .lst (ts2.map V.ref)) nl9)
         have hwa := Each.app hw79 (hw9.same (same_new (o := .lst (ts2.map V.ref)) nl9))
         have hl2 := hw9.1
         rw [List.length_map] at hl2
         have s99 := (s08.trans s9).trans (same_new (o := .lst (ts2.map V.ref)) nl9)
         have hlen := hw8.1
         rw [List.length_append, List.length_append] at hlen
         walk_at "rd"
         refine r_extend (look_new hlw9 nl9) upd_same (by rw [List.length_map, List.length_map, hl2, List.length_append, sizeLine_eq]; omega) ?_
         refine ⟨⟨_, _, rfl⟩, fun b o e => by rw [upd_ne (ne_of_none e nlwH)]; exact s99 b o e, tup_upd (look_new hlw9 nl9) _ _ (look_new ht9 nl9), tn ++ ts2, wn ++ sm.inn.map (fun b => (b, k + 1)), by rw [upd_same, ← List.append_assoc, List.map_append (l₂ := ts2)], ?_, ?_⟩
         · rw [← List.append_assoc, ← List.append_assoc]
           exact WaitX.to (tup_upd (look_new hlw9 nl9)) hwa
         · rw [htk]
           exact inB_snoc hns hin
     · rintro σ H7 ⟨⟨x, y, rfl⟩, s7, ht7, tn, wn, hlw7, hw7, hin⟩
       rw [List.length_map, hpl, List.take_length] at hin
       have hwn := inB_len hin
       refine ⟨f, by omega, s7, ts' ++ tn, ws' ++ wn, many + ss.length, _, _, _, rfl, hlw7, hw7, ?_, by omega, by rw [List.length_append]; omega, by omega⟩
       rw [← hR, areB_go hmb hall hin, List.reverse_append]
   · have e : ts = [] := List.length_eq_zero_iff.mp (by omega)
     subst e
     have e2 : ws = [] := List.length_eq_zero_iff.mp (by omega)
     subst e2
     obtain ⟨f, rfl⟩ : ∃ f, j = f + 1 := ⟨j - 1, by omega⟩
     have hR : true = R := hR
     rw [← hR] at q
     walk_at "rd"
     exact q _ s3
theorem ok_is_program (T : Txt w K mg a) : FnE P w K mg base CX0 8 "is_program" spIsPX := by
 refine fnE_of (sp := spIsPX) 7 T.fn_is_program sc_is_program (fun vs H Q E h => ?_) (fun f cdv A outer s H vs Q E hr h => ?_)
 · obtain ⟨pr, fs, rfl, _⟩ := h
   rfl
 · obtain ⟨pr, fs, rfl, ⟨ps, hpr, hps⟩, O, q⟩ := h
   have hpl := hps.1
   have o2 := O.few
   refine ⟨_, (pss_cons (ps_if (PW.pt (pw_or (pt_not (pt_truK (K := K) rfl (pe_callB (call_isiK (K := K) rfl) rfl T.z_isinstance b_isinstance (pa_cons (pv 0) (pa_cons (pe_bltn (v := .ty "list") rfl T.z_list b_list rfl) pa_nil))))) (pw_or1 (pt_not (pt_chain op_le op_le pe_int (pe_callB (call_lenK (K := K) rfl) rfl T.z_len b_len (pa_cons (pv 0) pa_nil)) (pe_glob (v := .int 8) rfl T.g_TOP_FUNCTIONS.choose_spec ⟨_, rfl⟩)))))) (pss_one (ps_ret pe_bl)) pss_nil)
     (pss_cons (ps_if (pt_not (pt_truK (K := K) rfl (pe_callB (call_allK (K := K) rfl rfl) rfl T.z_all b_all (pa_cons (pe_comp (own := ["function"]) (fr := []) rfl ⟨rfl, (by walk_at "clok"), (by walk_at "frok"), rfl, (by decide +kernel), (by decide +kernel), rfl⟩ (pi_seqK (K := K) rfl (pv 0)) (fun _ _ _ _ => (pg_name (i := 0) (show List.Nodup [("function" : Str)] from by decide +kernel) rfl (Or.inl rfl))) (fun _ _ _ _ => pts_nil) (fun _ _ _ _ => (pe_callE (ok_is_function (K := K) T) (hr.mono (by decide)) pass0 rfl (pa_cons (pv 0) pa_nil)))) pa_nil)))) (pss_one (ps_ret pe_bl)) pss_nil)
     (pss_one (ps_ret (pe_callE (ok_are_statements (K := K) T) (hr.mono (by decide)) pass0 rfl (pa_cons (pe_comp (own := ["function"]) (fr := []) rfl ⟨rfl, (by walk_at "clok"), (by walk_at "frok"), rfl, (by decide +kernel), (by decide +kernel), rfl⟩ (pi_seqK (K := K) rfl (pv 0)) (fun _ _ _ _ => (pg_name (i := 0) (show List.Nodup [("function" : Str)] from by decide +kernel) rfl (Or.inl rfl))) (fun _ _ _ _ => pts_nil) (fun _ _ _ _ => (pe_ix (ix_K (K := K) rfl) (pv 0) pe_int (fun _ _ => rfl)))) (pa_cons (pe_comp (own := ["function"]) (fr := []) rfl ⟨rfl, (by walk_at "clok"), (by walk_at "frok"), rfl, (by decide +kernel), (by decide +kernel), rfl⟩ (pi_seqK (K := K) rfl (pv 0)) (fun _ _ _ _ => (pg_name (i := 0) (show List.Nodup [("function" : Str)] from by decide +kernel) rfl (Or.inl rfl))) (fun _ _ _ _ => pts_nil) (fun _ _ _ _ => (pe_ix (ix_K (K := K) rfl) (pv 0) pe_int (fun _ _ => rfl)))) pa_nil))))))), ?_⟩
   refine r_st (σ' := [some _]) rfl ?_
   have hget : ∀ {i : Nat} {p : Addr}, ps[i]? = some p → ∃ f l, fs[i]? = some f ∧ H p = some (.tup [.int f.1, .ref l]) ∧ BdAt (StAt H 41) H l f.2 := fun {i p} hx => by
     have hi : i < fs.length := by rw [← hpl]; exact (List.getElem?_eq_some_iff.mp hx).1
     obtain ⟨l, e1, e2⟩ := hps.2 i p _ hx (List.getElem?_eq_getElem hi)
     exact ⟨_, l, List.getElem?_eq_getElem hi, e1, e2⟩
   by_cases h1 : 1 ≤ fs.length ∧ fs.length ≤ 8
   case neg =>
     have e : progB fs = false := by
       unfold progB
       by_cases z : 1 ≤ fs.length
       · rw [decide_eq_false (show ¬ fs.length ≤ 8 by omega)]; simp
       · rw [decide_eq_false z]; simp
     rw [e] at q
     by_cases z : 1 ≤ fs.length
     · have z2 : ¬ (((ps.map V.ref).length : Int) ≤ 8) := by rw [List.length_map]; omega
       have z3 : (1 : Int) ≤ ((ps.map V.ref).length : Int) := by rw [List.length_map]; omega
       walk_at "rd"
       exact q _ (Same.refl _)
     · have z3 : ¬ ((1 : Int) ≤ ((ps.map V.ref).length : Int)) := by rw [List.length_map]; omega
       walk_at "rd"
       exact q _ (Same.refl _)
   case pos =>
   obtain ⟨o1, o8⟩ := h1
   have hpB : progB fs = (fs.all (fun f => upB f.1 3) && areB (fs.map (·.1)) 400 0 ((fs.map fun f => (f.2, 0)).reverse)) := by
     unfold progB
     rw [decide_eq_true o1, decide_eq_true o8]; rfl
   have z2 : (((ps.map V.ref).length : Int) ≤ 8) := by rw [List.length_map]; omega
   have z3 : (1 : Int) ≤ ((ps.map V.ref).length : Int) := by rw [List.length_map]; omega
   walk_at "rd"
   refine comp_mapL (α := Addr) (xs := ps) (emb := V.ref) (fun p => .bl (upB (numOf (H p)) 3)) (fun σ => ∃ v, σ = [v]) (SqL.of hpr) (by rw [sizeLine_eq]; omega) ⟨_, rfl⟩ ?_ ?_
   · rintro i p ys σ H1 hx cc s1 ⟨v, rfl⟩
     obtain ⟨f', l, hm, e1, ps', e2, _⟩ := hget hx
     walk_at "rd"
     refine ⟨p, l, f'.1, _, rfl, s1 _ _ e1, O.hd f' (List.mem_of_getElem? hm), s1 _ _ e2, ?_⟩
     exact cc.next hx (by rw [e1]; rfl) s1 ⟨_, rfl⟩
   intro H1 s1 l1 nl1
   have s2 := s1.trans (same_new (o := .lst (ps.map fun p => V.bl (upB (numOf (H p)) 3))) nl1)
   walk_at "rd"
   refine r_all (bs := ps.map fun p => upB (numOf (H p)) 3) (by rw [List.map_map]; exact SqL.of upd_same) ?_
   generalize (upd H1 l1 (.lst (ps.map fun p => V.bl (upB (numOf (H p)) 3)))) = H2 at s2 ⊢
   have eall : (ps.map fun p => upB (numOf (H p)) 3).all id = fs.all fun f => upB f.1 3 := by
     rw [hps.map_eq (k := fun f => upB f.1 3) (fun p f' ⟨l, e, _⟩ => by rw [e]; rfl), List.all_map]; rfl
   rw [eall]
   clear nl1 s1 eall
   have hpr2 := s2 _ _ hpr
   rw [hpB] at q
   cases hall : fs.all fun f => upB f.1 3 with
   | false =>
     rw [hall, Bool.false_and] at q
     walk_at "rd"
     exact q _ s2
   | true =>
   rw [hall, Bool.true_and] at q
   walk_at "rd"
   refine comp_mapL (α := Addr) (xs := ps) (emb := V.ref) (fun p => .ref (bodyOf (H p))) (fun σ => ∃ v, σ = [v]) (SqL.of hpr2) (by rw [sizeLine_eq]; omega) ⟨_, rfl⟩ ?_ ?_
   · rintro i p ys σ H3 hx cc s3 ⟨v, rfl⟩
     obtain ⟨f', l, hm, e1, _⟩ := hget hx
     have e3 := s3 _ _ (s2 _ _ e1)
     walk_at "rd"
     exact cc.next hx (by rw [e1]; rfl) s3 ⟨_, rfl⟩
   intro H3 s3 l3 nl3
   have s4 := s2.trans (s3.trans (same_new (o := .lst (ps.map fun p => .ref (bodyOf (H p)))) nl3))
   have hl3 : (upd H3 l3 (.lst (ps.map fun p => .ref (bodyOf (H p))))) l3 = some (.lst ((ps.map fun p => bodyOf (H p)).map V.ref)) := by rw [upd_same, List.map_map]; rfl
   generalize (upd H3 l3 (.lst (ps.map fun p => .ref (bodyOf (H p))))) = H4 at s4 hl3 ⊢
   clear nl3 s3 s2 hpr2
   have hpr4 := s4 _ _ hpr
   walk_at "rd"
   refine comp_mapL (α := Addr) (xs := ps) (emb := V.ref) (fun p => .int (numOf (H p))) (fun σ => ∃ v, σ = [v]) (SqL.of hpr4) (by rw [sizeLine_eq]; omega) ⟨_, rfl⟩ ?_ ?_
   · rintro i p ys σ H5 hx cc s5 ⟨v, rfl⟩
     obtain ⟨f', l, hm, e1, _⟩ := hget hx
     have e3 := s5 _ _ (s4 _ _ e1)
     walk_at "rd"
     exact cc.next hx (by rw [e1]; rfl) s5 ⟨_, rfl⟩
   intro H5 s5 l5 nl5
   have hnm : (ps.map fun p => V.int (numOf (H p))) = (fs.map (·.1)).map V.int := by
     rw [List.map_map]
     exact hps.map_eq fun p f' ⟨l, e, _⟩ => by rw [e]; rfl
   rw [hnm]
   have s6 := s4.trans (s5.trans (same_new (o := .lst ((fs.map (·.1)).map V.int)) nl5))
   have hl5 : (upd H5 l5 (.lst ((fs.map (·.1)).map V.int))) l5 = some (.lst ((fs.map (·.1)).map V.int)) := upd_same
   have hl36 := look_new (o := .lst ((fs.map (·.1)).map V.int)) (s5 _ _ hl3) nl5
   generalize (upd H5 l5 (.lst ((fs.map (·.1)).map V.int))) = H6 at s6 hl5 hl36 ⊢
   walk_at "rd"
   refine ⟨l3, l5, ps.map fun p => bodyOf (H p), fs.map (·.2), fs.map (·.1), 41, rfl, hl36, ?_, by rw [List.length_map]; exact o8, hl5, by rw [List.length_map]; exact o8, fun H7 s7 => ?_⟩
   · refine ⟨by rw [List.length_map, List.length_map]; exact hpl, fun i l b a1 a2 => ?_⟩
     rw [List.getElem?_map] at a1 a2
     obtain ⟨p, hp, rfl⟩ := Option.map_eq_some_iff.mp a1
     obtain ⟨f', hf, rfl⟩ := Option.map_eq_some_iff.mp a2
     obtain ⟨l, e1, e2⟩ := hps.2 i p f' hp hf
     have el : bodyOf (H p) = l := by rw [e1]; rfl
     rw [el]
     exact ⟨e2.same s6 (fun _ _ => StAt.same s6), O.ok f' (List.mem_of_getElem? hf)⟩
   · rw [List.map_map]
     exact q _ (s6.trans s7)
theorem ok_asked_for_program (T : Txt w K mg a) : FnE P w K mg base (CXR P w) 9 "asked_for_program" (spAskPX a) := by
 refine fnX_of (sp := (spAskPX a)) 8 T.fn_asked_for_program sc_asked_for_program (fun vs H Q E h => ?_) (fun f cdv A outer s H vs Q E hr h => ?_)
 · obtain ⟨pr, fs, rfl, _⟩ := h
   rfl
 · obtain ⟨pr, fs, rfl, hp, hok, q, e⟩ := h
   refine ⟨_, (pss_one (ps_if (PT.nox (pt_not (pt_truK (K := K) rfl (pe_callE (ok_is_program (K := K) T) (hr.mono (by decide)) pass0 rfl (pa_cons (pv 0) pa_nil))))) (pss_one (ps_raise T.x_NoProgram rfl (pa_cons pe_str pa_nil))) pss_nil)), ?_⟩
   refine r_st (σ' := [some _]) rfl ?_
   walk_at "rd"
   refine ⟨pr, fs, rfl, hp, hok, fun H1 s1 => ?_⟩
   cases hb : progB fs with
   | true =>
     walk_at "rd"
     exact q hb _ s1
   | false =>
     walk_at "rd"
     exact ⟨by decide, e hb _ s1⟩
theorem me_statementsS {k lv : Nat} (hk : 2 ≤ k) (G : MethE P w K mg base (CXR P w) k a.C_ProgramRows "statement" (spPSX a lv)) (T : Txt w K mg a) : MethE P w K mg base (CXR P w) (k + 1) a.C_ProgramRows "statements" (spPLX a lv) := by
 refine methX_of (sp := (spPLX a lv)) k T.cl_ProgramRows T.m_ProgramRows_statements sc_ProgramRows_statements (fun vs H Q E h => ?_) (fun f cdv A outer s H vs Q E hr h => ?_)
 · obtain ⟨x, dx, lr, fs, k', ps, rs, f0, rfl, _⟩ := h
   rfl
 · obtain ⟨x, dx, lr, fs, k', ps, rs, f0, rfl, R, hN, hf0, eN, q⟩ := h
   refine ⟨_, (pss_cons (PS.nox (ps_set (i := 2) sc_ProgramRows_statements.nd rfl (Or.inl rfl) (pe_lst pa_nil)))
     (pss_cons (ps_while PassesOwn.leaving (PT.nox (pt_cmpR (op_notInK (K := K) rfl) (pe_methK0 (P := P) (w := w) (K := K) (mg := mg) (base := base) (k := 1) ⟨rfl, rfl, rfl, rfl, rfl⟩ (pv 0) (hr.mono (by omega)) pass0) (pe_glob (v := .ref a.G_NO_STATEMENT) rfl T.s_NO_STATEMENT rfl) rfl)) (pss_one (ps_expr (pe_bmK (K := K) rfl PySem.F.plainAttrs_list PySem.F.slot_list_append PySem.F.type_list_append mt_append (pv 2) (pa_cons (pe_methK (P := P) (w := w) (K := K) (mg := mg) (base := base) (k := k) ⟨rfl, rfl, rfl, rfl, rfl⟩ (pv 0) (hr.mono (by omega)) pass_on (pa_cons (pv 1) pa_nil)) pa_nil)))))
     (pss_one (PS.nox (ps_ret (pv 2)))))), ?_⟩
   refine r_st (σ' := [some _, some _, none]) rfl ?_
   walk_at "rq"
   rename_i l nl
   have nxl : l ≠ x := fun z => by rw [z, R.obj] at nl; cases nl
   have h300 := R.few
   have sl : Same H (upd H l (.lst [])) := same_new nl
   refine ⟨fun j σ HQ => ∃ (k1 : Nat) (fs' : List (Str × V)) (qs : List Addr) (acc : List Stm), σ = [some (.ref x), some (.int (40 - (lv : Int))), some (.ref l)] ∧ KeepX x H HQ ∧ HQ l = some (.lst (qs.map V.ref)) ∧ PRt a HQ x dx lr fs' k1 ps rs ∧ (rs.drop k1).length < j ∧ qs.length + (rs.drop k1).length ≤ rs.length ∧ pL f0 lv (rs.drop k') = (pL j lv (rs.drop k1)).map (fun y => (acc ++ y.1, y.2)) ∧ Each (StAt (nt (upd H l (.lst [])) HQ) (lv + 1)) qs acc, ⟨f0, k', fs, [], [], rfl, KeepX.of sl, upd_same, R.same sl, hf0, by rw [List.length_drop]; show 0 + _ ≤ _; omega, by cases pL f0 lv (rs.drop k') <;> rfl, Each.nil⟩, ?_⟩
   rintro j σ HQ ⟨k1, fs', qs, acc, rfl, kp, hl, R1, hfj, hqn, hpl, he⟩
   obtain ⟨j, rfl⟩ : ∃ i, j = i + 1 := ⟨j - 1, by omega⟩
   walk_at "rq"
   refine r_methV R1.obj (R1.pf.no _ (by decide +kernel)) ((me_ProgramRows_next_word T).mono (by omega)) ?_
   walk_at "rq"
   refine ⟨x, dx, lr, fs', _, ps, rs, rfl, R1, ?_⟩
   walk_at "rq"
   refine ⟨_, _, rfl, .inr (T.t_NO_STATEMENT _), rfl, rfl, ?_⟩
   rw [if_pos rfl, inV_stop]
   cases hdr : rs.drop k1 with
   | nil =>
     rw [hdr] at hpl
     have hw : wordAt rs k1 = "" := word_drop hdr
     rw [hw, decide_eq_true (show ("" : Str) ∈ stopW by decide +kernel)]
     walk_at "rq"
     exact q acc [] (by rw [hpl]; show some (acc ++ [], ([] : List RD)) = _; rw [List.append_nil]) l qs fs' k1 HQ kp nl R1 hdr hl he
   | cons r t =>
   have hw : wordAt rs k1 = r.1 := word_drop hdr
   rw [hw]
   rw [hdr] at hpl hfj hqn
   rw [List.length_cons] at hfj hqn
   by_cases hst : r.1 ∈ stopW
   · rw [decide_eq_true hst]
     walk_at "rq"
     refine q acc (r :: t) ?_ l qs fs' k1 HQ kp nl R1 hdr hl he
     rw [hpl, pL_stop (.inr ⟨r, t, rfl, hst⟩)]
     show some (acc ++ [], r :: t) = _
     rw [List.append_nil]
   rw [decide_eq_false hst]
   walk_at "rq"
   refine ⟨_, fun σ' H' h => h, ?_⟩
   walk_at "rq"
   refine r_methV R1.obj (R1.pf.no _ (by decide +kernel)) G ?_
   walk_at "rq"
   refine ⟨x, dx, lr, fs', k1, ps, rs, r, t, j, rfl, R1, hN, hdr, hst, by omega, fun hno H2 k2 => ?_, fun s' t' hso p fs2 k2' H2 k2 R2 hd2 hst2 => ?_⟩
   · exact eN (by rw [hpl, pL_none hst hno]; rfl) H2 (kp.trans k2)
   have hl2 := k2 _ _ hl nxl
   have htl := one_len hso
   walk_at "rq"
   refine ⟨j, by omega, k2', fs2, qs ++ [p], acc ++ [s'], rfl, fun b o e n => ?_, by rw [upd_same, List.map_append]; rfl, ?_, by rw [hd2]; omega, by rw [hd2, List.length_append, List.length_singleton]; omega, ?_, ?_⟩
   · rw [upd_ne (fun z => by rw [z, nl] at e; cases e)]; exact k2 b o (kp b o e n) n
   · exact R2.put hl2 nxl (fun z => by rw [z, R.lst] at nl; cases nl)
   · rw [hpl, pL_on hst hso, hd2]
     cases pL j lv t' with
     | none => rfl
     | some y => show some (acc ++ s' :: y.1, y.2) = some ((acc ++ [s']) ++ y.1, y.2); rw [List.append_assoc]; rfl
   · refine Each.snoc (he.mono fun p' z h => StAt.same (nt_sub (fun b o e1 e2 => ?_) (fun b xs e => nt_tup e)) h) (StAt.same (nt_sub (fun b o e1 e2 => ?_) (fun b xs e => ?_)) hst2)
     · have nb := upd_none e1
       have nx : b ≠ x := fun z => by rw [z, R.obj] at nb; cases nb.1
       exact nt_new e1 (by rw [upd_ne nb.2]; exact k2 b o e2 nx)
     · have nb : b ≠ l := fun z => by rw [z, hl] at e1; cases e1
       have nx : b ≠ x := fun z => by rw [z, R1.obj] at e1; cases e1
       have hn := KeepX.none kp R.obj R1.obj e1
       exact nt_new (by rw [upd_ne nb]; exact hn) (by rw [upd_ne nb]; exact e2)
     · have nb : b ≠ l := fun z => by rw [z, hl] at e; cases e
       have nx : b ≠ x := fun z => by rw [z, R1.obj] at e; cases e
       cases h : H b with
       | none => exact nt_new (by rw [upd_ne nb]; exact h) (by rw [upd_ne nb]; exact k2 _ _ e nx)
       | some o =>
         have := kp b o h nx
         rw [e] at this
         cases this
         exact nt_tup (by rw [upd_ne nb]; exact h)
theorem me_statementS {k lv : Nat} (hk : 3 ≤ k) (G : ∀ l, lv = l + 1 → MethE P w K mg base (CXR P w) k a.C_ProgramRows "statements" (spPLX a l)) (T : Txt w K mg a) : MethE P w K mg base (CXR P w) (k + 1) a.C_ProgramRows "statement" (spPSX a lv) := by
 refine methX_of (sp := (spPSX a lv)) k T.cl_ProgramRows T.m_ProgramRows_statement sc_ProgramRows_statement (fun vs H Q E h => ?_) (fun f cdv A outer s H vs Q E hr h => ?_)
 · obtain ⟨x, dx, lr, fs, k', ps, rs, r, t, f', rfl, _⟩ := h
   rfl
 · obtain ⟨x, dx, lr, fs, k', ps, rs, r, t, f', rfl, R, hN, hdr, hns, hft, eN, q⟩ := h
   obtain ⟨hr0, hd1⟩ := drop_cons hdr
   have hNr := hN r (List.mem_of_getElem? hr0)
   have hw0 : wordAt rs k' = r.1 := word_drop hdr
   refine ⟨_, (pss_cons (ps_set (i := 2) sc_ProgramRows_statement.nd rfl (Or.inl rfl) (pe_methK (P := P) (w := w) (K := K) (mg := mg) (base := base) (k := 2) ⟨rfl, rfl, rfl, rfl, rfl⟩ (pv 0) (hr.mono (by omega)) pass_on (pa_cons (pe_methK0 (P := P) (w := w) (K := K) (mg := mg) (base := base) (k := 1) ⟨rfl, rfl, rfl, rfl, rfl⟩ (pv 0) (hr.mono (by omega)) pass0) pa_nil)))
     (pss_cons (PS.nox (ps_if (pt_cmpR (op_notInK (K := K) rfl) (pe_ix (ix_K (K := K) rfl) (pv 2) pe_int (fun _ _ => rfl)) (pe_tup (pa_cons pe_str (pa_cons pe_str (pa_cons pe_str pa_nil)))) rfl) (pss_one (ps_ret (pe_callE (ok_plain_statement (K := K) T) (hr.mono (by omega)) pass0 rfl (pa_cons (pv 2) pa_nil)))) pss_nil))
     (pss_cons (ps_if (PT.nox (pt_cmpR (op_eqK (K := K) rfl hr.units) (pv 1) (pe_glob (v := .int 40) rfl T.g_TOP_READ_WITHIN.choose_spec ⟨_, rfl⟩) (nomark _))) (pss_one (ps_raise T.x_NoText rfl (pa_cons (pe_fstr (pe_glob (v := .int 40) rfl T.g_TOP_READ_WITHIN.choose_spec ⟨_, rfl⟩)) pa_nil))) pss_nil)
     (pss_cons (ps_set (i := 3) sc_ProgramRows_statement.nd rfl (Or.inl rfl) (pe_methK (P := P) (w := w) (K := K) (mg := mg) (base := base) (k := k) ⟨rfl, rfl, rfl, rfl, rfl⟩ (pv 0) (hr.mono (by omega)) pass_on (pa_cons (pe_op (op_plusK (K := K) rfl) (pv 1) pe_int) pa_nil)))
     (pss_cons (ps_if (PT.nox (pt_cmpR (op_eqK (K := K) rfl hr.units) (pe_ix (ix_K (K := K) rfl) (pv 2) pe_int (fun _ _ => rfl)) pe_str (nomark _))) (pss_cons (ps_expr (pe_methK (P := P) (w := w) (K := K) (mg := mg) (base := base) (k := 2) ⟨rfl, rfl, rfl, rfl, rfl⟩ (pv 0) (hr.mono (by omega)) pass_on (pa_cons pe_str pa_nil)))
     (pss_one (PS.nox (ps_ret (pe_tup (pa_cons pe_str (pa_cons (pe_ix (ix_K (K := K) rfl) (pv 2) pe_int (fun _ _ => rfl)) (pa_cons (pv 3) pa_nil)))))))) pss_nil)
     (pss_cons (ps_set (i := 4) sc_ProgramRows_statement.nd rfl (Or.inl rfl) (pe_methK (P := P) (w := w) (K := K) (mg := mg) (base := base) (k := 2) ⟨rfl, rfl, rfl, rfl, rfl⟩ (pv 0) (hr.mono (by omega)) pass_on (pa_cons (pe_ifExp (pt_cmpR (op_eqK (K := K) rfl hr.units) (pe_ix (ix_K (K := K) rfl) (pv 2) pe_int (fun _ _ => rfl)) pe_str (nomark _)) pe_str pe_str) pa_nil)))
     (pss_cons (ps_set (i := 5) sc_ProgramRows_statement.nd rfl (Or.inl rfl) (pe_methK (P := P) (w := w) (K := K) (mg := mg) (base := base) (k := k) ⟨rfl, rfl, rfl, rfl, rfl⟩ (pv 0) (hr.mono (by omega)) pass_on (pa_cons (pe_op (op_plusK (K := K) rfl) (pv 1) pe_int) pa_nil)))
     (pss_cons (ps_expr (pe_methK (P := P) (w := w) (K := K) (mg := mg) (base := base) (k := 2) ⟨rfl, rfl, rfl, rfl, rfl⟩ (pv 0) (hr.mono (by omega)) pass_on (pa_cons pe_str pa_nil)))
     (pss_one (PS.nox (ps_ret (pe_ifExp (pt_cmpR (op_eqK (K := K) rfl hr.units) (pe_ix (ix_K (K := K) rfl) (pv 2) pe_int (fun _ _ => rfl)) pe_str (nomark _)) (pe_tup (pa_cons pe_str (pa_cons (pe_ix (ix_K (K := K) rfl) (pv 2) pe_int (fun _ _ => rfl)) (pa_cons (pv 3) (pa_cons (pv 5) pa_nil))))) (pe_tup (pa_cons pe_str (pa_cons (pv 3) (pa_cons (pe_ix (ix_K (K := K) rfl) (pv 4) pe_int (fun _ _ => rfl)) (pa_cons (pv 5) pa_nil))))))))))))))))), ?_⟩
   refine r_st (σ' := [some _, some _, none, none, none, none]) rfl ?_
   walk_at "rq"
   refine r_methV R.obj (R.pf.no _ (by decide +kernel)) ((me_ProgramRows_take_row T).mono (by omega)) ?_
   walk_at "rq"
   refine r_methV R.obj (R.pf.no _ (by decide +kernel)) ((me_ProgramRows_next_word T).mono (by omega)) ?_
   walk_at "rq"
   refine ⟨x, dx, lr, fs, k', ps, rs, rfl, R, ?_⟩
   walk_at "rq"
   refine ⟨x, dx, lr, fs, k', ps, rs, _, rfl, R, fun z => absurd rfl z, fun _ => ⟨fun z => hns (by rw [← hw0, z]; decide +kernel), fun r' p fs1 H1 hr' _ hpk kp1 nn1 R1 hrow => ?_⟩⟩
   obtain rfl : r = r' := by rw [hr0] at hr'; injection hr'
   clear hr' hw0
   walk_at "rq"
   refine r_ixT (v := .str r.1) (SqT.of hrow) (at_head _ _) ?_
   walk_at "rq"
   rename_i e1 m1
   refine ⟨_, _, rfl, .inr (SqT.of upd_same), rfl, rfl, ?_⟩
   have hin : inV (V.str r.1) [V.str "if", V.str "while", V.str "try"] = decide (r.1 ∈ (["if", "while", "try"] : List Str)) := inV_strs r.1 ["if", "while", "try"]
   rw [if_pos rfl, hin]
   have s2 := same_new (o := .tup [.str "if", .str "while", .str "try"]) m1
   have R1' := R1.same s2
   have kp1' := kp1.same s2
   have hrow1 := s2 _ _ hrow
   generalize (upd H1 e1 (.tup [.str "if", .str "while", .str "try"])) = H1' at R1' kp1' hrow1 ⊢
   clear s2 m1 R1 kp1 nn1 hrow hin
   by_cases h3 : r.1 ∈ (["if", "while", "try"] : List Str)
   case neg =>
     rw [decide_eq_false h3]
     simp only [List.mem_cons, List.not_mem_nil, or_false, not_or] at h3
     obtain ⟨h31, h32, h33⟩ := h3
     obtain ⟨s1, hs1⟩ := plain_some hNr.ct hns h32 h31 h33
     walk_at "rq"
     refine ⟨p, s1, r, rfl, hrow1, hs1, hNr, fun p' H2 s3 hst => ?_⟩
     exact q s1 t (one_pl h32 h31 h33 hs1) p' fs1 (k' + 1) H2 (kp1'.same s3) (R1'.same s3) hd1 (StAt.same (nt_sub1 kp1' R.obj R1'.obj (KeepX.of s3) KeepX.refl) (hst lv))
   case pos =>
   rw [decide_eq_true h3]
   have h3 : r.1 = "while" ∨ r.1 = "if" ∨ r.1 = "try" := by
     simp only [List.mem_cons, List.not_mem_nil, or_false] at h3
     rcases h3 with z | z | z
     · exact .inr (.inl z)
     · exact .inl z
     · exact .inr (.inr z)
   cases lv with
   | zero =>
     have z : (40 - ((0 : Nat) : Int)) = 40 := by omega
     have eZ := eN (one_deep h3) _ kp1'
     walk_at "rq"
     refine r_fstrC (by decide +kernel) (by decide +kernel) (by decide +kernel) ?_
     walk_at "rq"
     exact ⟨by show 1 ≤ 1000; decide, eZ⟩
   | succ l =>
   have z : (40 - ((l + 1 : Nat) : Int)) ≠ 40 := by omega
   walk_at "rq"
   refine r_methV R1'.obj (R1'.pf.no _ (by decide +kernel)) (G l rfl) ?_
   walk_at "rq"
   refine ⟨x, dx, lr, fs1, k' + 1, ps, rs, f', by rw [show (40 : Int) - ((l + 1 : Nat) : Int) + 1 = 40 - (l : Int) by omega], R1', hN, by rw [hd1]; exact hft, fun hno H2 k2 => ?_, fun sa u hsa l2 q2 fs2 k2 H2 kp2 nl2 R2 hd2 hl2 he2 => ?_⟩
   · rw [hd1] at hno
     refine eN ?_ H2 (kp1'.trans k2)
     rcases h3 with h3 | h3 | h3
     · exact one_while_n h3 hno
     · exact one_if_n h3 hno
     · exact one_try_n h3 hno
   rw [hd1] at hsa
   have hul := (pL_bal _ _ _ _ _ hsa).len
   have hrow2 := kp2.tup R1'.obj _ _ hrow1
   clear z
   rcases h3 with h3 | h3 | h3
   · obtain ⟨y, rfl⟩ : ∃ y, r = rd "while" [y] := ⟨_, row_1 h3 (by decide +kernel) hNr.ct⟩
     have hrow2 : H2 p = some (.tup [.str "while", .int y]) := hrow2
     walk_at "rq"
     refine r_methV R2.obj (R2.pf.no _ (by decide +kernel)) ((me_ProgramRows_take_row T).mono (by omega)) ?_
     walk_at "rq"
     refine ⟨x, dx, lr, fs2, k2, ps, rs, "end", rfl, R2, fun hne => ⟨by decide +kernel, eN (one_while_w rfl hsa (by rw [← word_drop hd2]; exact hne)) H2 (kp1'.trans kp2)⟩, fun hwe => ⟨by decide +kernel, fun r3 p3 fs3 H3 hr3 er3 hp3 kp3 nn3 R3 hrow3 => ?_⟩⟩
     have hu := drop_get hr3
     rw [hd2] at hu
     subst hu
     have hrow6 := kp3.tup R2.obj _ _ hrow2
     walk_at "rq"
     rename_i t6 nt
     have s6 := same_new (o := .tup [.str "while", .int y, .ref l2]) nt
     have k25 := kp3.same s6
     have kall := (kp1'.trans (kp2.trans kp3)).same s6
     have nlx2 : l2 ≠ x := fun z => by rw [z, R1'.obj] at nl2; cases nl2
     have n2H := KeepX.none kp1' R.obj R1'.obj nl2
     have ntH := KeepX.none (kp1'.trans (kp2.trans kp3)) R.obj R3.obj nt
     have sx := nt_sub2 (l := l2) kp1' R.obj R1'.obj kp2 k25
     exact q _ _ (one_while_y rfl hsa er3) t6 fs3 (k2 + 1) _ kall (R3.same s6) rfl ⟨l2, nt_new ntH upd_same, q2, nt_new n2H (k25 _ _ hl2 nlx2), he2.mono fun _ _ h => StAt.same sx h⟩
   · obtain ⟨y, rfl⟩ : ∃ y, r = rd "if" [y] := ⟨_, row_1 h3 (by decide +kernel) hNr.ct⟩
     have hrow2 : H2 p = some (.tup [.str "if", .int y]) := hrow2
     walk_at "rq"
     refine r_methV R2.obj (R2.pf.no _ (by decide +kernel)) ((me_ProgramRows_take_row T).mono (by omega)) ?_
     walk_at "rq"
     refine ⟨x, dx, lr, fs2, k2, ps, rs, "else", rfl, R2, fun hne => ⟨by decide +kernel, eN (one_if_w rfl hsa (by rw [← word_drop hd2]; exact hne)) H2 (kp1'.trans kp2)⟩, fun hwe => ⟨by decide +kernel, fun r3 p3 fs3 H3 hr3 er3 hp3 kp3 nn3 R3 hrow3 => ?_⟩⟩
     have hu := drop_get hr3
     rw [hd2] at hu
     subst hu
     rw [List.length_cons] at hul
     walk_at "rq"
     refine r_methV R3.obj (R3.pf.no _ (by decide +kernel)) (G l rfl) ?_
     walk_at "rq"
     refine ⟨x, dx, lr, fs3, k2 + 1, ps, rs, f', by rw [show (40 : Int) - ((l + 1 : Nat) : Int) + 1 = 40 - (l : Int) by omega], R3, hN, by omega, fun hno H4 k4 => eN (one_if_n2 rfl hsa er3 hno) H4 (kp1'.trans (kp2.trans (kp3.trans k4))), fun sb v hsb l4 q4 fs4 k4 H4 kp4 nl4 R4 hd4 hl4 he4 => ?_⟩
     walk_at "rq"
     refine r_methV R4.obj (R4.pf.no _ (by decide +kernel)) ((me_ProgramRows_take_row T).mono (by omega)) ?_
     walk_at "rq"
     refine ⟨x, dx, lr, fs4, k4, ps, rs, "end", rfl, R4, fun hne => ⟨by decide +kernel, eN (one_if_w2 rfl hsa er3 hsb (by rw [← word_drop hd4]; exact hne)) H4 (kp1'.trans (kp2.trans (kp3.trans kp4)))⟩, fun hwe => ⟨by decide +kernel, fun r5 p5 fs5 H5 hr5 er5 hp5 kp5 nn5 R5 hrow5 => ?_⟩⟩
     have hu := drop_get hr5
     rw [hd4] at hu
     subst hu
     have hrow6 := kp5.tup R4.obj _ _ (kp4.tup R3.obj _ _ (kp3.tup R2.obj _ _ hrow2))
     walk_at "rq"
     rename_i t6 nt
     have s6 := same_new (o := .tup [.str "if", .int y, .ref l2, .ref l4]) nt
     have k25 := (kp3.trans (kp4.trans kp5)).same s6
     have k45 := kp5.same s6
     have kall := (kp1'.trans (kp2.trans (kp3.trans (kp4.trans kp5)))).same s6
     have nlx2 : l2 ≠ x := fun z => by rw [z, R1'.obj] at nl2; cases nl2
     have nlx4 : l4 ≠ x := fun z => by rw [z, R3.obj] at nl4; cases nl4
     have n2H := KeepX.none kp1' R.obj R1'.obj nl2
     have n4H := KeepX.none (kp1'.trans (kp2.trans kp3)) R.obj R3.obj nl4
     have ntH := KeepX.none (kp1'.trans (kp2.trans (kp3.trans (kp4.trans kp5)))) R.obj R5.obj nt
     have sx := nt_sub2 (l := l2) kp1' R.obj R1'.obj kp2 k25
     have sy := nt_sub2 (l := l4) (kp1'.trans (kp2.trans kp3)) R.obj R3.obj kp4 k45
     exact q _ _ (one_if_y rfl hsa er3 hsb er5) t6 fs5 (k4 + 1) _ kall (R5.same s6) rfl ⟨l2, l4, nt_new ntH upd_same, ⟨q2, nt_new n2H (k25 _ _ hl2 nlx2), he2.mono fun _ _ h => StAt.same sx h⟩, ⟨q4, nt_new n4H (k45 _ _ hl4 nlx4), he4.mono fun _ _ h => StAt.same sy h⟩⟩
   · obtain rfl : r = rd "try" [] := row_try h3 hNr.ct
     have hrow2 : H2 p = some (.tup [.str "try"]) := hrow2
     walk_at "rq"
     refine r_methV R2.obj (R2.pf.no _ (by decide +kernel)) ((me_ProgramRows_take_row T).mono (by omega)) ?_
     walk_at "rq"
     refine ⟨x, dx, lr, fs2, k2, ps, rs, "landing", rfl, R2, fun hne => ⟨by decide +kernel, eN (one_try_w rfl hsa (by rw [← word_drop hd2]; exact hne)) H2 (kp1'.trans kp2)⟩, fun hwe => ⟨by decide +kernel, fun r3 p3 fs3 H3 hr3 er3 hp3 kp3 nn3 R3 hrow3 => ?_⟩⟩
     have hu := drop_get hr3
     rw [hd2] at hu
     subst hu
     rw [List.length_cons] at hul
     obtain ⟨y, rfl⟩ : ∃ y, r3 = rd "landing" [y] := ⟨_, row_1 er3 (by decide +kernel) (hN r3 (List.mem_of_getElem? hr3)).ct⟩
     have hrow3 : H3 p3 = some (.tup [.str "landing", .int y]) := hrow3
     walk_at "rq"
     refine r_methV R3.obj (R3.pf.no _ (by decide +kernel)) (G l rfl) ?_
     walk_at "rq"
     refine ⟨x, dx, lr, fs3, k2 + 1, ps, rs, f', by rw [show (40 : Int) - ((l + 1 : Nat) : Int) + 1 = 40 - (l : Int) by omega], R3, hN, by omega, fun hno H4 k4 => eN (one_try_n2 rfl hsa er3 hno) H4 (kp1'.trans (kp2.trans (kp3.trans k4))), fun sb v hsb l4 q4 fs4 k4 H4 kp4 nl4 R4 hd4 hl4 he4 => ?_⟩
     walk_at "rq"
     refine r_methV R4.obj (R4.pf.no _ (by decide +kernel)) ((me_ProgramRows_take_row T).mono (by omega)) ?_
     walk_at "rq"
     refine ⟨x, dx, lr, fs4, k4, ps, rs, "end", rfl, R4, fun hne => ⟨by decide +kernel, eN (one_try_w2 rfl hsa er3 hsb (by rw [← word_drop hd4]; exact hne)) H4 (kp1'.trans (kp2.trans (kp3.trans kp4)))⟩, fun hwe => ⟨by decide +kernel, fun r5 p5 fs5 H5 hr5 er5 hp5 kp5 nn5 R5 hrow5 => ?_⟩⟩
     have hu := drop_get hr5
     rw [hd4] at hu
     subst hu
     have hrow6 := kp5.tup R4.obj _ _ (kp4.tup R3.obj _ _ (kp3.tup R2.obj _ _ hrow2))
     have hrow7 := kp5.tup R4.obj _ _ (kp4.tup R3.obj _ _ hrow3)
     walk_at "rq"
     rename_i t6 nt
     have s6 := same_new (o := .tup [.str "try", .ref l2, .int y, .ref l4]) nt
     have k25 := (kp3.trans (kp4.trans kp5)).same s6
     have k45 := kp5.same s6
     have kall := (kp1'.trans (kp2.trans (kp3.trans (kp4.trans kp5)))).same s6
     have nlx2 : l2 ≠ x := fun z => by rw [z, R1'.obj] at nl2; cases nl2
     have nlx4 : l4 ≠ x := fun z => by rw [z, R3.obj] at nl4; cases nl4
     have n2H := KeepX.none kp1' R.obj R1'.obj nl2
     have n4H := KeepX.none (kp1'.trans (kp2.trans kp3)) R.obj R3.obj nl4
     have ntH := KeepX.none (kp1'.trans (kp2.trans (kp3.trans (kp4.trans kp5)))) R.obj R5.obj nt
     have sx := nt_sub2 (l := l2) kp1' R.obj R1'.obj kp2 k25
     have sy := nt_sub2 (l := l4) (kp1'.trans (kp2.trans kp3)) R.obj R3.obj kp4 k45
     exact q _ _ (one_try_y rfl hsa er3 hsb er5) t6 fs5 (k4 + 1) _ kall (R5.same s6) rfl ⟨l2, l4, nt_new ntH upd_same, ⟨q2, nt_new n2H (k25 _ _ hl2 nlx2), he2.mono fun _ _ h => StAt.same sx h⟩, ⟨q4, nt_new n4H (k45 _ _ hl4 nlx4), he4.mono fun _ _ h => StAt.same sy h⟩⟩
theorem me_state_all (T : Txt w K mg a) : ∀ lv : Nat, MethE P w K mg base (CXR P w) (2 * lv + 5) a.C_ProgramRows "statements" (spPLX a lv)
 | 0 => me_statementsS (k := 4) (by decide) (me_statementS (k := 3) (by decide) (fun l z => by cases z) T) T
 | l + 1 => me_statementsS (k := 2 * l + 6) (by omega) (me_statementS (k := 2 * l + 5) (by omega) (fun l' z => by injection z with z; subst z; exact me_state_all T l) T) T
theorem me_ProgramRows_statements (T : Txt w K mg a) : MethE P w K mg base (CXR P w) 86 a.C_ProgramRows "statements" (spPLX a 40) := (me_state_all T 40).mono (by decide)
theorem me_ProgramRows_functions (T : Txt w K mg a)  : MethE P w K mg base (CXR P w) 87 a.C_ProgramRows "functions" (spPFX a) := by
 refine methX_of (sp := (spPFX a)) 86 T.cl_ProgramRows T.m_ProgramRows_functions sc_ProgramRows_functions (fun vs H Q E h => ?_) (fun f cdv A outer s H vs Q E hr h => ?_)
 · obtain ⟨x, dx, lr, fs, ps, rs, rfl, _⟩ := h
   rfl
 · obtain ⟨x, dx, lr, fs, ps, rs, rfl, R, hN, eN, q⟩ := h
   have h300 := R.few
   refine ⟨_, (pss_cons (PS.nox (ps_set (i := 1) sc_ProgramRows_functions.nd rfl (Or.inl rfl) (pe_lst pa_nil)))
     (pss_cons (ps_while PassesOwn.leaving (PT.nox (pt_cmpR op_lt (pe_fldK (K := K) rfl (pv 0)) (pe_callB (call_lenK (K := K) rfl) rfl T.z_len b_len (pa_cons (pe_fldK (K := K) rfl (pv 0)) pa_nil)) (nomark _))) (pss_cons (ps_set (i := 2) sc_ProgramRows_functions.nd rfl (Or.inl rfl) (pe_methK (P := P) (w := w) (K := K) (mg := mg) (base := base) (k := 2) ⟨rfl, rfl, rfl, rfl, rfl⟩ (pv 0) (hr.mono (by decide)) pass_on (pa_cons pe_str pa_nil)))
     (pss_one (ps_expr (pe_bmK (K := K) rfl PySem.F.plainAttrs_list PySem.F.slot_list_append PySem.F.type_list_append mt_append (pv 1) (pa_cons (pe_tup (pa_cons (pe_ix (ix_K (K := K) rfl) (pv 2) pe_int (fun _ _ => rfl)) (pa_cons (pe_methK (P := P) (w := w) (K := K) (mg := mg) (base := base) (k := 86) ⟨rfl, rfl, rfl, rfl, rfl⟩ (pv 0) (hr.mono (by decide)) pass_on (pa_cons pe_int pa_nil)) pa_nil))) pa_nil))))))
     (pss_one (PS.nox (ps_ret (pv 1)))))), ?_⟩
   refine r_st (σ' := [some _, none, none]) rfl ?_
   walk_at "rq"
   rename_i l nl
   have nxl : l ≠ x := fun z => by rw [z, R.obj] at nl; cases nl
   have nlr : l ≠ lr := fun z => by rw [z, R.lst] at nl; cases nl
   have sl : Same H (upd H l (.lst [])) := same_new nl
   refine ⟨fun j σ HQ => ∃ (k1 : Nat) (fs' : List (Str × V)) (qs : List Addr) (acc : List (Int × List Stm)) (u : Option V), σ = [some (.ref x), some (.ref l), u] ∧ KeepX x H HQ ∧ HQ l = some (.lst (qs.map V.ref)) ∧ PRt a HQ x dx lr fs' k1 ps rs ∧ (rs.drop k1).length < j ∧ qs.length + (rs.drop k1).length ≤ rs.length ∧ pF (rs.length + 1) rs = (pF j (rs.drop k1)).map (fun y => acc ++ y) ∧ Each (FnX (hid l (hid x HQ))) qs acc, ⟨rs.length + 1, 0, fs, [], [], _, rfl, KeepX.of sl, upd_same, R.same sl, by rw [List.drop_zero]; omega, by rw [List.drop_zero]; show 0 + _ ≤ _; omega, by rw [List.drop_zero]; cases pF (rs.length + 1) rs <;> rfl, Each.nil⟩, ?_⟩
   rintro j σ HQ ⟨k1, fs', qs, acc, u, rfl, kp, hl, R1, hfj, hqn, hpl, he⟩
   obtain ⟨j, rfl⟩ : ∃ i, j = i + 1 := ⟨j - 1, by omega⟩
   have hx1 := R1.obj
   have f1 := R1.pf.rows
   have f2 := R1.pf.mark
   have hpl1 := R1.rows.1
   have hlr1 := R1.lst
   walk_at "rq"
   refine r_lenL (SqL.of hlr1) ?_
   rw [List.length_map, hpl1]
   cases hdr : rs.drop k1 with
   | nil =>
     have hk : rs.length ≤ k1 := List.drop_eq_nil_iff.mp hdr
     rw [hdr] at hpl
     walk_at "rq"
     exact q acc (by rw [hpl]; show some (acc ++ []) = _; rw [List.append_nil]) l HQ kp nl ⟨qs, hl, he.mono fun _ _ h => h.same (fun b o e => hid_to _ _ (hid_to _ _ e))⟩
   | cons r t =>
   have hk : k1 < rs.length := by
     refine Nat.lt_of_not_le fun z => ?_
     rw [List.drop_eq_nil_iff.mpr z] at hdr; cases hdr
   rw [hdr] at hpl hfj hqn
   rw [List.length_cons] at hfj hqn
   obtain ⟨hr0, hd1⟩ := drop_cons hdr
   have hNr := hN r (List.mem_of_getElem? hr0)
   have hw0 : wordAt rs k1 = r.1 := word_drop hdr
   walk_at "rq"
   refine ⟨_, fun σ' H' h => h, ?_⟩
   walk_at "rq"
   refine r_methV R1.obj (R1.pf.no _ (by decide +kernel)) ((me_ProgramRows_take_row T).mono (by decide)) ?_
   walk_at "rq"
   refine ⟨x, dx, lr, fs', k1, ps, rs, "fun", rfl, R1, fun hne => ⟨by decide +kernel, eN (by rw [hpl, pF_no (by rw [← hw0]; exact hne)]; rfl) HQ kp⟩, fun hwf => ⟨by decide +kernel, fun r' p fs2 H2 hr' er hpk kp2 nn2 R2 hrow => ?_⟩⟩
   obtain rfl : r = r' := by rw [hr0] at hr'; injection hr'
   obtain ⟨y, rfl⟩ : ∃ y, r = rd "fun" [y] := ⟨_, row_1 er (by decide +kernel) hNr.ct⟩
   have hrow : H2 p = some (.tup [.str "fun", .int y]) := hrow
   have hl2 := kp2 _ _ hl nxl
   walk_at "rq"
   refine r_methV R2.obj (R2.pf.no _ (by decide +kernel)) ((me_ProgramRows_statements T).mono (by decide)) ?_
   walk_at "rq"
   refine ⟨x, dx, lr, fs2, k1 + 1, ps, rs, t.length + 1, rfl, R2, hN, by rw [hd1]; omega, fun hno H3 k3 => ?_, fun ss t' hso l3 q3 fs3 k3 H3 kp3 nl3 R3 hd3 hl3 he3 => ?_⟩
   · rw [hd1] at hno
     exact eN (by rw [hpl, pF_n hno]; rfl) H3 (kp.trans (kp2.trans k3))
   rw [hd1] at hso
   have htl := (pL_bal _ _ _ _ _ hso).len
   have hl3' := kp3 _ _ hl2 nxl
   walk_at "rq"
   rename_i t6 nt
   have htl' : t6 ≠ l := fun z => by rw [z, hl3'] at nt; cases nt
   have htx : t6 ≠ x := fun z => by rw [z, R3.obj] at nt; cases nt
   have n3l : l3 ≠ l := fun z => by rw [z, hl2] at nl3; cases nl3
   have n3x : l3 ≠ x := fun z => by rw [z, R2.obj] at nl3; cases nl3
   have kF : ∀ b o, H3 b = some o → b ≠ l → (upd (upd H3 t6 (.tup [.int y, .ref l3])) l (.lst (qs.map V.ref ++ [.ref t6]))) b = some o := fun b o e n => by rw [upd_ne n]; exact look_new e nt
   have htF : (upd (upd H3 t6 (.tup [.int y, .ref l3])) l (.lst (qs.map V.ref ++ [.ref t6]))) t6 = some (.tup [.int y, .ref l3]) := by rw [upd_ne htl']; exact upd_same
   have hlF : (upd (upd H3 t6 (.tup [.int y, .ref l3])) l (.lst (qs.map V.ref ++ [.ref t6]))) l = some (.lst ((qs ++ [t6]).map V.ref)) := by rw [upd_same, List.map_append]; rfl
   have RF := (R3.same (same_new (o := .tup [.int y, .ref l3]) nt)).put (o := .lst (qs.map V.ref ++ [.ref t6])) (look_new hl3' nt) nxl nlr
   generalize (upd (upd H3 t6 (.tup [.int y, .ref l3])) l (.lst (qs.map V.ref ++ [.ref t6]))) = HF at kF htF hlF RF ⊢
   refine ⟨j, by omega, k3, fs3, qs ++ [t6], acc ++ [(y, ss)], _, rfl, fun b o e n => ?_, hlF, RF, by rw [hd3]; omega, by rw [hd3, List.length_append, List.length_singleton]; omega, ?_, ?_⟩
   · have nb : b ≠ l := fun z => by rw [z, nl] at e; cases e
     exact kF b o (kp3 b o (kp2 b o (kp b o e n) n) n) nb
   · rw [hpl, pF_on hso, hd3]
     cases pF j t' with
     | none => rfl
     | some z => show some (acc ++ (y, ss) :: z) = some ((acc ++ [(y, ss)]) ++ z); rw [List.append_assoc]; rfl
   · refine Each.snoc (he.mono fun p' z h => h.same fun b o e => ?_) ⟨l3, hid_at (hid_at htF htx) htl', q3, hid_at (hid_at (kF _ _ hl3 n3l) n3x) n3l, he3.mono fun _ _ h => StAt.same (nt_to2 R2.obj hl2 kp3 (fun b o e n _ => kF b o e n)) h⟩
     have e1 : b ≠ l := fun z => by rw [z] at e; unfold hid at e; rw [if_pos rfl] at e; cases e
     have e2 := hid_to _ _ e
     have e3 : b ≠ x := fun z => by rw [z] at e2; unfold hid at e2; rw [if_pos rfl] at e2; cases e2
     have e4 := hid_to _ _ e2
     exact hid_at (hid_at (kF b o (kp3 b o (kp2 b o e4 e3) e3) e1) e3) e1
theorem ok_read_program (T : Txt w K mg a) : FnE P w K mg base (CXR P w) 88 "read_program" (spRdPX a) := by
 refine fnX_of (sp := (spRdPX a)) 87 T.fn_read_program sc_read_program (fun vs H Q E h => ?_) (fun f cdv A outer s H vs Q E hr h => ?_)
 · obtain ⟨v, rfl, _⟩ := h
   rfl
 · obtain ⟨v, rfl, h⟩ := h
   refine ⟨_, (pss_cons (ps_expr (pe_callE (ok_asked_for_text (K := K) T) (hr.mono (by decide)) pass_on rfl (pa_cons (pv 0) pa_nil)))
     (pss_cons (ps_if (PT.nox (pt_cmpR op_gt (pe_callB (call_lenK (K := K) rfl) rfl T.z_len b_len (pa_cons (pv 0) pa_nil)) (pe_glob (v := .int 8000) rfl T.g_TOP_SIGNS.choose_spec ⟨_, rfl⟩) (nomark _))) (pss_one (ps_raise T.x_NoText rfl (pa_cons (pe_fstr (pe_glob (v := .int 8000) rfl T.g_TOP_SIGNS.choose_spec ⟨_, rfl⟩)) pa_nil))) pss_nil)
     (pss_cons (ps_set (i := 1) sc_read_program.nd rfl (Or.inl rfl) (pe_methK0 (P := P) (w := w) (K := K) (mg := mg) (base := base) (k := 87) ⟨rfl, rfl, rfl, rfl, rfl⟩ (pe_makeE (mk_ProgramRows (K := K) T) (hr.mono (by decide)) pass0 rfl (pa_cons (pe_compX rfl rfl rfl (fun _ _ z => z) (own := ["row"]) (fr := []) rfl ⟨rfl, (by walk_at "clok"), (by walk_at "frok"), rfl, (by decide +kernel), (by decide +kernel), rfl⟩ (pi_seqK (K := K) rfl (pe_bmK (K := K) rfl PySem.F.plainAttrs_str PySem.F.slot_str_split PySem.F.type_str_split mt_split (pv 0) (pa_cons (pe_glob (v := .str "; ") rfl T.g_PARTING.choose_spec ⟨_, rfl⟩) pa_nil))) (fun _ _ _ _ => (pg_name (i := 0) (show List.Nodup [("row" : Str)] from by decide +kernel) rfl (Or.inl rfl))) (fun _ _ _ _ => pts_nil) (fun _ _ _ _ => (pe_callE (ok_read_words (K := K) T) (hr.mono (by decide)) pass_c rfl (pa_cons (pv 0) pa_nil)))) pa_nil)) (hr.mono (by decide)) pass_on))
     (pss_cons (ps_expr (pe_callE (ok_asked_for_program (K := K) T) (hr.mono (by decide)) pass_on rfl (pa_cons (pv 1) pa_nil)))
     (pss_one (PS.nox (ps_ret (pv 1)))))))), ?_⟩
   refine r_st (σ' := [some _, none]) rfl ?_
   rcases h with ⟨t, rfl, hl, e1, e2, q⟩ | ⟨hn, e⟩
   case inr =>
     walk_at "rq"
     exact ⟨_, rfl, .inr ⟨hn, e _ (Same.refl _)⟩⟩
   walk_at "rq"
   refine ⟨_, rfl, .inl ⟨t, rfl, ?_⟩⟩
   walk_at "rq"
   refine ⟨_, _, rfl, ⟨by rw [sizeLine_eq]; omega, rfl⟩, ?_⟩
   walk_at "rq"
   refine ifDec (fun hh => ?_) (fun hh => ?_)
   · walk_at "rq"
     refine r_fstrC (by decide +kernel) (by decide +kernel) (by decide +kernel) ?_
     walk_at "rq"
     exact ⟨by show 1 ≤ 1000; decide, e1 (told_long (by omega)) _ (Same.refl _)⟩
   have hl8 : t.length ≤ 8000 := by omega
   clear hh
   obtain ⟨hs1, hs2⟩ := split_len t "; "
   have hpl : ∀ p ∈ Txt.split t "; ", p.length ≤ 8000 := fun p hp => Nat.le_trans (split_part hp) hl8
   have hrd : readT t = rowsR (Txt.split t "; ") := rfl
   generalize hsp : Txt.split t "; " = ls at hs1 hs2 hpl hrd
   walk_at "rq"
   refine r_split rfl (by rw [sizeLine_eq]; omega) hsp (by rw [sizeLine_eq]; omega) (fun l nl => ?_)
   walk_at "rq"
   refine comp_list (K := K) (a := l) (xs := ls.map V.str) (fun i ys σ H1 => (∃ v, σ = [v]) ∧ Same (upd H l (.lst (ls.map V.str))) H1 ∧ ∃ (ps : List Addr) (rs : List RD), ys = ps.map V.ref ∧ Each (RtAt H1) ps rs ∧ rowsR (ls.take i) = some rs ∧ ∀ r ∈ rs, RdN r) ⟨⟨_, rfl⟩, Same.refl _, [], [], rfl, Each.nil, rfl, fun r hr => by cases hr⟩ (fun i ys σ H1 hi ⟨_, s1, ps, rs, e, e2, e3, _⟩ => ⟨SqL.of (s1 _ _ upd_same), by rw [e, List.length_map, e2.1, rowsR_len e3, List.length_take, sizeLine_eq]; omega⟩) ?_ ?_
   · rintro i x ys σ H1 hx ⟨⟨v, rfl⟩, s1, ps, rs, rfl, he, hrs, hok⟩
     obtain ⟨p, hp2, rfl⟩ := map_at hx
     have hpm := List.mem_of_getElem? hp2
     have s0 : Same H H1 := (same_new nl).trans s1
     walk_at "rq"
     refine ⟨p, rfl, hpl p hpm, fun hno H2 s2 => ?_, fun r hr p2 H2 s2 n2 hr2 => ?_⟩
     · exact e1 (told_none (by rw [hrd]; exact rowsR_no hpm hno)) H2 (s0.trans s2)
     · refine ⟨⟨_, rfl⟩, s1.trans s2, ps ++ [p2], rs ++ [r], by rw [List.map_append]; rfl, Each.snoc (he.mono fun p r h => s2 _ _ h) hr2, by rw [take_snoc hp2]; exact rowsR_snoc hrs hr, fun r' hr' => ?_⟩
       rcases List.mem_append.mp hr' with z | z
       · exact hok r' z
       · rw [List.mem_singleton.mp z]; exact rowR_N (hpl p hpm) hr
   rintro ys σ H1 ⟨_, s1, ps, rs, rfl, he, hrs, hok⟩ lr nlr
   rw [List.length_map, List.take_length] at hrs
   rw [hrs] at hrd
   have hrl := rowsR_len hrs
   walk_at "rq"
   intro x dx nx ndx nne
   have s2 := same_new (o := .lst (ps.map V.ref)) nlr
   have s3 : Same (upd H1 lr (.lst (ps.map V.ref))) (upd (upd (upd H1 lr (.lst (ps.map V.ref))) dx (.own x)) x (.ins a.C_ProgramRows dx [])) := fun b o e => by rw [upd_ne (ne_of_none e nx), upd_ne (ne_of_none e ndx)]; exact e
   refine ⟨x, dx, lr, rfl, upd_same, fun fs1 H2 kp hx F => ⟨rfl, ?_⟩⟩
   have s4 : Same (upd H1 lr (.lst (ps.map V.ref))) H2 := fun b o e => kp b o (s3 b o e) (ne_of_none e nx)
   have R : PRt a H2 x dx lr fs1 0 ps rs := ⟨hx, F, s4 _ _ upd_same, he.mono fun p r h => s4 _ _ (s2 _ _ h), by omega⟩
   have nxH : H x = none := none_same ((same_new nl).trans (s1.trans s2)) nx
   have sall := (same_new (o := .lst (ls.map V.str)) nl).trans (s1.trans (s2.trans s4))
   refine r_methV hx (F.no _ (by decide +kernel)) ((me_ProgramRows_functions T).mono (by decide)) ?_
   walk_at "rq"
   refine ⟨x, dx, lr, fs1, ps, rs, rfl, R, hok, fun hno H5 kp5 => ?_, fun fns hso l5 H5 kp5 nl5 hP => ?_⟩
   · exact e1 (told_noF hrd hno) H5 (fun b o e => kp5 b o (sall b o e) (ne_of_none e nxH))
   have s5 : Same H H5 := fun b o e => kp5 b o (sall b o e) (ne_of_none e nxH)
   obtain ⟨w1, w2, w3⟩ := pF_wf _ _ _ hok hso
   walk_at "rq"
   refine ⟨l5, fns, rfl, hP, ⟨by omega, w1, w2⟩, fun hb H6 s6 => ?_, fun hb H6 s6 => ?_⟩
   · walk_at "rq"
     exact q (told_prog hl8 hrd hso (.inl ⟨hb, rfl⟩)) l5 H6 (s5.trans s6)
   · exact e2 (told_prog hl8 hrd hso (.inr ⟨hb, rfl⟩)) H6 (s5.trans s6)
theorem ok_law_told (T : Txt w K mg a) : FnE P w K mg base CX0 89 "_law_told" spToldX := by
 refine fnE_of (sp := spToldX) 88 T.fn_law_told sc_law_told (fun vs H Q E h => ?_) (fun f cdv A outer s H vs Q E hr h => ?_)
 · obtain ⟨v, rfl, _⟩ := h
   rfl
 · obtain ⟨v, rfl, h⟩ := h
   refine ⟨_, (pss_cons (ps_set (i := 1) sc_law_told.nd rfl (Or.inl rfl) pe_str)
     (pss_cons (ps_set (i := 2) sc_law_told.nd rfl (Or.inl rfl) pe_bl)
     (pss_cons (ps_try2 (i := 3) rfl rfl rfl (pb_expr (ok_read_program (K := K) T) (hr.mono (by decide)) rfl (pa_cons (pv 0) pa_nil)) T.x_NoText T.x_NoProgram T.no_NoProgram_NoText rfl rfl sc_law_told.nd rfl rfl (fun ea oe hxc _ => (pss_cons (ps_set (i := 1) sc_law_told.nd rfl (Or.inl rfl) pe_str)
     (pss_one (ps_set (i := 2) sc_law_told.nd rfl (Or.inl rfl) (pe_and (pe_callB (call_isiXK (K := K) rfl (List.mem_append_right _ (List.mem_singleton.mpr rfl)) hxc T.xk_NoText) rfl T.z_isinstance b_isinstance (pa_cons (pv 3) (pa_cons (pe_glob (v := .ref a.C_FrameError) rfl T.c_FrameError rfl) pa_nil))) (pe_one (pe_not (pe_callB (call_isiXK (K := K) rfl (List.mem_append_right _ (List.mem_singleton.mpr rfl)) hxc T.xk_NoText) rfl T.z_isinstance b_isinstance (pa_cons (pv 3) (pa_cons (pe_glob (v := .ref a.C_NoProgram) rfl T.c_NoProgram rfl) pa_nil)))))))))) (fun ea oe hxc _ => (pss_cons (ps_set (i := 1) sc_law_told.nd rfl (Or.inl rfl) pe_str)
     (pss_one (ps_set (i := 2) sc_law_told.nd rfl (Or.inl rfl) (pe_and (pe_callB (call_isiXK (K := K) rfl (List.mem_append_right _ (List.mem_singleton.mpr rfl)) hxc T.xk_NoProgram) rfl T.z_isinstance b_isinstance (pa_cons (pv 3) (pa_cons (pe_glob (v := .ref a.C_FrameError) rfl T.c_FrameError rfl) pa_nil))) (pe_one (pe_not (pe_callB (call_isiXK (K := K) rfl (List.mem_append_right _ (List.mem_singleton.mpr rfl)) hxc T.xk_NoProgram) rfl T.z_isinstance b_isinstance (pa_cons (pv 3) (pa_cons (pe_glob (v := .ref a.C_NoText) rfl T.c_NoText rfl) pa_nil)))))))))))
     (pss_cons (ps_if (pt_not (pt_truK (K := K) rfl (pv 2))) (pss_one (ps_ret pe_str)) pss_nil)
     (pss_one (ps_ret (pv 1))))))), ?_⟩
   refine r_st (σ' := [some _, none, none, none]) rfl ?_
   walk_at "rq"
   refine r_try2 ?_
   unfold bExpr
   walk_at "rq"
   rcases h with ⟨t, rfl, hl, q⟩ | ⟨hn, q⟩
   · refine ⟨_, rfl, .inl ⟨t, rfl, hl, fun ht H1 s1 => .inl ⟨rfl, fun ea hea => ?_⟩, fun ht H1 s1 => .inr ⟨rfl, fun ea hea => ?_⟩, fun ht l H1 s1 => ?_⟩⟩
     · rw [ht] at q
       unfold thEnds
       walk_at "rq"
       refine r_isiX (fun z => nomatch z) T.is_NoText_FrameError ?_
       walk_at "rq"
       refine r_isiX (fun z => nomatch z) T.is_NoText_NoProgram ?_
       walk_at "rq"
       exact q _ s1
     · rw [ht] at q
       unfold thEnds
       walk_at "rq"
       refine r_isiX (fun z => nomatch z) T.is_NoProgram_FrameError ?_
       walk_at "rq"
       refine r_isiX (fun z => nomatch z) T.is_NoProgram_NoText ?_
       walk_at "rq"
       exact q _ s1
     · rw [ht] at q
       walk_at "rq"
       exact q _ s1
   · refine ⟨_, rfl, .inr ⟨hn, fun H1 s1 => .inl ⟨rfl, fun ea hea => ?_⟩⟩⟩
     unfold thEnds
     walk_at "rq"
     refine r_isiX (fun z => nomatch z) T.is_NoText_FrameError ?_
     walk_at "rq"
     refine r_isiX (fun z => nomatch z) T.is_NoText_NoProgram ?_
     walk_at "rq"
     exact q _ s1
end
section
variable {P : Program} {w : World} {K : PySem.W.Frag} {mg : Str → Option Value} {base : Heap} {a : Adr}
local macro_rules | `(tactic| walk_at "lb") => `(tactic| first | with_reducible assumption | with_reducible exact LBlit | (with_reducible exact LBapp (by walk_at "lb") (by walk_at "lb")))
local macro_rules | `(tactic| walk_at "lc") => `(tactic| (with_reducible exact LBle (by walk_at "lb") (by decide +kernel)))
local macro_rules | `(tactic| walk_at "rp") => `(tactic| (walk_at "rq"; repeat (((with_reducible refine' r_plusS ?zs ?_); (case zs => exact LB2 (by walk_at "lb") (by walk_at "lb") (by decide +kernel))); walk_at "rq")))
theorem law_fn {fa : Addr} {fd : FuncData} (T : Txt w K mg a) (F : Fun K "law" "law" s_law fa fd) : FnOk P w K mg base CX0 90 fa fd ["_law_script"] (spLaw K) := by
 refine F.ok (k := 89) sc_law (fun vs H Q E h => ?_) (fun cdv A outer s H vs Q E hr h => ?_)
 · obtain ⟨a0, ns, rfl, _⟩ := h
   rfl
 · obtain ⟨a0, ns, rfl, hS, h63, q⟩ := h
   refine ⟨_, (pss_cons (ps_set (i := 1) sc_law.nd rfl (Or.inl rfl) (pe_callE (ok_law_text (K := K) T) (hr.mono (by decide)) pass0 rfl (pa_cons (pv 0) pa_nil)))
     (pss_cons (ps_set (i := 2) sc_law.nd rfl (Or.inl rfl) (pe_op op_mod (pe_callE (ok_law_cell_at (K := K) T) (hr.mono (by decide)) pass0 rfl (pa_cons (pv 0) (pa_cons pe_int pa_nil))) (pe_op op_pow pe_int pe_int)))
     (pss_cons (ps_if (pt_cmpR (op_neK (K := K) rfl hr.units) (pe_callE (ok_law_told (K := K) T) (hr.mono (by decide)) pass0 rfl (pa_cons (pv 1) pa_nil)) pe_str (nomark _)) (pss_one (ps_ret pe_bl)) pss_nil)
     (pss_cons (ps_if (pt_cmpR (op_neK (K := K) rfl hr.units) (pe_callE (ok_law_told (K := K) T) (hr.mono (by decide)) pass0 rfl (pa_cons (pe_callE (ok_law_no_program (K := K) T) (hr.mono (by decide)) pass0 rfl (pa_cons (pe_op op_mod (pe_callE (ok_law_cell_at (K := K) T) (hr.mono (by decide)) pass0 rfl (pa_cons (pv 0) (pa_cons pe_int pa_nil))) pe_int) (pa_cons (pe_op op_mod (pv 2) (pe_op op_pow pe_int pe_int)) pa_nil))) pa_nil)) pe_str (nomark _)) (pss_one (ps_ret pe_bl)) pss_nil)
     (pss_cons (ps_set (i := 3) sc_law.nd rfl (Or.inl rfl) (pe_op op_mod (pe_callE (ok_law_cell_at (K := K) T) (hr.mono (by decide)) pass0 rfl (pa_cons (pv 0) (pa_cons pe_int pa_nil))) pe_int))
     (pss_cons (ps_if (pt_cmpR (op_eqK (K := K) rfl hr.units) (pv 3) pe_int (nomark _)) (pss_one (ps_ret (pe_cmpR (op_eqK (K := K) rfl hr.units) (pe_callE (ok_law_told (K := K) T) (hr.mono (by decide)) pass0 rfl (pa_cons (pe_op (op_plusK (K := K) rfl) (pe_op (op_plusK (K := K) rfl) pe_str (pe_op op_repS pe_str pe_int)) (pe_op op_repS pe_str pe_int)) pa_nil)) pe_str (nomark _)))) pss_nil)
     (pss_cons (ps_if (pt_cmpR (op_eqK (K := K) rfl hr.units) (pv 3) pe_int (nomark _)) (pss_cons (ps_set (i := 4) sc_law.nd rfl (Or.inl rfl) (pe_op (op_plusK (K := K) rfl) (pe_op (op_plusK (K := K) rfl) pe_str (pe_op op_repS pe_str pe_int)) pe_str))
     (pss_one (ps_ret (pe_and (pe_cmpR (op_eqK (K := K) rfl hr.units) (pe_callB (call_lenK (K := K) rfl) rfl T.z_len b_len (pa_cons (pv 4) pa_nil)) pe_int (nomark _)) (pe_and (pe_cmpR (op_eqK (K := K) rfl hr.units) (pe_callE (ok_law_told (K := K) T) (hr.mono (by decide)) pass0 rfl (pa_cons (pv 4) pa_nil)) pe_str (nomark _)) (pe_one (pe_cmpR (op_eqK (K := K) rfl hr.units) (pe_callE (ok_law_told (K := K) T) (hr.mono (by decide)) pass0 rfl (pa_cons (pe_op (op_plusK (K := K) rfl) (pv 4) pe_str) pa_nil)) pe_str (nomark _)))))))) pss_nil)
     (pss_cons (ps_if (pt_cmpR (op_eqK (K := K) rfl hr.units) (pv 3) pe_int (nomark _)) (pss_one (ps_ret (pe_cmpR (op_eqK (K := K) rfl hr.units) (pe_callE (ok_law_told (K := K) T) (hr.mono (by decide)) pass0 rfl (pa_cons (pe_ix (ix_K (K := K) rfl) (pe_lst (pa_cons pe_non (pa_cons (pv 2) (pa_cons (pe_lst pa_nil) (pa_cons (pe_tup (pa_cons pe_str pa_nil)) pa_nil))))) (pe_op op_mod (pv 2) pe_int) (fun _ _ => rfl)) pa_nil)) pe_str (nomark _)))) pss_nil)
     (pss_one (ps_ret (pe_cmpR (op_eqK (K := K) rfl hr.units) (pe_callE (ok_law_told (K := K) T) (hr.mono (by decide)) pass0 rfl (pa_cons (pe_callE (ok_law_spoiled (K := K) T) (hr.mono (by decide)) pass0 rfl (pa_cons (pv 1) (pa_cons (pv 3) (pa_cons (pv 2) pa_nil)))) pa_nil)) pe_str (nomark _)))))))))))), ?_⟩
   refine r_st (σ' := [some _, none, none, none, none]) rfl ?_
   walk_at "rq"
   refine ⟨a0, ns, rfl, hS, fun t rs fs H1 s1 hT => ?_⟩
   have hS1 := SqL_sm s1 hS
   clear hS s1
   have hrd := hT.read
   have LT := hT.len
   have e9 : (10 : Int) ^ Int.toNat 9 = 1000000000 := by decide
   walk_at "rq"
   refine ⟨_, rfl, .inl ⟨t, rfl, Nat.le_trans LT (by decide), fun H2 s2 => ?_⟩⟩
   rw [hrd]
   have hS2 := SqL_sm s2 hS1
   clear hS1 s2 hrd
   generalize cellAt ns 1 % 10 ^ Int.toNat 40 = c
   walk_at "rq"
   rw [e9]
   refine ⟨_, _, rfl, by omega, by omega, by omega, by omega, fun t2 H3 s3 e2 l2 => ?_⟩
   walk_at "rq"
   refine ⟨_, rfl, .inl ⟨t2, rfl, Nat.le_trans l2 (by decide), fun H4 s4 => ?_⟩⟩
   rw [e2]
   have hS4 := SqL_sm (s3.trans s4) hS2
   clear hS2 s3 s4 e2 l2
   walk_at "rq"
   have h0 : 0 ≤ cellAt ns 0 % 13 := by omega
   have h1 : cellAt ns 0 % 13 < 13 := by omega
   generalize cellAt ns 0 % 13 = i at h0 h1 ⊢
   by_cases h11 : i = 11
   · walk_at "rq"
     have R1 : LB (repT 41 (Str.ofString "; while 0")) 700 := by rw [repT_S]; exact Nat.le_trans (Nat.le_of_eq (repS_len _ _)) (by decide +kernel)
     have R2 : LB (repT 41 (Str.ofString "; end")) 700 := by rw [repT_S]; exact Nat.le_trans (Nat.le_of_eq (repS_len _ _)) (by decide +kernel)
     refine ⟨_, _, rfl, rfl, by decide, by decide, by decide +kernel, by decide +kernel, ?_⟩
     rw [show (41 : Int).toNat = 41 from rfl]
     walk_at "rp"
     refine ⟨_, _, rfl, rfl, by decide, by decide, by decide +kernel, by decide +kernel, ?_⟩
     rw [show (41 : Int).toNat = 41 from rfl]
     walk_at "rp"
     refine ⟨_, rfl, .inl ⟨_, rfl, LBle (m := 1500000) (LBapp (LBapp LBlit R1) R2) (by decide +kernel), fun H5 s5 => ?_⟩⟩
     rw [repT_S, repT_S, told_11]
     walk_at "rq"
     rw [decide_eq_true rfl]
     exact q _
   by_cases h12 : i = 12
   · walk_at "rq"
     have R3 : LB (repT 998 (Str.ofString "; give 0")) 8000 := by rw [repT_S]; exact Nat.le_trans (Nat.le_of_eq (repS_len _ _)) (by decide +kernel)
     have l12 := len12
     have t12 := told_12
     have t12b := told_12b
     rw [← repT_S] at l12 t12 t12b
     refine ⟨_, _, rfl, rfl, by decide, by decide, by decide +kernel, by decide +kernel, ?_⟩
     rw [show (998 : Int).toNat = 998 from rfl]
     walk_at "rp"
     generalize (Str.ofString "fun 0" ++ repT 998 (Str.ofString "; give 0") ++ Str.ofString "; set 0 123") = L at *
     have LL : LB L 8000 := Nat.le_of_eq l12
     refine ⟨_, _, rfl, ⟨by rw [sizeLine_eq, l12]; decide, rfl⟩, ?_⟩
     rw [l12]
     walk_at "rq"
     refine ⟨_, rfl, .inl ⟨_, rfl, Nat.le_trans LL (by decide), fun H5 s5 => ?_⟩⟩
     rw [t12]
     walk_at "rp"
     refine ⟨_, rfl, .inl ⟨_, rfl, LBle (m := 1500000) (LBapp LL LBlit) (by decide +kernel), fun H6 s6 => ?_⟩⟩
     rw [t12b]
     walk_at "rq"
     rw [decide_eq_true rfl]
     exact q _
   by_cases h10 : i = 10
   · walk_at "rq"
     rename_i lA nA tA mA lB nB
     have hc : c % 4 = 0 ∨ c % 4 = 1 ∨ c % 4 = 2 ∨ c % 4 = 3 := by omega
     have hlA : (upd (upd (upd H4 lA (.lst [])) tA (.tup [V.str "fun 0"])) lB (.lst [V.non, V.int c, V.ref lA, V.ref tA])) lA = some (.lst []) := look_new (look_new upd_same mA) nB
     have htA : (upd (upd (upd H4 lA (.lst [])) tA (.tup [V.str "fun 0"])) lB (.lst [V.non, V.int c, V.ref lA, V.ref tA])) tA = some (.tup [V.str "fun 0"]) := look_new upd_same nB
     have hlB : (upd (upd (upd H4 lA (.lst [])) tA (.tup [V.str "fun 0"])) lB (.lst [V.non, V.int c, V.ref lA, V.ref tA])) lB = some (.lst [V.non, V.int c, V.ref lA, V.ref tA]) := upd_same
     generalize (upd (upd (upd H4 lA (.lst [])) tA (.tup [V.str "fun 0"])) lB (.lst [V.non, V.int c, V.ref lA, V.ref tA])) = HX at hlA htA hlB ⊢
     clear nA mA nB
     rcases hc with h | h | h | h
     · refine r_ixL (SqL.of hlB) (v := .non) (by rw [h]; exact atI_nat (j := 0) rfl) ?_
       walk_at "rq"
       refine ⟨_, rfl, .inr ⟨.inl rfl, fun H5 s5 => ?_⟩⟩
       walk_at "rq"
       rw [decide_eq_true rfl]
       exact q _
     · refine r_ixL (SqL.of hlB) (v := .int c) (by rw [h]; exact atI_nat (j := 1) rfl) ?_
       walk_at "rq"
       refine ⟨_, rfl, .inr ⟨.inr (.inl ⟨c, rfl⟩), fun H5 s5 => ?_⟩⟩
       walk_at "rq"
       rw [decide_eq_true rfl]
       exact q _
     · refine r_ixL (SqL.of hlB) (v := .ref lA) (by rw [h]; exact atI_nat (j := 2) rfl) ?_
       walk_at "rq"
       refine ⟨_, rfl, .inr ⟨.inr (.inr (.inl ⟨lA, _, rfl, hlA⟩)), fun H5 s5 => ?_⟩⟩
       walk_at "rq"
       rw [decide_eq_true rfl]
       exact q _
     · refine r_ixL (SqL.of hlB) (v := .ref tA) (by rw [h]; exact atI_nat (j := 3) rfl) ?_
       walk_at "rq"
       refine ⟨_, rfl, .inr ⟨.inr (.inr (.inr ⟨tA, _, rfl, htA⟩)), fun H5 s5 => ?_⟩⟩
       walk_at "rq"
       rw [decide_eq_true rfl]
       exact q _
   have h9 : i < 10 := by omega
   walk_at "rq"
   refine ⟨t, rs, fs, _, _, rfl, h0, h9, hT, fun t3 H5 s5 e3 l3 => ?_⟩
   walk_at "rq"
   refine ⟨_, rfl, .inl ⟨t3, rfl, Nat.le_trans l3 (by decide), fun H6 s6 => ?_⟩⟩
   rw [e3]
   walk_at "rq"
   rw [decide_eq_true rfl]
   exact q _
end
section
variable {K : PySem.W.Frag} {h : Heap} {mg : Str → Option Value} {x qual : Str} {st : Stmt} {f C da : Addr} {n : Nat} {oc dc : Value} {od an dd : Option Addr} {osl dl : Array (Option Value)} {kV doc pm cdv ct : Value} {ps : List Str}
theorem tF (X : K.In h) (G : h.Ns mainGlobals mg) (a : PySem.W.nsIn K mainGlobals x = some (some (.ref f))) (l : K.lookup f = some ⟨oc, od, .func (PySem.W.fnOf x qual (defArgs st) (defBody st) (defScope st) .none kV doc pm an cdv ct), osl⟩) (c : PySem.W.codeIn K cdv qual = true) (k : PySem.W.keepIn K (.ref f) = true) (b : ∀ (kV doc pm : Value) (an : Option Addr) (cdv ct : Value) (us : List Value), us.length = ps.length → bindArgs (PySem.W.fnOf x qual (defArgs st) (defBody st) (defScope st) .none kV doc pm an cdv ct) ⟨us, []⟩ = pure (ps.zip us)) : ∃ f fd, Fun K x qual st f fd ∧ mg x = some (.ref f) ∧ Binds K fd ps [] := ⟨_, _, fun_mk l c k, PySem.W.mg_of X G a, (fun_mk l c k).binds b⟩
theorem tM (a : PySem.W.findIn K (.ref C) x = some (some (.ref f))) (i : PySem.W.isFn K (.ref f) = true) (l : K.lookup f = some ⟨oc, od, .func (PySem.W.fnOf x qual (defArgs st) (defBody st) (defScope st) .none kV doc pm an cdv ct), osl⟩) (c : PySem.W.codeIn K cdv qual = true) (k : PySem.W.keepIn K (.ref f) = true) (b : ∀ (kV doc pm : Value) (an : Option Addr) (cdv ct : Value) (us : List Value), us.length = ps.length → bindArgs (PySem.W.fnOf x qual (defArgs st) (defBody st) (defScope st) .none kV doc pm an cdv ct) ⟨us, []⟩ = pure (ps.zip us)) : ∃ f fd, Fun K x qual st f fd ∧ Meth K C x f ∧ Binds K fd ps [] := ⟨_, _, fun_mk l c k, ⟨a, i, k⟩, (fun_mk l c k).binds b⟩
theorem tI (m : PySem.W.makesIn K C = true) (kc : PySem.W.keepIn K (.ref C) = true) (a : PySem.W.findIn K (.ref C) "__init__" = some (some (.ref f))) (i : PySem.W.isFn K (.ref f) = true) (l : K.lookup f = some ⟨oc, od, .func (PySem.W.fnOf "__init__" qual (defArgs st) (defBody st) (defScope st) .none kV doc pm an cdv ct), osl⟩) (c : PySem.W.codeIn K cdv qual = true) (k : PySem.W.keepIn K (.ref f) = true) (b : ∀ (kV doc pm : Value) (an : Option Addr) (cdv ct : Value) (us : List Value), us.length = ps.length → bindArgs (PySem.W.fnOf "__init__" qual (defArgs st) (defBody st) (defScope st) .none kV doc pm an cdv ct) ⟨us, []⟩ = pure (ps.zip us)) : ∃ f fd, Fun K "__init__" qual st f fd ∧ Mk K C f ∧ Binds K fd ps [] := ⟨_, _, fun_mk l c k, ⟨m, a, i, kc⟩, (fun_mk l c k).binds b⟩
theorem cR {a : Addr} : RelV (.ref a) (.ref a) := rfl
theorem tS {a : Addr} {xs : List V} {its : Array Value} {sl : Array (Option Value)} (hz : its.size ≤ sizeLine) (l : K.lookup a = some ⟨.type "tuple", od, .seq its n, sl⟩) (v : Vals xs its.toList) : ∀ H, SqT K H a xs := sqtK l hz v
end
theorem ln1 {α : Type} {P : List α → Prop} (f : ∀ x0, P [x0]) : ∀ us : List α, us.length = 1 → P us
 | [x0], _ => f x0
theorem ln2 {α : Type} {P : List α → Prop} (f : ∀ x0 x1, P [x0, x1]) : ∀ us : List α, us.length = 2 → P us
 | [x0, x1], _ => f x0 x1
theorem ln3 {α : Type} {P : List α → Prop} (f : ∀ x0 x1 x2, P [x0, x1, x2]) : ∀ us : List α, us.length = 3 → P us
 | [x0, x1, x2], _ => f x0 x1 x2
theorem tL {K : PySem.W.Frag} {h : Heap} {mg : Str → Option Value} {f fa : Addr} {oc : Value} {od an : Option Addr} {osl : Array (Option Value)} {kV doc pm cdv ct : Value} (X : K.In h) (G : h.Ns mainGlobals mg) (e : mg "law" = some (.ref fa)) (a : PySem.W.nsIn K mainGlobals "law" = some (some (.ref f))) (l : K.lookup f = some ⟨oc, od, .func (PySem.W.fnOf "law" "law" (defArgs s_law) (defBody s_law) (defScope s_law) .none kV doc pm an cdv ct), osl⟩) (c : PySem.W.codeIn K cdv "law" = true) (k : PySem.W.keepIn K (.ref f) = true) : ∃ fd, Fun K "law" "law" s_law fa fd ∧ ∀ (s : Shared) (v : Value), BindsTo s fd ⟨[v], []⟩ [("_law_script", v)] := by
 cases e.symm.trans (PySem.W.mg_of X G a)
 exact ⟨_, fun_mk l c k, fun s v => .of_eq rfl⟩
theorem walk {l : PySem.W.OpenLaw} {q : Program} {loose : List Str} {XP : (Str → Option Value) → Heap → Prop} {YP : World → Heap → Prop} {d : DefRec} {K : Params → PySem.W.Frag} (hn : l.most = some 63) (hdf : d.params.defaults = [])
   (hY : ∀ (w : World) (h : Heap), YP w h → (K w.params).In h)
   (F : ∀ (w : World) (mg : Str → Option Value) (fa : Addr) (h : Heap), (K w.params).In h → h.Ns mainGlobals mg → mg d.name = some (.ref fa) →
     ∃ fd : FuncData, (∀ (s : Shared) (u : Value), BindsTo s fd ⟨[u], []⟩ [("_law_script", u)]) ∧ ∀ base : Heap, (K w.params).In base → base.Ns mainGlobals mg → FnOk l.prog w (K w.params) mg base CX0 90 fa fd ["_law_script"] (spLaw (K w.params))) :
   PySem.W.WalkO q loose XP YP l.row.toRowW d [] (fun f vs => PySem.call f vs) :=
 L2.walk_of (n := 63) (k := 90) (x := "_law_script") (CX := fun _ => CX0) (sp := fun w => spLaw (K w.params)) hn (by decide) hdf ⟨rfl, by decide, by decide, rfl⟩ hY F (fun _ _ a ns hl _ hS => ⟨a, ns, rfl, hS, hl, fun _ => rfl⟩) fun _ _ _ _ _ z => z
end FB
namespace PySem.W.Fast
def tw6677548502247986071:=0
def tw2361815675457967861:=0
def tw16447646257065111981:=0
def tw15748159295355932244:=0
def tw2973923675484798427:=0
def tw13102318780441545937:=0
def tw8542850039140176598:=0
def tw18345880100462414455:=0
def tw9180719208943168174:=0
def tw12785984913916304581:=0
def tw14897208266781977633:=0
def tw2965178243188713024:=0
def tw6878674331584869250:=0
def tw11211515056567958273:=0
def tw2809784832789188947:=0
def tw3183985023290735814:=0
def tw873343932914964297:=0
def tw11796086381950561785:=0
def tw5612958194251939621:=0
def tw3266351331503696162:=0
def tw5521972972033670587:=0
def tw10647179161888919389:=0
def tw4831142440983221864:=0
def tw6020770300801689137:=0
def tw14725837388094574784:=0
def tw14682841611796803576:=0
def tw11666098620055290878:=0
def tw17329332699472332888:=0
def tw7704449597240765133:=0
def tw6213290400726437614:=0
def tw17494517662840148936:=0
def tw9679198595003487719:=0
def tw4432820400378620083:=0
def tw11198026389201727232:=0
def tw13721567728077872722:=0
def tw2593269037928479045:=0
def tw13617148641980224027:=0
def tw17179821953439042184:=0
def tw10418722760252799141:=0
def tw14572662970070195840:=0
def tw13855126409168666419:=0
def tw16747080434744835063:=0
def tw3668753145097133799:=0
def tw11259059059518817704:=0
def tw11426210748770711258:=0
def tw11204406755035554973:=0
def tw3751662816324857722:=0
def tw9508364634381036706:=0
def tw442250972497637157:=0
def tw2616128515935884541:=0
def tw9933015327568225741:=0
def tw9473892654886771009:=0
def tw5557828038836430893:=0
def tw12757474962993932160:=0
def tw7017788790710117648:=0
def tw5416599727204956717:=0
def tw8526587890780864328:=0
def tw1879446607426637447:=0
def tw106580923911492444:=0
def tw7177152423242653763:=0
def tw5876907410158497784:=0
def tw13164866488690333821:=0
def tw7865819144629528881:=0
def tw7109105320796436798:=0
def tw3640975754600583939:=0
def tw6155563908552878748:=0
def tw6538364825670949583:=0
def tw15175803047489309776:=0
def tw1328555402239151942:=0
def tw2740610810075303340:=0
def tw13190828812813630978:=0
def tw7363267365430728567:=0
def tw3235358381469048926:=0
def tw2936113854977551387:=0
def tw15918562281860927702:=0
def tw1193268530119596314:=0
def tw10861351973578397390:=0
def tw17718597983180193988:=0
def tw15298227913824231717:=0
def tw2176917357452216758:=0
def tw16015248732705267732:=0
def tw15287020871274772407:=0
def tw1215681625301478107:=0
def tw6704446754010049751:=0
def tw740782728862987364:=0
def tw8233207845687994164:=0
def tw16968244998194364065:=0
def tw847195585750680927:=0
def tw1745737919671191412:=0
def tw17537021540741910865:=0
def tw1302587927571676606:=0
def tw12849274218841385098:=0
def tw13253478164679240243:=0
def tw7076300496485886643:=0
def tw6216201846904401990:=0
def tw2174736645466684757:=0
def tw13588603494897723322:=0
def tw1872558167822720574:=0
def tw10180848382534610285:=0
def tw18331033145210986710:=0
def tw16953438273665626301:=0
def tw7251354718897538132:=0
def tw11911010380031870808:=0
def tw9575271467038425940:=0
def tw6076846969301944234:=0
def tw17521459680328135986:=0
def tw7285040648437216659:=0
def tw2886618242497460827:=0
def tw155349668941413971:=0
def tw13505897744326169126:=0
def tw8478424610381828633:=0
def tw17134928454315689512:=0
def tw312286619936489557:=0
def tw6623147828307129132:=0
def tw17362405362109058962:=0
def tw14674770083639443710:=0
def tw10428015957297979031:=0
def tw15381720397520983135:=0
def tw6600209990833402246:=0
def tw18248060754067465040:=0
def tw15373030998706672990:=0
def tw16707499365820143682:=0
def tw16174584027900048207:=0
def tw14505086837921994920:=0
def tw9120185557958104431:=0
def tw8552047958268334964:=0
def tw1447380469848642330:=0
def tw12013781031495460930:=0
def tw14547361804200641797:=0
def tw9491309417945307941:=0
def tw15166298092794020755:=0
def tw7812720338176656665:=0
def tw9509545753207032090:=0
def tw7881939487019356731:=0
def tw3866117570630637690:=0
def tw3978274221111025267:=0
def tw14376698090702683908:=0
def tw13264165036029032160:=0
def tw7654719694731869568:=0
def tw13469474974624518263:=0
def tw12538656888112487969:=0
def tw6457351882785592002:=0
def tw723188042125381042:=0
def tw14473296200963635241:=0
def tw3444521734052988673:=0
def tw5927189596094416529:=0
def tw3465177949925242295:=0
def tw16271444473291861088:=0
def tw16952655678802661647:=0
def tw13705738591445100235:=0
def tw16747777107932797473:=0
def tw12528757143940734571:=0
def tw2500326197289218739:=0
def tw13828400131153336061:=0
def tw5235438000018321600:=0
def tw9202020881761482702:=0
def tw3822525261054915092:=0
def tw15703353204251728736:=0
def tw10091561168830151527:=0
def tw13382744800285806899:=0
def tw10846281861079590976:=0
def tw15531255413492126603:=0
def tw1923049016355696639:=0
def tw11465663989629435951:=0
def tw5993660085491387104:=0
def tw7412874878420368091:=0
def tw4422273124980666018:=0
def tw11706803076556754671:=0
def tw16017756752675888769:=0
def tw7960730124804918825:=0
def tw15901846866528637397:=0
def tw7691168166872586207:=0
def tw2853967550719330193:=0
def tw359684478527933378:=0
def tw2089879946442965969:=0
def tw18388969375555750994:=0
def tw4016998164279858112:=0
def tw17707674237269996458:=0
def tw10520715132719852878:=0
def tw15037637294596205681:=0
def tw8013972591607656901:=0
def tw15409251959288768756:=0
def tw1179379152189919534:=0
def tw2450094720598003801:=0
def tw3118001166565879374:=0
def tw16087666776763337778:=0
def tw6017033636814867124:=0
def tw17091906752872110409:=0
def tw17636381901964437653:=0
def tw11607987613881323939:=0
def tw15210306711208650220:=0
def tw14125339146482553430:=0
def tw13232972926020158449:=0
def tw17703730813680955264:=0
def tw7644361536899942666:=0
def tw13159357954827066038:=0
def tw343587006458624951:=0
def tw527602316088569567:=0
def tw13954922358048296825:=0
def tw11344198858080663567:=0
def tw9312071142262400506:=0
def tw1947393892528608485:=0
def tw1164844235423026804:=0
def tw13093045018947765243:=0
def tw6572215112199306499:=0
def tw7671589700677124717:=0
def tw12881187552551773217:=0
def tw15643621900653739464:=0
def tw12755941608506808928:=0
def tw14496414948154189664:=0
def tw14161927104894937498:=0
def tw15789068067229609366:=0
def tw7228620993805406294:=0
def tw13896777885784523648:=0
def tw15459561922508135852:=0
def tw3585786258757610150:=0
def tw9144211474109523765:=0
def tw13067908634430303955:=0
def tw11033121816788062113:=0
def tw6057375332247653673:=0
def tw17121285253788220105:=0
def tw14200152393277954286:=0
def tw11409596698717743481:=0
def tw10142661792062417838:=0
def tw9892268190263765098:=0
def tw1567152397812691897:=0
def tw9571664688524011127:=0
def tw16818715931359138488:=0
def tw7867471741963276011:=0
def tw2656993072951170565:=0
def tw2570894496697781108:=0
def tw10870727415753166898:=0
def tw12903409907543459817:=0
def tw8583647602712312947:=0
def tw16397446925534652788:=0
def tw12152905249959766226:=0
def tw3168944121559392780:=0
def tw11232346469394287285:=0
def tw3060399072266893429:=0
def tw4726983218089599920:=0
def tw13533982640519912865:=0
def tw9050855945448577826:=0
def tw17891234687280143747:=0
def tw3625366647149773614:=0
def tw5738892501284629233:=0
def tw17321130430190605657:=0
def tw4571525351567717620:=0
def tw5739934482962255682:=0
def tw7567655264247074521:=0
def tw17044749794627837465:=0
def tw14715579591755068014:=0
def tw5336813942639398907:=0
def tw2198461393895543994:=0
def tw10252190525834173490:=0
def tw15644987607605615880:=0
def tw10027867171289592592:=0
def tw17713992737917035441:=0
def tw2127395148273203776:=0
def tw3175810775171482155:=0
def tw3500037099180241817:=0
def tw7755547178694063748:=0
def tw993016334926057366:=0
def tw11780243949306693097:=0
def tw1070793946004194365:=0
def tw10087805342677958923:=0
def tw16367757084333950262:=0
def tw6394237939047362545:=0
def tw12662016917854301538:=0
def tw3476575441968566517:=0
def tw16036651021532238617:=0
def tw3985557428088382467:=0
def tw951105298425886461:=0
def tw7858597433653812272:=0
def tw461662461594617801:=0
def tw16093387287469194606:=0
def tw18024263442093465949:=0
def tw5397510444306704738:=0
def tw1442094336747121560:=0
def tw18140538984209118069:=0
def tw2290762155426393928:=0
def tw2955696906786156190:=0
def tw1823132192106278453:=0
def tw12141342775881686759:=0
def tw18090030481321018799:=0
def tw449907533517243246:=0
def tw2825038766119632364:=0
def tw8140448961205958320:=0
def tw17999588874815460841:=0
def tw17864245670607505051:=0
def tw398279983757097003:=0
def tw11933208286462911425:=0
def tw17149401625046746208:=0
def tw15335576285328653522:=0
def tw8486409765798147207:=0
def tw10894734410598276728:=0
def tw2500691261422281198:=0
def tw18324136514224925188:=0
def tw8737174620262714723:=0
def tw15825167657254900341:=0
def tw6365271200374081774:=0
def tw11841097308531415857:=0
def tw12917550378346468716:=0
def tw796066460912229694:=0
def tw10285631334259554403:=0
def tw10929055901527299805:=0
def tw9620964493487261444:=0
def tw17457516456658446217:=0
def tw17154774249907261240:=0
def tw4754140967404730656:=0
def tw567079367265571246:=0
def tw6226272535215956337:=0
def tw16986071884550998065:=0
def tw12500962187392110355:=0
def tw1422543533186913129:=0
def tw8342177400305950344:=0
def tw4106161723728637998:=0
def tw11532963470911584732:=0
def tw7187231825063875608:=0
def tw16782181621542814313:=0
def tw13188835023469329253:=0
def tw14898413575522922420:=0
def tw10970733459178029882:=0
def tw10028764600545343772:=0
def tw4727142172114261830:=0
def tw4293260911967415872:=0
def tw14412752583708705460:=0
def tw4568221836410248421:=0
def tw7166272283720512454:=0
def tw7178634842441767507:=0
def tw14188888789114659558:=0
def tw16686470247350111123:=0
def tw16737706222054476085:=0
def tw14991490829751184444:=0
def tw6212211114670385202:=0
def tw16904754499219243967:=0
def tw12158648173664768202:=0
def tw8354289115311552628:=0
def tw6767277767833264400:=0
end PySem.W.Fast
open PySem PySem.W PyProof.Rows
local macro_rules | `(tactic| walk_at "k") => `(tactic| first | k_is | kit_is | rfl | kernel_rfl)
local macro_rules | `(tactic| walk_at "b") => `(tactic| (first | (intro _ _ _ _ _ _; first | exact FB.ln0 rfl | exact FB.ln1 (fun _ => rfl) | exact FB.ln2 (fun _ _ => rfl) | exact FB.ln3 (fun _ _ _ => rfl) | exact FB.ln4 (fun _ _ _ _ => rfl) | exact FB.ln5 (fun _ _ _ _ _ => rfl) | exact FB.ln6 (fun _ _ _ _ _ _ => rfl)) | (intro _ _ _ _ _ _ _; first | exact FB.ln0 ⟨_, rfl, rfl⟩ | exact FB.ln1 (fun _ => ⟨_, rfl, rfl⟩) | exact FB.ln2 (fun _ _ => ⟨_, rfl, rfl⟩) | exact FB.ln3 (fun _ _ _ => ⟨_, rfl, rfl⟩) | exact FB.ln4 (fun _ _ _ _ => ⟨_, rfl, rfl⟩) | exact FB.ln5 (fun _ _ _ _ _ => ⟨_, rfl, rfl⟩) | exact FB.ln6 (fun _ _ _ _ _ _ => ⟨_, rfl, rfl⟩) | exact FB.lm0 ⟨_, rfl, rfl⟩ | exact FB.lm1 (fun _ => ⟨_, rfl, rfl⟩) | exact FB.lm2 (fun _ _ => ⟨_, rfl, rfl⟩) | exact FB.lm3 (fun _ _ _ => ⟨_, rfl, rfl⟩) | exact FB.lm4 (fun _ _ _ _ => ⟨_, rfl, rfl⟩) | exact FB.lm5 (fun _ _ _ _ _ => ⟨_, rfl, rfl⟩) | exact FB.lm6 (fun _ _ _ _ _ _ => ⟨_, rfl, rfl⟩))))
local macro_rules | `(tactic| walk_at "T") => `(tactic| first | (refine PySem.W.mg_none_of (by assumption) (by assumption) ?_; walk_at "k") | (refine PySem.W.mg_of (by assumption) (by assumption) ?_; walk_at "k") | (refine' ⟨_, PySem.W.mg_of (by assumption) (by assumption) ?gg⟩; (case gg => walk_at "k")) | (refine' FB.tF (by assumption) (by assumption) ?a ?l ?c ?k ?b; (case a => walk_at "k"); (case l => walk_at "k"); (case c => walk_at "k"); (case k => walk_at "k"); (case b => walk_at "b")) | (refine' FB.tM ?a ?i ?l ?c ?k ?b; (case a => walk_at "k"); (case i => walk_at "k"); (case l => walk_at "k"); (case c => walk_at "k"); (case k => walk_at "k"); (case b => walk_at "b")) | (refine' FB.tI ?m ?kc ?a ?i ?l ?c ?k ?b; (case m => walk_at "k"); (case kc => walk_at "k"); (case a => walk_at "k"); (case i => walk_at "k"); (case l => walk_at "k"); (case c => walk_at "k"); (case k => walk_at "k"); (case b => walk_at "b")) | (unfold L2.NoAttr; walk_at "k") | ((with_reducible show PySem.W.kitOne _ _ _ = _); walk_at "k") | ((with_reducible show L2.Cls _ _); constructor <;> walk_at "k") | ((with_reducible show PySem.W.findIn _ _ _ = _ ∧ _); constructor <;> walk_at "k") | (refine ⟨PySem.W.mg_of (by assumption) (by assumption) ?_, ?_⟩ <;> walk_at "k") | (refine ⟨?_, ?_, ?_, ?_, ?_, ?_, ?_, ?_⟩ <;> walk_at "k") | (refine ⟨?_, ?_, ?_, ?_⟩ <;> walk_at "k") | (refine ⟨?_, ?_⟩ <;> walk_at "k") | (unfold L2.NoAttr; walk_at "k") | walk_at "k")
set_option maxRecDepth 100000 in
set_option maxHeartbeats 0 in
theorem PySem.Challenge.cw_frameback_k72_program_texts_refused_holds : PySem.Challenge.rw_frameback_k72_program_texts_refused.Holds := by
 w_on; o_law; k_head; (case hw => w_witness2)
 k_fill
 refine FB.walk (l := PySem.Challenge.rw_frameback_k72_program_texts_refused) rfl rfl (fun w h Y => PySem.W.kIn_of Y) ?F
 case F =>
   intro w mg fa h KX G hmg
   have T : ∃ a : FB.Adr, FB.Txt w (L2.KOf KX) mg a := by
     dsimp only [L2.KOf]
     refine' ⟨⟨0, 0, 0, 0, 0, 0, 0, 0, 0, 0, 0, 0, 0, 0, 0, 0, 0, 0, _, 0, 0, _, _, 0, 0, 0, _, 0, 0, 0, _, _, 0, _, _, 0⟩, ?T⟩
     (case T =>
       constructor
       (case s_AHEAD_OF_NAMES => walk_at "T")
       (case d_AHEAD_OF_NAMES => refine' ⟨?y, ?n, [("call", 2, _, _), ("hand", 1, _, _)], _, rfl, ?l⟩; (case l => walk_at "k"); (case y => walk_at "k"); (case n => decide +kernel))
       (case s_COUNTS => walk_at "T")
       (case d_COUNTS => refine' ⟨?y, ?n, [("fun", 1, _, _), ("set", 2, _, _), ("copy", 2, _, _), ("sum", 3, _, _), ("minus", 3, _, _), ("product", 3, _, _), ("less", 3, _, _), ("drop", 1, _, _), ("give", 1, _, _), ("if", 1, _, _), ("else", 0, _, _), ("while", 1, _, _), ("try", 0, _, _), ("landing", 1, _, _), ("end", 0, _, _)], _, rfl, ?l⟩; (case l => walk_at "k"); (case y => walk_at "k"); (case n => decide +kernel))
       (case s_NO_STATEMENT => walk_at "T")
       (case t_NO_STATEMENT => exact FB.tS (its := #[.str "fun" _, .str "else" _, .str "landing" _, .str "end" _, .str "" _]) (Nat.le_of_ble_eq_true rfl) (by walk_at "k") (.cons ⟨_, rfl⟩ (.cons ⟨_, rfl⟩ (.cons ⟨_, rfl⟩ (.cons ⟨_, rfl⟩ (.cons ⟨_, rfl⟩ .nil))))))
       (case s_PARTS => walk_at "T")
       (case d_PARTS => exact ⟨_, _, _, _, _, _, _, _, _, _, _, _, _, ⟨by walk_at "k", (show List.Nodup [(Sum.inr ("set" : Str) : Sum Int Str), (Sum.inr ("copy" : Str) : Sum Int Str), (Sum.inr ("sum" : Str) : Sum Int Str), (Sum.inr ("minus" : Str) : Sum Int Str), (Sum.inr ("product" : Str) : Sum Int Str), (Sum.inr ("less" : Str) : Sum Int Str), (Sum.inr ("call" : Str) : Sum Int Str), (Sum.inr ("if" : Str) : Sum Int Str), (Sum.inr ("while" : Str) : Sum Int Str), (Sum.inr ("try" : Str) : Sum Int Str), (Sum.inr ("drop" : Str) : Sum Int Str), (Sum.inr ("give" : Str) : Sum Int Str), (Sum.inr ("hand" : Str) : Sum Int Str)] from by decide +kernel), [("set", _, .ref _), ("copy", _, .ref _), ("sum", _, .ref _), ("minus", _, .ref _), ("product", _, .ref _), ("less", _, .ref _), ("call", _, .ref _), ("if", _, .ref _), ("while", _, .ref _), ("try", _, .ref _), ("drop", _, .ref _), ("give", _, .ref _), ("hand", _, .ref _)], _, (.cons FB.cR (.cons FB.cR (.cons FB.cR (.cons FB.cR (.cons FB.cR (.cons FB.cR (.cons FB.cR (.cons FB.cR (.cons FB.cR (.cons FB.cR (.cons FB.cR (.cons FB.cR (.cons FB.cR .nil))))))))))))), by walk_at "k"⟩, FB.tS (its := #[.str "name" _, .str "value" _]) (Nat.le_of_ble_eq_true rfl) (by walk_at "k") (.cons ⟨_, rfl⟩ (.cons ⟨_, rfl⟩ .nil)), FB.tS (its := #[.str "name" _, .str "name" _]) (Nat.le_of_ble_eq_true rfl) (by walk_at "k") (.cons ⟨_, rfl⟩ (.cons ⟨_, rfl⟩ .nil)), FB.tS (its := #[.str "name" _, .str "name" _, .str "name" _]) (Nat.le_of_ble_eq_true rfl) (by walk_at "k") (.cons ⟨_, rfl⟩ (.cons ⟨_, rfl⟩ (.cons ⟨_, rfl⟩ .nil))), FB.tS (its := #[.str "name" _, .str "name" _, .str "name" _]) (Nat.le_of_ble_eq_true rfl) (by walk_at "k") (.cons ⟨_, rfl⟩ (.cons ⟨_, rfl⟩ (.cons ⟨_, rfl⟩ .nil))), FB.tS (its := #[.str "name" _, .str "name" _, .str "name" _]) (Nat.le_of_ble_eq_true rfl) (by walk_at "k") (.cons ⟨_, rfl⟩ (.cons ⟨_, rfl⟩ (.cons ⟨_, rfl⟩ .nil))), FB.tS (its := #[.str "name" _, .str "name" _, .str "name" _]) (Nat.le_of_ble_eq_true rfl) (by walk_at "k") (.cons ⟨_, rfl⟩ (.cons ⟨_, rfl⟩ (.cons ⟨_, rfl⟩ .nil))), FB.tS (its := #[.str "name" _, .str "function" _, .str "names" _]) (Nat.le_of_ble_eq_true rfl) (by walk_at "k") (.cons ⟨_, rfl⟩ (.cons ⟨_, rfl⟩ (.cons ⟨_, rfl⟩ .nil))), FB.tS (its := #[.str "name" _, .str "statements" _, .str "statements" _]) (Nat.le_of_ble_eq_true rfl) (by walk_at "k") (.cons ⟨_, rfl⟩ (.cons ⟨_, rfl⟩ (.cons ⟨_, rfl⟩ .nil))), FB.tS (its := #[.str "name" _, .str "statements" _]) (Nat.le_of_ble_eq_true rfl) (by walk_at "k") (.cons ⟨_, rfl⟩ (.cons ⟨_, rfl⟩ .nil)), FB.tS (its := #[.str "statements" _, .str "name" _, .str "statements" _]) (Nat.le_of_ble_eq_true rfl) (by walk_at "k") (.cons ⟨_, rfl⟩ (.cons ⟨_, rfl⟩ (.cons ⟨_, rfl⟩ .nil))), FB.tS (its := #[.str "name" _]) (Nat.le_of_ble_eq_true rfl) (by walk_at "k") (.cons ⟨_, rfl⟩ .nil), FB.tS (its := #[.str "name" _]) (Nat.le_of_ble_eq_true rfl) (by walk_at "k") (.cons ⟨_, rfl⟩ .nil), FB.tS (its := #[.str "function" _, .str "names" _]) (Nat.le_of_ble_eq_true rfl) (by walk_at "k") (.cons ⟨_, rfl⟩ (.cons ⟨_, rfl⟩ .nil))⟩)
       all_goals walk_at "T")
   have B : ∃ fd : FuncData, L2.Fun (L2.KOf KX) "law" "law" FB.s_law fa fd ∧ ∀ (s : Shared) (v : Value), BindsTo s fd ⟨[v], []⟩ [("_law_script", v)] := by
     dsimp only [L2.KOf]
     refine' FB.tL KX G hmg ?l1 ?l2 ?l3 ?l4
     (case l1 => walk_at "k")
     (case l2 => walk_at "k")
     (case l3 => walk_at "k")
     (case l4 => walk_at "k")
   obtain ⟨a, T⟩ := T
   obtain ⟨fd, FF, B⟩ := B
   exact ⟨fd, B, fun base _ _ => FB.law_fn T FF⟩
