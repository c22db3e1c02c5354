import PyProof.Rows.All
import Wide.All
import OpenK.AllK
import Wide.FinOn
import Lean
import PyProof.EqAt
import PyProof.EqKinds
import PyProof.TupleCall
import PySem.Challenge.RW_frameback_k32_whole_the_greatest_table
set_option Elab.async false
set_option linter.all false
set_option maxRecDepth 100000
namespace L2
open PySem PySem.Spec PyProof.Rows
abbrev Key:=Sum Int Str
def mI : Key → Value → Bool
 | .inl k,v=>Value.isInt k v
 | .inr x,v=>Value.isStrOf x v
def VT (w : World) : Key → Int
 | .inl k=>hashInt k
 | .inr x=>hashStr w x
theorem cD : ∀ {k : Key} {v : Value}, mI k v = true → (∃ i t, k = Sum.inl i ∧ v = Value.int i t) ∨ (∃ x t, k = Sum.inr x ∧ v = Value.str x t)
 | .inl i, v, h => by
   obtain ⟨t,e⟩:=Value.isInt_shape (k:=i) (v:=v) h;exact .inl ⟨i,t,rfl,e⟩
 | .inr x, v, h => by
   obtain ⟨t,e⟩:=Value.isStrOf_shape (x:=x) (v:=v) h;exact .inr ⟨x,t,rfl,e⟩
theorem zS (i:Int) (t:Tok):mI (.inl i) (.int i t)=true:=by simp [mI,Value.isInt]
theorem zC (x:Str) (t:Tok):mI (.inr x) (.str x t)=true:=by simp [mI,Value.isStrOf]
theorem Fb (a b:Int):decide ((Sum.inl a:Key)=Sum.inl b)=(a == b):=by
 by_cases e:a=b
 · subst e;simp
 · have h : ¬ (Sum.inl a : Key) = Sum.inl b := fun q => e (Sum.inl.inj q);rw [decide_eq_false h];exact (beq_eq_false_iff_ne.mpr e).symm
theorem F0 (a b:Str):decide ((Sum.inr a:Key)=Sum.inr b)=decide (a=b):=by
 by_cases e:a=b
 · subst e;simp
 · have h : ¬ (Sum.inr a : Key) = Sum.inr b := fun q => e (Sum.inr.inj q);rw [decide_eq_false h,decide_eq_false e]
theorem Fq (a:Int) (b:Str):decide ((Sum.inl a:Key)=Sum.inr b)=false:=decide_eq_false (fun q=>nomatch q)
theorem Fk (a:Str) (b:Int):decide ((Sum.inr a:Key)=Sum.inl b)=false:=decide_eq_false (fun q=>nomatch q)
def cX (prog:Program) (w:World):PySem.KeyKind prog w Key where
 is:=mI
 hash:=VT w
 inj:=fun v a b ha hb=>by
   rcases cD ha with ⟨i,t,rfl,rfl⟩ | ⟨x,t,rfl,rfl⟩
   · rcases cD hb with ⟨j, u, rfl, e⟩ | ⟨y, u, rfl, e⟩
     · injection e with e1 _;rw [e1]
     · exact nomatch e
   · rcases cD hb with ⟨j, u, rfl, e⟩ | ⟨y, u, rfl, e⟩
     · exact nomatch e
     · injection e with e1 _;rw [e1]
 byValue:=fun k v h=>by
   rcases cD h with ⟨i,t,rfl,rfl⟩ | ⟨x,t,rfl,rfl⟩ <;> rfl
 pyHash:=fun hv h=>by
   rcases cD hv with ⟨i,t,rfl,rfl⟩ | ⟨x,t,rfl,rfl⟩
   · exact wpAny_pyHash_int h
   · exact wpAny_pyHash_str h
 eqBool:=fun hu hv h=>by
   rcases cD hu with ⟨i,t,rfl,rfl⟩ | ⟨x,t,rfl,rfl⟩
   · rcases cD hv with ⟨j, u, rfl, rfl⟩ | ⟨y, u, rfl, rfl⟩
     · rw [Fb] at h;exact wpAny_eqBool_int h
     · rw [Fq] at h;exact SeqAt.EqAt.int_str i t y u _ _ _ _ h
   · rcases cD hv with ⟨j, u, rfl, rfl⟩ | ⟨y, u, rfl, rfl⟩
     · rw [Fk] at h;exact SeqAt.EqAt.str_int x t j u _ _ _ _ h
     · rw [F0] at h;exact wpAny_eqBool_str h
 «strs»:=fun k x t v h=>by
   rcases cD h with ⟨i,u,rfl,e⟩ | ⟨y,u,rfl,e⟩
   · exact nomatch e
   · injection e with e1 _;subst e1;cases v <;> rfl
theorem wV (prog:Program) (w:World) (i:Int) (t:Tok):(cX prog w).is (.inl i) (.int i t)=true:=zS i t
theorem wH (prog:Program) (w:World) (x:Str) (t:Tok):(cX prog w).is (.inr x) (.str x t)=true:=zC x t
end L2
namespace L2
open PySem PySem.Spec PyProof.Rows
inductive V where
 | aR | bl (b:Bool) | int (i:Int) | str (x:Str) | byt (b:Array UInt8) | uP (b:UInt64) | ref (a:Addr) | ty (n:String)
 deriving DecidableEq
def RelV : V → Value → Prop
 | .aR,u=>u=Value.none
 | .bl b,u=>u=Value.bool b
 | .int i,u=>∃ t,u=Value.int i t
 | .str x,u=>∃ t,u=Value.str x t
 | .byt b,u=>∃ t,u=Value.bytes b t
 | .uP b,u=>∃ t,u=Value.float b t
 | .ref a,u=>u=Value.ref a
 | .ty n,u=>u=Value.type n
abbrev a_:List V→List Value→Prop:=Paired RelV
theorem a_.length {xs:List V} {us:List Value} (r:a_ xs us):xs.length=us.length:=Paired.length r
theorem a_.get : ∀ {xs : List V} {us : List Value} {i : Nat} {x : V}, a_ xs us → xs[i]? = some x → ∃ u, us[i]? = some u ∧ RelV x u
 | _,_,_,_,.nil,e=>by simp at e
 | _,_,0,_,.cons r _,e=>by simp at e;subst e;exact ⟨_,rfl,r⟩
 | _, _, i + 1, x, .cons _ t, e => by
   obtain ⟨u,h1,h2⟩:=a_.get (i:=i) (x:=x) t (by simpa using e);exact ⟨u,by simpa using h1,h2⟩
theorem a_.set {x : V} {u : Value} (r : RelV x u) : ∀ {xs : List V} {us : List Value} (i : Nat), a_ xs us → a_ (xs.set i x) (us.set i u)
 | _,_,_,.nil=>.nil
 | _,_,0,.cons _ t=>.cons r t
 | _,_,i+1,.cons q t=>.cons q (a_.set r i t)
theorem a_.append : ∀ {xs ys : List V} {us ws : List Value}, a_ xs us → a_ ys ws → a_ (xs ++ ys) (us ++ ws)
 | _,_,_,_,.nil,s=>s
 | _,_,_,_,.cons r t,s=>.cons r (a_.append t s)
theorem a_.take : ∀ {xs : List V} {us : List Value} (n : Nat), a_ xs us → a_ (xs.take n) (us.take n)
 | _,_,0,_=>.nil
 | _,_,_+1,.nil=>.nil
 | _,_,n+1,.cons r t=>.cons r (a_.take n t)
theorem a_.drop : ∀ {xs : List V} {us : List Value} (n : Nat), a_ xs us → a_ (xs.drop n) (us.drop n)
 | _,_,0,r=>r
 | _,_,_+1,.nil=>.nil
 | _,_,n+1,.cons _ t=>a_.drop n t
def fg : Option V → Option Value → Prop
 | some v,some u=>RelV v u
 | none,none=>True
 | _,_=>False
def KV {κ : Type}:List (κ×V)→List (κ×Value)→Prop:=Paired fun (p : κ×V) (q : κ×Value)=>p.1=q.1∧RelV p.2 q.2
def kV : Key → V
 | .inl i=>.int i
 | .inr x=>.str x
inductive HO where
 | lst (xs:List V)
 | tup (xs:List V)
 | dK (kvs:List (Key×V)) | dT (kvs:List (List Key×V))
 | set (S:Int→Bool) (n:Nat)
 | ins (C dx:Addr) (fs:List (Str×V))
 | own (x:Addr)
 | xd (fs:List (Str×V))
 | met (f x:Addr)
 | F9 (lo hi:Int)
 | jm (o:Obj) (u:HO)
 | wb (ps:Array Value)
 | ext (φ : Heap→Prop)
abbrev Hp:=Addr→Option HO
def upd (H:Hp) (a:Addr) (o:HO):Hp:=fun b=>if b=a then some o else H b
theorem ae {H:Hp} {a:Addr} {o:HO}:upd H a o a=some o:=by unfold upd;rw [if_pos rfl]
theorem aw {H:Hp} {a b:Addr} {o:HO} (h:b≠a):upd H a o b=H b:=by unfold upd;rw [if_neg h]
theorem DJ {H:Hp} {a b:Addr} {o u:HO} (h:H a=some o) (h':H b=some u) (d:o≠u):a≠b:=by
 intro e;subst e;rw [h] at h';exact d (Option.some.inj h')
theorem aq {H:Hp} {a b:Addr} {o:HO} (h:H a=some o) (h':H b=none):a≠b:=by
 intro e;subst e;rw [h] at h';cases h'
section
variable (P:Program) (w:World)
def cu (H : Hp) (h : Heap) (a : Addr) : HO → Prop
 | .lst xs=>xs.length≤sizeLine∧∃ (its:List Value) (n:Nat),a_ xs its∧h.get? a=some { cls:=.type "list",data:=.seq its.toArray n }
 | .tup xs=>xs.length≤sizeLine∧∃ its:List Value,a_ xs its∧IsTup h a its.toArray
 | .dK kvs=>kvs.length≤sizeLine∧(a == sysModules)=false∧∃ vs,KV kvs vs∧h.DictOf (cX P w) a vs
 | .dT kvs => kvs.length ≤ sizeLine ∧ (a == sysModules) = false ∧ ∃ xs : List (List Key × Addr × Value),
     Paired (fun (p:List Key×V) (q:List Key×Addr×Value)=>p.1=q.1∧H q.2.1=some (.tup (p.1.map kV))∧RelV p.2 q.2.2) kvs xs ∧
     ∃ o es ep,h.get? a=some o∧o.ExactDict∧o.data=.dict es ep∧es.toList=xs.map (entryOfKey (tupleKind (cX P w)))∧(xs.map (·.1)).Nodup
 | .set S n=>h.SetOf (intKind P w) a S n
 | .ins C dx fs => H dx = some (.own a) ∧ fs.length ≤ 1000 ∧ dx ≠ a ∧ h.get? a = some (W.instObj C dx) ∧
     ∃ mA,h.Ns1 dx mA∧(∀ f,fg (fs.lookup f) (mA f))∧PySem.Within mA (fs.map (·.1))
 | .own _=>∃ o,h.get? a=some o
 | .xd fs=>∃ mA,h.Ns1 a mA∧∀ f,fg (fs.lookup f) (mA f)
 | .F9 lo hi=>∃ t u v,h.get? a=some { cls:=.type "range",data:=.fields #[.int lo t,.int hi u,.int 1 v] }
 | .jm o u=>h.get? a=some o∧cu H h a u
 | .wb ps=>h.get? a=some { cls:=.none,data:=.fields ps }
 | .met f x=>h.get? a=some (W.methodObj (.ref f) (.ref x))
 | .ext φ=>φ h∧(∃ o,h.get? a=some o)∧∀ h1 h2:Heap,φ h1→(∀ o,h1.get? a=some o→h2.get? a=some o)→φ h2
def dA (H:Hp) (h:Heap):Prop:=∀ a o,H a=some o→cu P w H h a o
end
section
variable {P:Program} {w:World} {H H':Hp} {h h':Heap} {a:Addr} {o:HO}
theorem cu.lt (x:cu P w H h a o):a<h.objs.size:=by
 cases o with
 | lst xs=>obtain ⟨_,_,_,_,e⟩:=x;exact Heap.lt_size e
 | tup xs=>obtain ⟨_,_,_,p⟩:=x;exact p.lt
 | dK kvs=>obtain ⟨_,_,_,_,o,_,_,e,_⟩:=x;exact Heap.lt_size e
 | dT kvs=>obtain ⟨_,_,_,_,o,_,_,e,_⟩:=x;exact Heap.lt_size e
 | set S n=>obtain ⟨o,_,_,_,e,_⟩:=x;exact Heap.lt_size e
 | ins C dx fs=>obtain ⟨_,_,_,e,_⟩:=x;exact Heap.lt_size e
 | own y=>obtain ⟨_,e⟩:=x;exact Heap.lt_size e
 | xd fs=>obtain ⟨_,⟨_,_,_,e,_⟩,_⟩:=x;exact Heap.lt_size e
 | F9 lo hi=>obtain ⟨_,_,_,e⟩:=x;exact Heap.lt_size e
 | jm ob u=>obtain ⟨e,_⟩:=x;exact Heap.lt_size e
 | wb ps=>exact Heap.lt_size (show h.get? a=some _ from x)
 | met f y=>exact Heap.lt_size (show h.get? a=some _ from x)
 | ext φ=>obtain ⟨_,⟨_,e⟩,_⟩:=x;exact Heap.lt_size e
theorem Paired.Co {α β : Type} {F G : α → β → Prop} : ∀ {l₁ : List α} {l₂ : List β}, Paired F l₁ l₂ → (∀ a b, F a b → G a b) → Paired G l₁ l₂
 | _,_,.nil,_=>.nil
 | _,_,.cons r t,f=>.cons (f _ _ r) (Paired.Co t f)
theorem cu.iq (x : cu P w H h a o) (k : ∀ b u, (b = a ∨ H b = some (.own a)) → h.get? b = some u → h'.get? b = some u)
   (ho:∀ b,H b=some (.own a)→H' b=some (.own a)) (ht:∀ b xs,H b=some (.tup xs)→H' b=some (.tup xs)):cu P w H' h' a o:=by
 induction o with
 | lst xs=>obtain ⟨z,its,n,r,e⟩:=x;exact ⟨z,its,n,r,k _ _ (.inl rfl) e⟩
 | tup xs=>obtain ⟨z,its,r,ob,e,c⟩:=x;exact ⟨z,its,r,ob,k _ _ (.inl rfl) e,c⟩
 | dK kvs=>obtain ⟨z,y,vs,r,ob,es,ep,e,c⟩:=x;exact ⟨z,y,vs,r,ob,es,ep,k _ _ (.inl rfl) e,c⟩
 | dT kvs =>
   obtain ⟨z,y,xs,r,ob,es,ep,e,c⟩:=x;exact ⟨z,y,xs,Paired.Co r fun p q z=>⟨z.1,ht _ _ z.2.1,z.2.2⟩,ob,es,ep,k _ _ (.inl rfl) e,c⟩
 | set S n=>obtain ⟨ob,es,ep,t,e,c⟩:=x;exact ⟨ob,es,ep,t,k _ _ (.inl rfl) e,c⟩
 | ins C dx fs =>
   obtain ⟨d,z,ne,e,mA,⟨od,es,ep,e2,c⟩,r⟩:=x;exact ⟨ho _ d,z,ne,k _ _ (.inl rfl) e,mA,⟨od,es,ep,k _ _ (.inr d) e2,c⟩,r⟩
 | own y=>obtain ⟨ob,e⟩:=x;exact ⟨ob,k _ _ (.inl rfl) e⟩
 | xd fs=>obtain ⟨mA,⟨od,es,ep,e,c⟩,r⟩:=x;exact ⟨mA,⟨od,es,ep,k _ _ (.inl rfl) e,c⟩,r⟩
 | F9 lo hi=>obtain ⟨t,u,v,e⟩:=x;exact ⟨t,u,v,k _ _ (.inl rfl) e⟩
 | jm ob u ih=>obtain ⟨e,q⟩:=x;exact ⟨k _ _ (.inl rfl) e,ih q⟩
 | wb ps =>
   have e:h.get? a=some { cls:=.none,data:=.fields ps }:=x;show h'.get? a=some { cls:=.none,data:=.fields ps };exact k a _ (.inl rfl) e
 | met f y =>
   have e:h.get? a=some (W.methodObj (.ref f) (.ref y)):=x;show h'.get? a=some (W.methodObj (.ref f) (.ref y));exact k a _ (.inl rfl) e
 | ext φ=>obtain ⟨p,⟨o,e⟩,st⟩:=x;exact ⟨st _ _ p fun o q=>k _ _ (.inl rfl) q,⟨o,k _ _ (.inl rfl) e⟩,st⟩
theorem dA.lt (x:dA P w H h) (e:H a=some o):a<h.objs.size:=(x a o e).lt
theorem dA.fresh (x:dA P w H h) (e:h.objs.size≤a):H a=none:=by
 cases q:H a with
 | none=>rfl
 | some u=>exact absurd (Nat.lt_of_lt_of_le (x.lt q) e) (Nat.lt_irrefl _)
theorem dA.kept (x:dA P w H h) (k:∀ b u,h.get? b=some u→h'.get? b=some u):dA P w H h':=fun a o e =>
 (x a o e).iq (fun b u _ q=>k b u q) (fun _ q=>q) fun _ _ q=>q
theorem dA.laid (x:dA P w H h) (k:∀ b u,h.get? b=some u→h'.get? b=some u) (hp:h.objs.size≤a) (new:cu P w (upd H a o) h' a o):dA P w (upd H a o) h':=fun b u e=>by
 have hn:=x.fresh hp;by_cases hb:b=a
 · subst hb;rw [ae] at e;cases e;exact new
 · rw [aw hb] at e;exact (x b u e).iq (fun c v _ q=>k c v q) (fun c q=>by rw [aw (aq q hn)];exact q) fun c xs q=>by rw [aw (aq q hn)];exact q
end
def Rd (H:Hp) (a:Addr) (u:HO):Prop:=H a=some u∨∃ o,H a=some (.jm o u)
theorem Rd.ok {P:Program} {w:World} {H:Hp} {h:Heap} {a:Addr} {u:HO} (r:Rd H a u) (x:dA P w H h):cu P w H h a u:=by
 rcases r with r | ⟨o,r⟩
 · exact x a u r
 · obtain ⟨_, q⟩ := x a _ r;exact q
def AN : Option HO → Prop
 | some (.lst _)=>True
 | some (.dK _)=>True
 | some (.dT _)=>True
 | some (.set _ _)=>True
 | some (.ins _ _ _)=>True
 | some (.ext _)=>True
 | _=>False
section
variable {P:Program} {w:World} {H:Hp} {h h':Heap} {x e:Addr} {o':HO}
theorem dA.write (ok : dA P w H h) (mu : AN (H x)) (he : e = x ∨ H e = some (.own x)) (k : ∀ b u, b ≠ e → h.get? b = some u → h'.get? b = some u) (heo : ∃ u, h'.get? e = some u)
   (new:cu P w (upd H x o') h' x o'):dA P w (upd H x o') h':=fun b u q=>by
 have nown:∀ c y,H c=some (.own y)→c≠x:=fun c y r z=>by subst z;rw [r] at mu;exact mu
 have ntup:∀ c xs,H c=some (.tup xs)→c≠x:=fun c xs r z=>by subst z;rw [r] at mu;exact mu
 by_cases hb:b=x
 · subst hb;rw [ae] at q;cases q;exact new
 · rw [aw hb] at q;by_cases hbe:b=e
   · have q' : H b = some (.own x) := by
       rcases he with z | z
       · exact absurd (hbe.trans z) hb
       · rw [hbe];exact z
     rw [q] at q';cases q';obtain ⟨v,hv⟩:=heo;exact ⟨v,by rw [hbe];exact hv⟩
   · refine (ok b u q).iq (fun c v hc r => k c v ?_ r) (fun c r => by rw [aw (nown c b r)]; exact r) fun c xs r => by rw [aw (ntup c xs r)]; exact r
     rcases hc with rfl | hc
     · exact hbe
     · rintro rfl;rcases he with z | z
       · exact nown c b hc z
       · rw [hc] at z;cases z;exact hb rfl
end
structure Un (fs ex:List Addr) (H H':Hp) (h h':Heap):Prop where
 keep:∀ b o,h.get? b=some o→H b=none→b ∉ fs→b ∉ ex→h'.get? b=some o
 slot:∀ b o,h.get? b=some o→H b=none→b∈fs→b ∉ ex→∃ sl,h'.get? b=some { o with slots:=sl }
 free:∀ b o,h.get? b=some o→H b=none→b ∉ ex→H' b=none
 there:∀ b o,h.get? b=some o→b ∉ ex→∃ o',h'.get? b=some o'
 jL:∀ b xs,H b=some (.tup xs)→H' b=some (.tup xs)
 iL:∀ b o u,H b=some (.jm o u)→H' b=some (.jm o u)
 jD:∀ b ps,H b=some (.wb ps)→∃ more,H' b=some (.wb (ps++more))
section
variable {fs fs' ex ex':List Addr} {H H1 H2:Hp} {h h1 h2 h':Heap} {a x e:Addr} {o:HO}
theorem Un.any (u:Un fs ex H H1 h h1) {b:Addr} {ob:Obj} (q:h.get? b=some ob) (n:H b=none) (hx:b ∉ ex):∃ sl,h1.get? b=some { ob with slots:=sl }:=by
 by_cases hb:b∈fs
 · exact u.slot b ob q n hb hx
 · exact ⟨ob.slots,u.keep b ob q n hb hx⟩
theorem Un.kept (k:∀ b u,h.get? b=some u→h'.get? b=some u):Un fs ex H H h h' :=
 ⟨fun b ob q _ _ _=>k b ob q,fun b ob q _ _ _=>⟨ob.slots,k b ob q⟩,fun _ _ _ n _=>n,fun b ob q _=>⟨ob,k b ob q⟩,fun _ _ q=>q,fun _ _ _ q=>q,fun _ ps q=>⟨#[],by rw [q];simp⟩⟩
theorem Un.refl:Un fs ex H H h h:=Un.kept fun _ _ q=>q
theorem Un.laid (k:∀ b u,h.get? b=some u→h'.get? b=some u) (hp:h.objs.size≤a) (hn:H a=none):Un fs ex H (upd H a o) h h' where
 keep:=fun b u q _ _ _=>k b u q
 slot:=fun b u q _ _ _=>⟨u.slots,k b u q⟩
 free:=fun b u q n _=>by rw [aw (Nat.ne_of_lt (Nat.lt_of_lt_of_le (Heap.lt_size q) hp))];exact n
 there:=fun b u q _=>⟨u,k b u q⟩
 jL:=fun b xs q=>by rw [aw (aq q hn)];exact q
 iL:=fun b u xs q=>by rw [aw (aq q hn)];exact q
 jD:=fun b ps q=>⟨#[],by rw [aw (aq q hn),q];simp⟩
theorem Un.write (mu:AN (H x)) (he:e=x∨H e=some (.own x)) (k:∀ b u,b≠e→h.get? b=some u→h'.get? b=some u) (heo:∃ u,h'.get? e=some u):Un fs ex H (upd H x o) h h':=by
 have hx:∀ b,H b=none→b≠x:=fun b n z=>by subst z;rw [n] at mu;exact mu
 have hb:∀ b,H b=none→b≠e:=fun b n z=>by
   subst z;rcases he with r | r
   · exact hx b n r
   · rw [n] at r;cases r
 have hm:∀ b u,H b=some u→¬ AN (some u)→b≠x:=fun b u q nm z=>by subst z;rw [q] at mu;exact nm mu
 refine ⟨fun b u q n _ _ => k b u (hb b n) q, fun b u q n _ _ => ⟨u.slots, k b u (hb b n) q⟩, fun b u q n _ => by rw [aw (hx b n)]; exact n, fun b u q _ => ?_,
   fun b xs q=>by rw [aw (hm b _ q fun z=>z)];exact q,fun b u xs q=>by rw [aw (hm b _ q fun z=>z)];exact q,fun b ps q=>⟨#[],by rw [aw (hm b _ q fun z=>z),q];simp⟩⟩
 by_cases hbe:b=e
 · subst hbe;exact heo
 · exact ⟨u,k b u hbe q⟩
end
def Dr (h:Heap) (H:Hp):List Addr:=(List.range h.objs.size).filter fun a=>(H a).isSome
def kB (h:Heap) (H:Hp):Heap:=W.hideAll h (Dr h H)
theorem zN (h:Heap) (H:Hp):(kB h H).objs.size=h.objs.size:=W.hideAll_size _ _
theorem CS {h:Heap} {H:Hp} {b:Addr} {o:Obj} (e:h.get? b=some o) (n:H b=none):(kB h H).get? b=some o :=
 W.hideAll_get _ e fun hm=>by
   have q:(H b).isSome=true:=(List.mem_filter.mp hm).2;rw [n] at q;simp at q
theorem DU {h:Heap} {H:Hp} {b:Addr} {o:Obj} (e:(kB h H).get? b=some o):h.get? b=some o∧H b=none:=by
 have e':h.get? b=some o:=W.of_hideAll (Dr h H) e;refine ⟨e',?_⟩;cases q:H b with
 | none=>rfl
 | some x =>
   have hm:b∈Dr h H:=List.mem_filter.mpr ⟨List.mem_range.mpr (Heap.lt_size e'),by simp [q]⟩;have z:(kB h H).get? b=none:=W.hideAll_none (Dr h H) hm;rw [z] at e;cases e
end L2
namespace L2
open PySem PySem.Spec PyProof.Rows
structure Mod (K:W.Frag) (mg:Str→Option Value) (base:Heap):Prop where
 vw:K.In base
 glob:base.Ns mainGlobals mg
 blt:∃ mb,base.Ns builtinsNs mb∧∀ x:Str,x ≠ "__name__"→mb x=bootBuiltins x
 nolimit:base.NoLimit
structure Cx where
 prog:Program
 w:World
 K:W.Frag
 mg:Str→Option Value
 base:Heap
 A:Around
 N:List Str
 s₀ : Shared
 H₀ : Hp
 env:Env
 outer:List Env
 stack:List Env
 ex:List Addr
 fn:Str→Bool
 calm:Bool
 pn:List (Addr×Obj)
 xe:Value→Shared→Prop
def d0 (l:List Env):List Addr:=l.filterMap (·.frame)
abbrev Cx.fs (X:Cx):List Addr:=d0 X.outer
def GP (sc:Scope) (x:Str):Prop:=sc.names.lookup x=some .local∨sc.names.lookup x=some .cell∨sc.names.lookup x=some .free
def Loc (sc:Scope) (x:Str):Prop:=sc.names.lookup x=some .local∨sc.names.lookup x=some .cell
def Look (env:Env) (h:Heap) (m:Str→Option Value) (x:Str) (u:Value):Prop :=
 (env.kindOf x=some .local∧m x=some u)∨((env.kindOf x=some .cell∨env.kindOf x=some .free)∧∃ c,env.cells.lookup x=some c∧h.IsCell c (some u))
structure Cx.Ok (X:Cx):Prop where
 mod:Mod X.K X.mg X.base
 kind:X.env.scope.kind=.function
 glob:X.env.globals=mainGlobals
 blt:X.env.builtins=builtinsNs
 above:X.s₀.heap.objs.size≤X.env.locals
 inj:∀ x y c,X.env.cells.lookup x=some c→X.env.cells.lookup y=some c→x=y
 has:∀ x,(X.env.kindOf x=some .cell∨X.env.kindOf x=some .free)→∃ c,X.env.cells.lookup x=some c
 tY:∀ x c,X.fn x=true→X.env.cells.lookup x=some c→X.s₀.heap.objs.size≤c
 hd:X.calm=true→X.A.handled=none
 frames:X.A.frames=some X.stack
 xM:X.stack=X.outer∨(X.stack=X.env::X.outer∧X.env.frame=some X.env.locals)
 DG:∀ b∈X.ex,b≠X.env.locals∧∀ x c,X.env.cells.lookup x=some c→c≠b
 bs:∀ b o,X.base.get? b=some o→X.s₀.heap.get? b=some o∧X.H₀ b=none
 nS:X.base.objs.size≤X.s₀.heap.objs.size
 oE:∀ b o,X.base.get? b=some o→b ∉ X.ex
 qO:∀ b∈X.ex,b ∉ X.fs
 gy:X.s₀.heap.FunFrames X.base X.outer
 qg:∀ b∈X.fs,X.H₀ b=none
structure Inv (X:Cx) (pins:List (Addr×Obj)) (σ : List (Option V)) (H:Hp) (s:Shared):Prop where
 ok:X.Ok
 os:s.os=X.s₀.os
 bare:AllBare s.gens
 base:Un X.fs X.ex X.H₀ H X.s₀.heap s.heap
 loc:∃ m,s.heap.Ns X.env.locals m∧∀ (i:Nat) (x:Str) (v:V),X.N[i]? = some x→σ[i]? = some (some v)→GP X.env.scope x→∃ u,RelV v u∧Look X.env s.heap m x u
 cell:∀ x c,X.env.cells.lookup x=some c→∃ v,s.heap.IsCell c v
 free:H X.env.locals=none
 fS:∀ x c,X.env.cells.lookup x=some c→H c=none
 pin:∀ p∈X.pn++pins,s.heap.get? p.1=some p.2∧H p.1=none∧p.1≠X.env.locals∧p.1 ∉ X.fs∧∀ v,p.2.data≠.cell v
 aG:dA X.prog X.w H s.heap
 len : σ.length=X.N.length
section
variable {X:Cx} {pins:List (Addr×Obj)} {σ : List (Option V)} {H H':Hp} {s:Shared} {h':Heap}
theorem Cx.Ok.T8 (ok:X.Ok) {b:Addr} {o:Obj} (e:X.base.get? b=some o):b ∉ X.fs:=fun hb=>by
 have:=(ok.gy.mem hb).1
 rw [e] at this;cases this
theorem Inv.bs (I:Inv X pins σ H s):∀ b o,X.base.get? b=some o→s.heap.get? b=some o∧H b=none:=fun b o e =>
 ⟨I.base.keep b o (I.ok.bs b o e).1 (I.ok.bs b o e).2 (I.ok.T8 e) (I.ok.oE b o e),I.base.free b o (I.ok.bs b o e).1 (I.ok.bs b o e).2 (I.ok.oE b o e)⟩
theorem Inv.bk (I:Inv X pins σ H s):∀ b o,X.base.get? b=some o→s.heap.get? b=some o:=fun b o e=>(I.bs b o e).1
theorem Inv.mod (I:Inv X pins σ H s):Mod X.K X.mg X.base:=I.ok.mod
theorem Inv.el (I:Inv X pins σ H s):X.K.In s.heap:=I.ok.mod.vw.keeps I.bk
theorem Inv.lt (I:Inv X pins σ H s):X.env.locals<s.heap.objs.size:=let ⟨_,hn,_⟩:=I.loc;hn.lt
theorem Inv.sz (I:Inv X pins σ H s):X.s₀.heap.objs.size≤s.heap.objs.size:=Nat.le_trans I.ok.above (Nat.le_of_lt I.lt)
theorem Inv.F2 (I:Inv X pins σ H s) {a:Addr} (h:s.heap.objs.size≤a):a ∉ X.fs:=fun hb=>by
 obtain ⟨_,o,ho,_⟩:=I.ok.gy.mem hb;exact absurd (Nat.lt_of_lt_of_le (Heap.lt_size ho) (Nat.le_trans I.sz h)) (Nat.lt_irrefl _)
theorem Inv.vv (I:Inv X pins σ H s):∀ x c,X.env.cells.lookup x=some c→c≠X.env.locals:=fun x c e z=>by
 obtain ⟨v,o,ho,hd⟩:=I.cell x c e;obtain ⟨m,⟨o',es,ep,ho',hd',_⟩,_⟩:=I.loc;rw [z,ho'] at ho;cases ho;rw [hd'] at hd;cases hd
theorem Inv.gy (I:Inv X pins σ H s):s.heap.FunFrames X.base X.outer:=by
 have all:∀ (l:List Env),(∀ b∈d0 l,b∈X.fs)→X.s₀.heap.FunFrames X.base l→s.heap.FunFrames X.base l:=by
   intro l
   induction l with
   | nil=>intro _ _;trivial
   | cons env r ih =>
     intro hs hl;obtain ⟨hk,⟨L,o,hf,hn,ho,hd⟩,hr⟩:=hl;have hL:L∈X.fs:=hs L (by unfold d0;rw [List.filterMap_cons,hf];exact List.mem_cons_self);obtain ⟨sl,e⟩:=I.base.slot L o ho (I.ok.qg L hL) hL fun z=>I.ok.qO L z hL;exact ⟨hk,⟨L,_,hf,hn,e,hd⟩,ih (fun b hb=>hs b (by unfold d0;rw [List.filterMap_cons,hf];exact List.mem_cons_of_mem _ hb)) hr⟩
 exact all X.outer (fun _ hb=>hb) I.ok.gy
theorem Inv.stack (I:Inv X pins σ H s):s.heap.FunFrames X.base X.stack:=by
 rcases I.ok.xM with e | ⟨e,hf⟩
 · rw [e];exact I.gy
 · rw [e];obtain ⟨m,hn,_⟩:=I.loc;refine .cons (by rw [I.ok.kind];decide) hf hn ?_ I.gy;exact Heap.get?_none_of_le (Nat.le_trans I.ok.nS I.ok.above)
theorem Inv.mr (I:Inv X pins σ H s):∀ b∈d0 X.stack,b∈X.env.locals::X.fs:=fun b hb=>by
 rcases I.ok.xM with e | ⟨e,hf⟩
 · rw [e] at hb;exact List.mem_cons_of_mem _ hb
 · rw [e] at hb;unfold d0 at hb;rw [List.filterMap_cons,hf] at hb;exact hb
theorem Inv.mS (I:Inv X pins σ H s):∀ b∈d0 X.stack,H b=none:=fun b hb=>by
 rcases List.mem_cons.mp (I.mr b hb) with e | hb
 · rw [e];exact I.free
 · obtain ⟨_, o, ho, _⟩ := I.ok.gy.mem hb;exact I.base.free b o ho (I.ok.qg b hb) fun z=>I.ok.qO b z hb
theorem Inv.step {g' : Array GenState} {t' : Nat} {d' : Drawn} {ch : List Addr} (I : Inv X pins σ H s)
   (hch:∀ b∈ch,(b∈X.ex∨X.s₀.heap.objs.size≤b)∧b≠X.env.locals∧(∀ x c,X.env.cells.lookup x=some c→c≠b)∧∀ p∈X.pn++pins,p.1≠b)
   (keep:∀ b o,b≠X.env.locals→b ∉ X.fs→b ∉ ch→s.heap.get? b=some o→H b=none→h'.get? b=some o)
   (slot:∀ b o,b≠X.env.locals→b∈X.fs→b ∉ ch→s.heap.get? b=some o→H b=none→∃ sl,h'.get? b=some { o with slots:=sl }) (free:∀ b o,b ∉ ch→s.heap.get? b=some o→H b=none→H' b=none)
   (there:∀ b o,b ∉ ch→s.heap.get? b=some o→∃ o',h'.get? b=some o')
   (jL:∀ b xs,H b=some (.tup xs)→H' b=some (.tup xs)) (iL:∀ b o u,H b=some (.jm o u)→H' b=some (.jm o u)) (jD:∀ b ps,H b=some (.wb ps)→∃ more,H' b=some (.wb (ps++more)))
   (ns:∀ m,s.heap.Ns X.env.locals m→h'.Ns X.env.locals m) (aG:dA X.prog X.w H' h') (hg:AllBare g') :
   Inv X pins σ H' { s with heap:=h',gens:=g',drawn:=d',toks:=t' }:=by
 have neL:∀ b o,X.s₀.heap.get? b=some o→b≠X.env.locals:=fun b o e=>Nat.ne_of_lt (Nat.lt_of_lt_of_le (Heap.lt_size e) I.ok.above);have neC:∀ b o,X.s₀.heap.get? b=some o→b ∉ X.ex→b ∉ ch:=fun b o e hx hb=>by
   rcases (hch b hb).1 with z | z
   · exact hx z
   · exact absurd (Nat.lt_of_lt_of_le (Heap.lt_size e) z) (Nat.lt_irrefl _)
 have cellK:∀ x c,X.env.cells.lookup x=some c→∀ v,s.heap.IsCell c v→h'.IsCell c v:=fun x c e v ⟨o,ho,hd⟩=>by
   have nch:c ∉ ch:=fun z=>(hch c z).2.2.1 x c e rfl;by_cases hc:c∈X.fs
   · obtain ⟨sl, q⟩ := slot c o (I.vv x c e) hc nch ho (I.fS x c e);exact ⟨_,q,hd⟩
   · exact ⟨o,keep c o (I.vv x c e) hc nch ho (I.fS x c e),hd⟩
 refine ⟨I.ok,I.os,hg,⟨fun b o e n hb hx=>?_,fun b o e n hb hx=>?_,fun b o e n hx=>?_,fun b o e hx=>?_,fun b xs e=>jL b xs (I.base.jL b xs e),fun b o xs e=>iL b o xs (I.base.iL b o xs e),fun b ps e=>?_⟩,?_,fun x c e=>?_,?_,fun x c e=>?_,fun p hp=>?_,aG,I.len⟩
 · exact keep b o (neL b o e) hb (neC b o e hx) (I.base.keep b o e n hb hx) (I.base.free b o e n hx)
 · obtain ⟨sl, e1⟩ := I.base.slot b o e n hb hx;obtain ⟨sl',e2⟩:=slot b _ (neL b o e) hb (neC b o e hx) e1 (I.base.free b o e n hx);exact ⟨sl',e2⟩
 · obtain ⟨o', e1⟩ := I.base.there b o e hx;exact free b o' (neC b o e hx) e1 (I.base.free b o e n hx)
 · obtain ⟨o', e1⟩ := I.base.there b o e hx;exact there b o' (neC b o e hx) e1
 · obtain ⟨m1, e1⟩ := I.base.jD b ps e;obtain ⟨m2,e2⟩:=jD b _ e1;exact ⟨m1++m2,by rw [e2,Array.append_assoc]⟩
 · obtain ⟨m, hn, hl⟩ := I.loc;refine ⟨m,ns m hn,fun i x v e1 e2 e3=>?_⟩;obtain ⟨u,r,l⟩:=hl i x v e1 e2 e3;refine ⟨u,r,?_⟩;rcases l with l | ⟨k,c,e,z⟩
   · exact .inl l
   · exact .inr ⟨k,c,e,cellK x c e _ z⟩
 · obtain ⟨v, z⟩ := I.cell x c e;exact ⟨v,cellK x c e v z⟩
 · obtain ⟨m, ⟨o, _, _, ho, _⟩, _⟩ := I.loc;exact free _ o (fun z=>(hch _ z).2.1 rfl) ho I.free
 · obtain ⟨v, o, ho, hd⟩ := I.cell x c e;exact free c o (fun z=>(hch c z).2.2.1 x c e rfl) ho (I.fS x c e)
 · obtain ⟨e, n, ne, nf, d⟩ := I.pin p hp;have nch:p.1 ∉ ch:=fun z=>(hch p.1 z).2.2.2 p hp rfl;exact ⟨keep p.1 p.2 ne nf nch e n,free p.1 p.2 nch e n,ne,nf,d⟩
theorem Inv.un {t':Nat} (I:Inv X pins σ H s) (u:Un X.fs [] H H' s.heap h') (aG:dA X.prog X.w H' h'):Inv X pins σ H' { s with heap:=h',toks:=t' }:=by
 obtain ⟨m,⟨o,es,ep,ho,r⟩,_⟩:=id I.loc;obtain ⟨sl,hL⟩:=u.any ho I.free (by simp);exact I.step (g':=s.gens) (d':=s.drawn) (ch:=[]) (fun _ z=>nomatch z) (fun b o _ hb _ e n=>u.keep b o e n hb (by simp)) (fun b o _ hb _ e n=>u.slot b o e n hb (by simp)) (fun b o _ e n=>u.free b o e n (by simp)) (fun b o _ e=>u.there b o e (by simp)) u.jL u.iL u.jD (fun m' hm=>by
   obtain ⟨o',es',ep',ho',r'⟩:=hm;rw [ho] at ho';cases ho';exact ⟨_,es',ep',hL,r'⟩) aG I.bare
theorem Inv.call {g' : Array GenState} {t' : Nat} {d' : Drawn} {ch : List Addr} (I : Inv X pins σ H s) (u : Un (d0 X.stack) ch H H' s.heap h') (aG : dA X.prog X.w H' h') (hg : AllBare g')
   (hch:∀ b∈ch,(b∈X.ex∨X.s₀.heap.objs.size≤b)∧b≠X.env.locals∧(∀ x c,X.env.cells.lookup x=some c→c≠b)∧∀ p∈X.pn++pins,p.1≠b) :
   Inv X pins σ H' { s with heap:=h',gens:=g',drawn:=d',toks:=t' }:=by
 obtain ⟨m,⟨o,es,ep,ho,r⟩,_⟩:=id I.loc;obtain ⟨sl,hL⟩:=u.any ho I.free fun z=>(hch _ z).2.1 rfl;exact I.step (ch:=ch) hch (fun b o hL hb hc e n=>u.keep b o e n (fun z=>(List.mem_cons.mp (I.mr b z)).elim hL hb) hc) (fun b o _ _ hc e n=>u.any e n hc) (fun b o hc e n=>u.free b o e n hc) (fun b o hc e=>u.there b o e hc) u.jL u.iL u.jD (fun m' hm=>by
   obtain ⟨o',es',ep',ho',r'⟩:=hm;rw [ho] at ho';cases ho';exact ⟨_,es',ep',hL,r'⟩) aG hg
theorem Inv.turned {t' : Nat} {it : Addr} (I : Inv X pins σ H s) (k : ∀ b o, b ≠ it → s.heap.get? b = some o → h'.get? b = some o) (hn : H it = none) (hL : it ≠ X.env.locals)
   (h1:it∈X.ex∨X.s₀.heap.objs.size≤it) (h2:∀ x c,X.env.cells.lookup x=some c→c≠it) (h3:∀ p∈X.pn++pins,p.1≠it):Inv X pins σ H { s with heap:=h',toks:=t' }:=by
 have nit:∀ b u,H b=some u→b≠it:=fun b u e z=>by rw [z,hn] at e;cases e
 refine I.step (g' := s.gens) (d' := s.drawn) (ch := [it]) (fun b hb => ?_) (fun b o _ _ hc e _ => k b o (fun z => hc (by simp [z])) e) (fun b o _ _ hc e _ => ⟨o.slots, k b o (fun z => hc (by simp [z])) e⟩) (fun _ _ _ _ n => n)
   (fun b o hc e=>⟨o,k b o (fun z=>hc (by simp [z])) e⟩) (fun _ _ e=>e) (fun _ _ _ e=>e) (fun b ps e=>⟨#[],by rw [e];simp⟩) (fun m hm=>?_) (fun b u e=>?_) I.bare
 · have e : b = it := by simpa using hb
   subst e;exact ⟨h1,hL,h2,h3⟩
 · obtain ⟨o, es, ep, ho, r⟩ := hm;exact ⟨o,es,ep,k _ o (Ne.symm hL) ho,r⟩
 · refine (I.aG b u e).iq (fun c v hc q => k c v ?_ q) (fun _ q => q) fun _ _ q => q;rcases hc with z | z
   · rw [z];exact nit b u e
   · exact nit c _ z
theorem Inv.tok (I:Inv X pins σ H s) (t:Nat):Inv X pins σ H { s with toks:=t }:=I.un (h':=s.heap) (t':=t) Un.refl I.aG
theorem Inv.kept {t':Nat} (I:Inv X pins σ H s) (k:∀ b u,s.heap.get? b=some u→h'.get? b=some u):Inv X pins σ H { s with heap:=h',toks:=t' }:=I.un (Un.kept k) (I.aG.kept k)
theorem Inv.laid {a : Addr} {o : HO} {t' : Nat} (I : Inv X pins σ H s) (k : ∀ b u, s.heap.get? b = some u → h'.get? b = some u) (hp : s.heap.objs.size ≤ a) (new : cu X.prog X.w (upd H a o) h' a o) :
   Inv X pins σ (upd H a o) { s with heap:=h',toks:=t' }:=I.un (Un.laid k hp (I.aG.fresh hp)) (I.aG.laid k hp new)
theorem Inv.write {x e : Addr} {o : HO} {t' : Nat} (I : Inv X pins σ H s) (mu : AN (H x)) (he : e = x ∨ H e = some (.own x)) (k : ∀ b u, b ≠ e → s.heap.get? b = some u → h'.get? b = some u) (heo : ∃ u, h'.get? e = some u)
   (new:cu X.prog X.w (upd H x o) h' x o):Inv X pins σ (upd H x o) { s with heap:=h',toks:=t' }:=I.un (Un.write mu he k heo) (I.aG.write mu he k heo new)
theorem Inv.mR {pins':List (Addr×Obj)} (I:Inv X pins σ H s) (h:∀ p∈pins',s.heap.get? p.1=some p.2∧H p.1=none∧p.1≠X.env.locals∧p.1 ∉ X.fs∧∀ v,p.2.data≠.cell v):Inv X pins' σ H s :=
 ⟨I.ok,I.os,I.bare,I.base,I.loc,I.cell,I.free,I.fS,fun p hp=>(List.mem_append.mp hp).elim (fun z=>I.pin p (List.mem_append_left _ z)) (h p),I.aG,I.len⟩
theorem vF {N:List Str} (hN:N.Nodup) {i j:Nat} {x:Str} (a:N[i]? = some x) (b:N[j]? = some x):i=j:=by
 obtain ⟨h1,e1⟩:=List.getElem?_eq_some_iff.mp a;obtain ⟨h2,e2⟩:=List.getElem?_eq_some_iff.mp b;exact (List.getElem_inj hN).mp (e1.trans e2.symm)
theorem rB {M : Model} {A : Around} {E : Value → Shared → Prop} {i : Nat} {x : Str} {v : V} {u : Value} {Q : Unit → Shared → Prop} (I : Inv X pins σ H s) (hN : X.N.Nodup) (hi : X.N[i]? = some x) (hx : Loc X.env.scope x) (r : RelV v u)
   (h:∀ s',Inv X pins (σ.set i (some v)) H s'→(∃ a,Heap.SameBut a s.heap s'.heap∧(a=X.env.locals∨X.env.cells.lookup x=some a))→Q () s') (hf:X.fn x=true∨X.env.scope.names.lookup x=some .local:=by first | exact .inl rfl | exact .inr rfl | assumption):wpAny M A (storeName X.env x u) Q E s:=by
 obtain ⟨m,hn,hl⟩:=id I.loc;have hcls:(X.env.scope.kind == .class || (X.env.scope.kind == .module && X.env.locals != X.env.globals))=false:=by rw [I.ok.kind];rfl
 have hiσ : i < σ.length:=by rw [I.len];exact (List.getElem?_eq_some_iff.mp hi).1
 have vv:=I.vv;have tracked:∀ {a:Addr} {h':Heap},(∃ o,s.heap.get? a=some o∧H a=none)→Heap.SameBut a s.heap h'→dA X.prog X.w H h':=fun {a h'} ha hs b ob e=>by
   obtain ⟨_,_,hfree⟩:=ha;refine (I.aG b ob e).iq (fun c w' hc q=>(hs.2 c ?_).trans q) (fun _ q=>q) fun _ _ q=>q;rintro rfl;rcases hc with rfl | hc
   · rw [hfree] at e;cases e
   · rw [hfree] at hc;cases hc
 rcases hx with hk | hk
 · refine wpAny_storeName_local hk hn (fun h' hn' hs => ?_) hcls;obtain ⟨oL,_,_,hoL,_⟩:=id hn;refine h _ ⟨I.ok,I.os,I.bare,⟨fun b o e n hb hx=>?_,fun b o e n hb hx=>?_,I.base.free,fun b o e hx=>?_,I.base.jL,I.base.iL,I.base.jD⟩,⟨_,hn',fun j y v' e1 e2 e3=>?_⟩,fun y c e=>?_,I.free,I.fS,fun p hp=>?_,tracked ⟨oL,hoL,I.free⟩ hs,by simpa using I.len⟩ ⟨_,hs,.inl rfl⟩
   · exact (hs.2 b (Nat.ne_of_lt (Nat.lt_of_lt_of_le (Heap.lt_size e) I.ok.above))).trans (I.base.keep b o e n hb hx)
   · obtain ⟨sl, e1⟩ := I.base.slot b o e n hb hx;exact ⟨sl,(hs.2 b (Nat.ne_of_lt (Nat.lt_of_lt_of_le (Heap.lt_size e) I.ok.above))).trans e1⟩
   · obtain ⟨o', e1⟩ := I.base.there b o e hx;exact ⟨o',(hs.2 b (Nat.ne_of_lt (Nat.lt_of_lt_of_le (Heap.lt_size e) I.ok.above))).trans e1⟩
   · by_cases hj : j = i
     · subst hj;rw [hi] at e1;cases e1;rw [List.getElem?_set_self hiσ] at e2;cases e2
       exact ⟨u,r,.inl ⟨hk,by simp⟩⟩
     · rw [List.getElem?_set_ne (Ne.symm hj)] at e2;obtain ⟨u',r',q⟩:=hl j y v' e1 e2 e3;refine ⟨u',r',?_⟩;rcases q with ⟨k,e⟩ | ⟨k,c,e,z⟩
       · refine .inl ⟨k, ?_⟩
         have:y≠x:=fun e=>hj (vF hN e1 (e ▸ hi))
         simp [this,e]
       · exact .inr ⟨k,c,e,z.sameBut hs (vv y c e)⟩
   · obtain ⟨w', z⟩ := I.cell y c e;exact ⟨w',z.sameBut hs (vv y c e)⟩
   · obtain ⟨e, n, ne, nf, d⟩ := I.pin p hp;exact ⟨(hs.2 p.1 ne).trans e,n,ne,nf,d⟩
 · have hfn : X.fn x = true := by
     rcases hf with z | z
     · exact z
     · rw [z] at hk;cases hk
   obtain ⟨c,hc⟩:=I.ok.has x (.inl hk);obtain ⟨w',z⟩:=I.cell x c hc;refine wpAny_storeName_cell I.ok.kind hk hc z (fun h' hc' hs=>?_);obtain ⟨oc,hoc,hocd⟩:=id z;refine h { s with heap:=h' } ⟨I.ok,I.os,I.bare,⟨fun b o e n hb hx=>?_,fun b o e n hb hx=>?_,I.base.free,fun b o e hx=>?_,I.base.jL,I.base.iL,I.base.jD⟩,⟨m,hn.sameBut hs (Ne.symm (vv x c hc)),fun j y v' e1 e2 e3=>?_⟩,fun y c' e=>?_,I.free,I.fS,fun p hp=>?_,tracked ⟨oc,hoc,I.fS x c hc⟩ hs,by simpa using I.len⟩ ⟨c,hs,.inr hc⟩
   · exact (hs.2 b (Nat.ne_of_lt (Nat.lt_of_lt_of_le (Heap.lt_size e) (I.ok.tY x c hfn hc)))).trans (I.base.keep b o e n hb hx)
   · obtain ⟨sl, e1⟩ := I.base.slot b o e n hb hx;exact ⟨sl,(hs.2 b (Nat.ne_of_lt (Nat.lt_of_lt_of_le (Heap.lt_size e) (I.ok.tY x c hfn hc)))).trans e1⟩
   · obtain ⟨o', e1⟩ := I.base.there b o e hx;exact ⟨o',(hs.2 b (Nat.ne_of_lt (Nat.lt_of_lt_of_le (Heap.lt_size e) (I.ok.tY x c hfn hc)))).trans e1⟩
   · by_cases hj : j = i
     · subst hj;rw [hi] at e1;cases e1;rw [List.getElem?_set_self hiσ] at e2;cases e2
       exact ⟨u,r,.inr ⟨.inl hk,c,hc,hc'⟩⟩
     · rw [List.getElem?_set_ne (Ne.symm hj)] at e2;obtain ⟨u',r',q⟩:=hl j y v' e1 e2 e3;refine ⟨u',r',?_⟩;rcases q with q | ⟨k,c',e,z'⟩
       · exact .inl q
       · refine .inr ⟨k, c', e, z'.sameBut hs ?_⟩;rintro rfl;exact hj (vF hN e1 (I.ok.inj _ _ _ e hc ▸ hi))
   · by_cases hcc : c' = c
     · subst hcc;exact ⟨_,hc'⟩
     · obtain ⟨w2, z2⟩ := I.cell y c' e;exact ⟨w2,z2.sameBut hs hcc⟩
   · obtain ⟨e, n, ne, nf, d⟩ := I.pin p hp;refine ⟨(hs.2 p.1 ?_).trans e,n,ne,nf,d⟩;intro q;rw [q,hoc] at e;have q':oc=p.2:=Option.some.inj e;exact d w' (by rw [← q'];exact hocd)
theorem oY {M : Model} {A : Around} {E : Value → Shared → Prop} {i : Nat} {x : Str} {v : V} {u : Value} {Q : Unit → Shared → Prop} (I : Inv X pins σ H s) (hN : X.N.Nodup) (hi : X.N[i]? = some x) (hx : Loc X.env.scope x) (r : RelV v u)
   (h:∀ s',Inv X pins (σ.set i (some v)) H s'→Q () s') (hf:X.fn x=true∨X.env.scope.names.lookup x=some .local:=by first | exact .inl rfl | exact .inr rfl | assumption):wpAny M A (storeName X.env x u) Q E s :=
 rB I hN hi hx r (fun s' I' _=>h s' I') hf
theorem Inv.ko {s' : Shared} {ch : List Addr} (I : Inv X pins σ H s) (ho : s'.os = s.os) (u : Un (d0 X.stack) ch H H' s.heap s'.heap) (aG : dA X.prog X.w H' s'.heap) (hg : AllBare s'.gens)
   (hch:∀ b∈ch,(b∈X.ex∨X.s₀.heap.objs.size≤b)∧b≠X.env.locals∧(∀ x c,X.env.cells.lookup x=some c→c≠b)∧∀ p∈X.pn++pins,p.1≠b):Inv X pins σ H' s':=by
 obtain ⟨h',g',d',t',o'⟩:=s';have e:o'=s.os:=ho;subst e;exact I.call (g':=g') (t':=t') (d':=d') u aG hg hch
end
abbrev XK:=Value→Option Addr→Hp→Prop
abbrev St:=List (Option V)
abbrev VK:=V→Hp→Prop
abbrev TE:=St→Hp→VK→Prop
abbrev TT:=St→Hp→(Bool→Hp→Prop)→Prop
abbrev TA:=St→Hp→(List V→Hp→Prop)→Prop
structure Ends where
 nx:St→Hp→Prop
 rt:VK
 bk:St→Hp→Prop:=fun _ _=>False
 ct:St→Hp→Prop:=fun _ _=>False
abbrev TS:=Ends→St→Hp→Prop
def EP (X:Cx) (pins:List (Addr×Obj)) (σ : St) (Q:VK) (u:Value) (s':Shared):Prop:=∃ v H',Inv X pins σ H' s'∧RelV v u∧Q v H'
def TP (X:Cx) (pins:List (Addr×Obj)) (σ : St) (Q:Bool→Hp→Prop) (b:Bool) (s':Shared):Prop:=∃ H',Inv X pins σ H' s'∧Q b H'
def AP (X:Cx) (pins:List (Addr×Obj)) (σ : St) (Q:List V→Hp→Prop) (us:List Value) (s':Shared):Prop:=∃ vs H',Inv X pins σ H' s'∧a_ vs us∧Q vs H'
def SP (X:Cx) (pins:List (Addr×Obj)) (D:Ends) (f:Flow) (s':Shared):Prop :=
 match f with
 | .next=>∃ σ' H',Inv X pins σ' H' s'∧D.nx σ' H'
 | .brk=>∃ σ' H',Inv X pins σ' H' s'∧D.bk σ' H'
 | .cont=>∃ σ' H',Inv X pins σ' H' s'∧D.ct σ' H'
 | .ret u=>∃ v σ' H',Inv X pins σ' H' s'∧RelV v u∧D.rt v H'
def PE (X:Cx) (e:Expr) (t:TE):Prop :=
 ∀ (pins:List (Addr×Obj)) (s:Shared) (σ : St) (H:Hp) (Q:VK),Inv X pins σ H s→t σ H Q→wpAny (model X.prog X.w) X.A (eval e X.env) (EP X pins σ Q) X.xe s
def PT (X:Cx) (e:Expr) (t:TT):Prop :=
 ∀ (pins:List (Addr×Obj)) (s:Shared) (σ : St) (H:Hp) (Q:Bool→Hp→Prop),Inv X pins σ H s→t σ H Q→wpAny (model X.prog X.w) X.A (isTrue e X.env (eval e X.env)) (TP X pins σ Q) X.xe s
def PW (X:Cx) (e:Expr) (t:TT):Prop :=
 ∀ (whole:Sem Value) (pins:List (Addr×Obj)) (s:Shared) (σ : St) (H:Hp) (Q:Bool→Hp→Prop),Inv X pins σ H s→t σ H Q→wpAny (model X.prog X.w) X.A (isTrue e X.env whole) (TP X pins σ Q) X.xe s
theorem PW.pt {X:Cx} {e:Expr} {t:TT} (h:PW X e t):PT X e t:=h _
def PA (X:Cx) (es:List Expr) (t:TA):Prop :=
 ∀ (pos:Pos) (pins:List (Addr×Obj)) (s:Shared) (σ : St) (H:Hp) (Q:List V→Hp→Prop),Inv X pins σ H s→t σ H Q→wpAny (model X.prog X.w) X.A (spliced (backTo pos (starEach es X.env))) (AP X pins σ Q) X.xe s
def PS (X:Cx) (st:Stmt) (t:TS):Prop :=
 ∀ (pins:List (Addr×Obj)) (s:Shared) (σ : St) (H:Hp) (D:Ends),Inv X pins σ H s→t D σ H→wpAny (model X.prog X.w) X.A (exec st X.env) (SP X pins D) X.xe s
def hU (X:Cx) (st:List Stmt) (t:TS):Prop :=
 ∀ (pins:List (Addr×Obj)) (s:Shared) (σ : St) (H:Hp) (D:Ends),Inv X pins σ H s→t D σ H→wpAny (model X.prog X.w) X.A (execs st X.env) (SP X pins D) X.xe s
theorem br {α : Type} {t:Sem α} {Q Q' : α→Shared→Prop} {M:Model} {A:Around} {E:Value→Shared→Prop} {s:Shared} (h:wpAny M A t Q E s) (hQ:∀ a s,Q a s→Q' a s):wpAny M A t Q' E s:=wpAny_mono h hQ fun _ _ x=>x
end L2
namespace L2
open PySem PySem.Spec PyProof.Rows
section
variable {X:Cx}
def bF (i:Nat):TE:=fun σ H Q=>∃ v,σ[i]? = some (some v)∧Q v H
def tC (v:V):TE:=fun _ H Q=>Q v H
theorem Gu {i:Nat} {x:Str} {pos:Pos} (hN:X.N[i]? = some x) (hv:GP X.env.scope x) (hd:(x == ("__debug__" : Str))=false:=by decide) (hcd:(x == ("__classdict__" : Str))=false:=by decide):PE X (.Name x pos) (bF i):=by
 intro pins s σ H Q I h;obtain ⟨v,e,h⟩:=h;obtain ⟨m,hn,hl⟩:=I.loc;obtain ⟨u,r,l⟩:=hl i x v hN e hv;have fin:EP X pins σ Q u s:=⟨v,H,I,r,h⟩
 rcases l with ⟨hk,hm⟩ | ⟨hk,c,hc,hcell⟩
 · exact wpAny_Name (wpAny_loadName_local I.ok.kind hk hn hm fin) hd
 · rcases hk with hk | hk
   · exact wpAny_Name (wpAny_loadName_cell I.ok.kind hk hc hcell fin) hd
   · exact wpAny_Name (wpAny_loadName_free I.ok.kind hk hc hcell fin hcd) hd
theorem ai {i j pos}:PE X (.Constant (.int i) j pos) (tC (.int i)):=fun _ _ _ H _ I h=>wpAny_Constant_int ⟨.int i,H,I.tok _,⟨_,rfl⟩,h⟩
theorem fu {b j pos}:PE X (.Constant (.bool b) j pos) (tC (.bl b)):=fun _ _ _ H _ I h=>Constant_bool ⟨.bl b,H,I,rfl,h⟩
theorem bB {j pos}:PE X (.Constant .none j pos) (tC .aR):=fun _ _ _ H _ I h=>Constant_none ⟨.aR,H,I,rfl,h⟩
theorem aK {x j pos}:PE X (.Constant (.str x) j pos) (tC (.str x)):=fun _ _ _ H _ I h=>Calls.Constant_str ⟨.str x,H,I.tok _,⟨_,rfl⟩,h⟩
def Gl (X:Cx) (x:Str):Prop:=X.env.kindOf x=some .globalImplicit
theorem iF {E : Value → Shared → Prop} {pins : List (Addr × Obj)} {s : Shared} {σ : St} {H : Hp} {x : Str} {u : Value} {pos : Pos} {Q : Value → Shared → Prop} (I : Inv X pins σ H s) (hg : Gl X x) (hm : X.mg x = some u) (h : Q u s)
   (hd:(x == ("__debug__" : Str))=false:=by decide):wpAny (model X.prog X.w) X.A (eval (.Name x pos) X.env) Q E s :=
 Calls.Name_function_global I.ok.kind hg (Calls.loadGlobal_global (by rw [I.ok.glob];exact I.mod.glob.keeps I.bk) hm h) hd
theorem gb {E : Value → Shared → Prop} {pins : List (Addr × Obj)} {s : Shared} {σ : St} {H : Hp} {x : Str} {u : Value} {pos : Pos} {Q : Value → Shared → Prop} (I : Inv X pins σ H s) (hg : Gl X x) (hm : X.mg x = none) (hv : bootBuiltins x = some u) (h : Q u s)
   (hn:x ≠ "__name__":=by decide) (hd:(x == ("__debug__" : Str))=false:=by decide):wpAny (model X.prog X.w) X.A (eval (.Name x pos) X.env) Q E s:=by
 obtain ⟨mb,h1,h2⟩:=I.mod.blt;exact Calls.Name_function_global I.ok.kind hg (Calls.loadGlobal_builtin (by rw [I.ok.glob];exact I.mod.glob.keeps I.bk) hm (by rw [I.ok.blt];exact h1.keeps I.bk) ((h2 x hn).trans hv) h) hd
theorem bj {x:Str} {v:V} {u:Value} {pos:Pos} (hg:Gl X x) (hm:X.mg x=some u) (r:RelV v u) (hd:(x == ("__debug__" : Str))=false:=by decide):PE X (.Name x pos) (tC v) :=
 fun _ _ _ H _ I h=>iF I hg hm ⟨v,H,I,r,h⟩ hd
theorem Ea {x:Str} {v:V} {u:Value} {pos:Pos} (hg:Gl X x) (hm:X.mg x=none) (hv:bootBuiltins x=some u) (r:RelV v u) (hn:x ≠ "__name__":=by decide) (hd:(x == ("__debug__" : Str))=false:=by decide):PE X (.Name x pos) (tC v) :=
 fun _ _ _ H _ I h=>gb I hg hm hv ⟨v,H,I,r,h⟩ hn hd
variable {a b:Expr} {ta tb:TE} {pos:Pos}
def PC (X:Cx) (op:CmpOp) (a b:Expr) (t:TE):Prop :=
 ∀ (pins : List (Addr × Obj)) (s : Shared) (σ : St) (H : Hp) (Q : VK), Inv X pins σ H s → t σ H Q →
   wpAny (model X.prog X.w) X.A (eval a X.env) (fun v s₁=>wpAny (model X.prog X.w) X.A (eval b X.env) (fun u s₂=>wpAny (model X.prog X.w) X.A (compareOp op v u) (EP X pins σ Q) X.xe s₂) X.xe s₁) X.xe s
def tB (t:TE):TT:=fun σ H Q=>t σ H fun x H1=>∃ c,x=.bl c∧Q c H1
theorem Gx {op:CmpOp} {t:TE} (h:PC X op a b t) (h1:behindInMarks op b=false:=by first | exact nobehind _ (by decide) (by decide) | rfl):PT X (.Compare a [op] [b] pos) (tB t):=by
 intro pins s σ H Q I hw;refine wpAny_isTrue_Compare1 (br (h pins s σ H _ I hw) fun v s1 h1=>br h1 fun u s2 h2=>br h2 fun c s3 ⟨x,H1,I1,r1,q1⟩=>?_) h1;obtain ⟨d,rfl,q⟩:=q1;cases r1
 exact wpAny_truthy_bool ⟨H1,I1,q⟩
variable {tA tB':TT} {rest:List Expr}
def Hb (t u:TT):TT:=fun σ H Q=>t σ H fun c H1=>if c=true then u σ H1 Q else Q false H1
def DA (t u:TT):TT:=fun σ H Q=>t σ H fun c H1=>if c=true then Q true H1 else u σ H1 Q
def uN (t:TT):TT:=fun σ H Q=>t σ H fun c H1=>Q (!c) H1
theorem gL (ha:PT X a tA):PW X (.BoolOp .And [a] pos) tA:=by
 intro wh pins s σ H Q I h;refine isTrue_and (br (ha pins s σ H Q I h) fun c s1 e=>?_);cases c with
 | true=>exact isTrue_and_nil e
 | false=>exact e
theorem fK (ha:PT X a tA):PW X (.BoolOp .Or [a] pos) tA:=by
 intro wh pins s σ H Q I h;refine isTrue_or (br (ha pins s σ H Q I h) fun c s1 e=>?_);cases c with
 | false=>exact isTrue_or_nil e
 | true=>exact e
theorem i_ (ha:PT X a tA) (hb:PW X (.BoolOp .And (b::rest) pos) tB'):PW X (.BoolOp .And (a::b::rest) pos) (Hb tA tB'):=by
 intro wh pins s σ H Q I h;refine isTrue_and (br (ha pins s σ H _ I h) fun c s1 ⟨H1,I1,q1⟩=>?_);cases c with
 | true=>exact hb wh pins s1 σ H1 Q I1 q1
 | false=>exact ⟨H1,I1,q1⟩
theorem fR (ha:PT X a tA) (hb:PW X (.BoolOp .Or (b::rest) pos) tB'):PW X (.BoolOp .Or (a::b::rest) pos) (DA tA tB'):=by
 intro wh pins s σ H Q I h;refine isTrue_or (br (ha pins s σ H _ I h) fun c s1 ⟨H1,I1,q1⟩=>?_);cases c with
 | true=>exact ⟨H1,I1,q1⟩
 | false=>exact hb wh pins s1 σ H1 Q I1 q1
theorem hV (ha:PT X a tA):PT X (.UnaryOp .Not a pos) (uN tA):=by
 intro pins s σ H Q I h;exact isTrue_not (ha pins s σ H (fun c H1=>Q (!c) H1) I h)
def FR (ta tb:TE):TE:=fun σ H Q=>ta σ H fun x H1=>∃ c,x=.bl c∧if c=true then Q (.bl true) H1 else tb σ H1 Q
theorem GH {op} {t:TE} (h:PE X a t):PE X (.BoolOp op [a] pos) t:=fun pins s σ H Q I hw=>BoolOp_one (h pins s σ H Q I hw)
theorem Lx (ha:PE X a ta) (hb:PE X (.BoolOp .Or (b::rest) pos) tb):PE X (.BoolOp .Or (a::b::rest) pos) (FR ta tb):=by
 intro pins s σ H Q I h;refine BoolOp_or (br (ha pins s σ H _ I h) fun v s1 ⟨x,H1,I1,r1,q1⟩=>?_);obtain ⟨c,rfl,q1⟩:=q1;cases r1
 refine wpAny_truthy_bool ?_;cases c with
 | false=>exact hb pins s1 σ H1 Q I1 q1
 | true=>exact ⟨.bl true,H1,I1,rfl,q1⟩
def Ti (t:TT) (ta tb:TE):TE:=fun σ H Q=>t σ H fun c H1=>if c=true then ta σ H1 Q else tb σ H1 Q
theorem iX {c:Expr} (hc:PT X c tA) (ha:PE X a ta) (hb:PE X b tb):PE X (.IfExp c a b pos) (Ti tA ta tb):=by
 intro pins s σ H Q I h;refine wpAny_IfExp (br (hc pins s σ H _ I h) fun d s1 ⟨H1,I1,q1⟩=>?_);cases d with
 | true=>exact ha pins s1 σ H1 Q I1 q1
 | false=>exact hb pins s1 σ H1 Q I1 q1
end
end L2
namespace L2
open PySem PySem.Spec PyProof.Rows
def aA (K:W.Frag) (H:Hp) (a:Addr) (xs:List V):Prop :=
 Rd H a (.lst xs) ∨
   ∃ (o:Obj) (its:Array Value) (n:Nat),K.lookup a=some o∧o.cls=.type "list"∧o.dict=none∧o.data=.seq its n∧its.size≤sizeLine∧a_ xs its.toList
def aZ (K:W.Frag) (H:Hp) (a:Addr) (xs:List V):Prop :=
 Rd H a (.tup xs) ∨
   ∃ (o:Obj) (its:Array Value) (n:Nat),K.lookup a=some o∧o.cls=.type "tuple"∧o.data=.seq its n∧its.size≤sizeLine∧a_ xs its.toList
def TZ : Value → Option V
 | .none=>some .aR
 | .bool b=>some (.bl b)
 | .int i _=>some (.int i)
 | .str x _=>some (.str x)
 | .bytes b _=>some (.byt b)
 | .float b _=>some (.uP b)
 | .ref a=>some (.ref a)
 | .type n=>some (.ty n)
 | _=>none
theorem RelV.abs {x:V} {u:Value} (r:RelV x u):TZ u=some x:=by
 cases x with
 | aR=>cases r;rfl
 | bl _=>cases r;rfl
 | int _=>obtain ⟨t,rfl⟩:=r;rfl
 | str _=>obtain ⟨t,rfl⟩:=r;rfl
 | byt _=>obtain ⟨t,rfl⟩:=r;rfl
 | uP _=>obtain ⟨t,rfl⟩:=r;rfl
 | ref _=>cases r;rfl
 | ty _=>cases r;rfl
theorem RelV.inj {x y:V} {u:Value} (r:RelV x u) (q:RelV y u):x=y:=Option.some.inj (r.abs.symm.trans q.abs)
theorem a_.inj : ∀ {xs ys : List V} {us : List Value}, a_ xs us → a_ ys us → xs = ys
 | _,_,_,.nil,.nil=>rfl
 | _,_,_,.cons r t,.cons r' t'=>by rw [r.inj r',a_.inj t t']
section
variable {X:Cx} {pins:List (Addr×Obj)} {σ : St} {H:Hp} {s:Shared} {a:Addr} {xs ys:List V}
theorem aA.of {K:W.Frag} (h:H a=some (.lst xs)):aA K H a xs:=.inl (.inl h)
theorem aZ.of {K:W.Frag} (h:H a=some (.tup xs)):aZ K H a xs:=.inl (.inl h)
theorem Inv.list (I:Inv X pins σ H s) (h:aA X.K H a xs):∃ its:List Value,a_ xs its∧PlainL s.heap a its.toArray∧xs.length≤sizeLine:=by
 rcases h with h | ⟨o,its,n,hk,hc,hd,hs,hz,r⟩
 · obtain ⟨z, its, n, r, e⟩ := h.ok I.aG;exact ⟨its,r,⟨_,n,e,rfl,rfl,rfl⟩,z⟩
 · refine ⟨its.toList, r, ⟨o, n, I.el a o hk, hc, hd, by simpa using hs⟩, ?_⟩;have e:=r.length;simp only [Array.length_toList] at e;omega
theorem Inv.tuple (I:Inv X pins σ H s) (h:aZ X.K H a xs):∃ its:List Value,a_ xs its∧IsTup s.heap a its.toArray∧xs.length≤sizeLine:=by
 rcases h with h | ⟨o,its,n,hk,hc,hs,hz,r⟩
 · obtain ⟨z, its, r, p⟩ := h.ok I.aG;exact ⟨its,r,p,z⟩
 · refine ⟨its.toList, r, ⟨o, I.el a o hk, hc, n, by simpa using hs⟩, ?_⟩;have e:=r.length;simp only [Array.length_toList] at e;omega
theorem Inv.fc (I:Inv X pins σ H s) (h:aA X.K H a xs) (h':aA X.K H a ys):xs=ys:=by
 obtain ⟨its,r,⟨o,n,e,_,_,d⟩,_⟩:=I.list h;obtain ⟨its',r',⟨o',n',e',_,_,d'⟩,_⟩:=I.list h';rw [e] at e';cases e';rw [d] at d';injection d' with d1 _
 have:its=its':=by simpa using congrArg Array.toList d1
 subst this;exact r.inj r'
theorem Inv.fZ (I:Inv X pins σ H s) (h:aZ X.K H a xs) (h':aZ X.K H a ys):xs=ys:=by
 obtain ⟨its,r,⟨o,e,_,n,d⟩,_⟩:=I.tuple h;obtain ⟨its',r',⟨o',e',_,n',d'⟩,_⟩:=I.tuple h';rw [e] at e';cases e';rw [d] at d';injection d' with d1 _
 have:its=its':=by simpa using congrArg Array.toList d1
 subst this;exact r.inj r'
end
abbrev Cx.gu (X:Cx) (E:Value→Shared→Prop):Cx:={ X with xe:=E }
abbrev Cx.cO (X:Cx):Cx:=X.gu fun _ _=>False
theorem Cx.Ok.gu {X:Cx} (ok:X.Ok) (E:Value→Shared→Prop):(X.gu E).Ok :=
 ⟨ok.mod,ok.kind,ok.glob,ok.blt,ok.above,ok.inj,ok.has,ok.tY,ok.hd,ok.frames,ok.xM,ok.DG,ok.bs,ok.nS,ok.oE,ok.qO,ok.gy,ok.qg⟩
theorem Cx.Ok.eQ {X:Cx} {E:Value→Shared→Prop} (ok:(X.gu E).Ok):X.Ok :=
 ⟨ok.mod,ok.kind,ok.glob,ok.blt,ok.above,ok.inj,ok.has,ok.tY,ok.hd,ok.frames,ok.xM,ok.DG,ok.bs,ok.nS,ok.oE,ok.qO,ok.gy,ok.qg⟩
section
variable {X:Cx} {pins:List (Addr×Obj)} {σ : St} {H:Hp} {s:Shared} {E:Value→Shared→Prop}
theorem Inv.gu (I:Inv X pins σ H s) (E:Value→Shared→Prop):Inv (X.gu E) pins σ H s:=⟨I.ok.gu E,I.os,I.bare,I.base,I.loc,I.cell,I.free,I.fS,I.pin,I.aG,I.len⟩
theorem Inv.eQ (I:Inv (X.gu E) pins σ H s):Inv X pins σ H s:=⟨I.ok.eQ,I.os,I.bare,I.base,I.loc,I.cell,I.free,I.fS,I.pin,I.aG,I.len⟩
theorem SP.eQ {D:Ends} {f:Flow} {s':Shared} (h:SP (X.gu E) pins D f s'):SP X pins D f s':=by
 cases f with
 | next=>obtain ⟨σ',H',I,q⟩:=h;exact ⟨σ',H',I.eQ,q⟩
 | brk=>obtain ⟨σ',H',I,q⟩:=h;exact ⟨σ',H',I.eQ,q⟩
 | cont=>obtain ⟨σ',H',I,q⟩:=h;exact ⟨σ',H',I.eQ,q⟩
 | ret u=>obtain ⟨v,σ',H',I,r,q⟩:=h;exact ⟨v,σ',H',I.eQ,r,q⟩
theorem PT.cO {e:Expr} {t:TT} (h:PT X.cO e t):PT X e t:=fun pins s σ H Q I hw =>
 wpAny_mono (h pins s σ H Q (I.gu _) hw) (fun _ _ ⟨H',I',q⟩=>⟨H',I'.eQ,q⟩) fun _ _ z=>False.elim z
theorem hU.cO {st:List Stmt} {t:TS} (h:hU X.cO st t):hU X st t:=fun pins s σ H D I hw =>
 wpAny_mono (h pins s σ H D (I.gu _) hw) (fun _ _ q=>q.eQ) fun _ _ z=>False.elim z
end
section
variable {X:Cx} {st:Stmt} {rest:List Stmt} {t u:TS} {e:Expr} {te:TE} {pos:Pos}
def fU:TS:=fun D σ H=>D.nx σ H
def fX (t u:TS):TS:=fun D σ H=>t { D with nx:=u D } σ H
theorem aH:hU X [] fU:=fun _ _ σ H _ I h=>wpAny_execs_nil ⟨σ,H,I,h⟩
theorem aj (h1:PS X st t) (h2:hU X rest u):hU X (st::rest) (fX t u):=by
 intro pins s σ H D I h;refine wpAny_execs_cons (br (h1 pins s σ H { D with nx:=u D } I h) fun f s1 q=>?_);cases f with
 | next =>
   obtain ⟨σ',H',I',q⟩:=q;exact h2 pins s1 σ' H' D I' q
 | ret v=>exact q
 | brk=>exact q
 | cont=>exact q
theorem ak (h1:PS X st t):hU X [st] t:=by
 intro pins s σ H D I h;refine wpAny_execs_cons (br (h1 pins s σ H D I h) fun f s1 q=>?_);cases f with
 | next=>exact wpAny_execs_nil q
 | ret v=>exact q
 | brk=>exact q
 | cont=>exact q
theorem Inv.quiet {pins:List (Addr×Obj)} {σ : St} {H:Hp} {s:Shared} (I:Inv X pins σ H s):interactive X.env=false:=by simp [interactive,I.ok.kind]
def Dz (te:TE):TS:=fun D σ H=>te σ H fun _ H1=>D.nx σ H1
theorem bG (he:PE X e te) (hs:swapsWith e none pos.line X.env=pure false:=by rfl):PS X (.Expr e pos) (Dz te):=by
 intro pins s σ H D I h;exact wpAny_Expr_any (br (he pins s σ H _ I h) fun v s1 ⟨x,H1,I1,r1,q1⟩=>⟨σ,H1,I1,q1⟩) I.quiet hs
def ik (te:TE):TS:=fun D σ H=>te σ H D.rt
theorem az (he:PE X e te):PS X (.Return (some e) pos) (ik te):=by
 intro pins s σ H D I h;exact wpAny_Return_some (br (he pins s σ H _ I h) fun v s1 ⟨x,H1,I1,r1,q1⟩=>⟨x,σ,H1,I1,r1,q1⟩)
def ij (c:TT) (t u:TS):TS:=fun D σ H=>c σ H fun b H1=>if b=true then t D σ H1 else u D σ H1
theorem aS {c:Expr} {a b:List Stmt} {tc:TT} (hc:PT X c tc) (ha:hU X a t) (hb:hU X b u):PS X (.If c a b pos) (ij tc t u):=by
 intro pins s σ H D I h;refine wpAny_If (br (hc pins s σ H _ I h) fun d s1 ⟨H1,I1,q1⟩=>?_);cases d with
 | true=>exact ha pins s1 σ H1 D I1 q1
 | false=>exact hb pins s1 σ H1 D I1 q1
def GV:TS:=fun _ _ _=>False
theorem CC:PS X st GV:=fun _ _ _ _ _ _ h=>h.elim
end
abbrev TG:=V→St→Hp→(St→Hp→Prop)→Prop
abbrev om:=List V→St→Hp→(St→Hp→Prop)→Prop
def PG (X:Cx) (target:Expr) (t:TG):Prop :=
 ∀ (pins : List (Addr × Obj)) (s : Shared) (σ : St) (H : Hp) (v : V) (u : Value) (Q : St → Hp → Prop), Inv X pins σ H s → RelV v u → t v σ H Q →
   wpAny (model X.prog X.w) X.A (assign target X.env u) (fun _ s'=>∃ σ' H',Inv X pins σ' H' s'∧Q σ' H') X.xe s
def AJ (X:Cx) (ts:List Expr) (t:om):Prop :=
 ∀ (pins : List (Addr × Obj)) (s : Shared) (σ : St) (H : Hp) (vs : List V) (us : List Value) (Q : St → Hp → Prop), Inv X pins σ H s → a_ vs us → t vs σ H Q →
   wpAny (model X.prog X.w) X.A (assignInOrder ((assignEach ts X.env).map (·.2)) us) (fun _ s'=>∃ σ' H',Inv X pins σ' H' s'∧Q σ' H') X.xe s
abbrev yS:=V→V→V→Hp→(Hp→Prop)→Prop
def GK (X:Cx) (t:yS):Prop :=
 ∀ (pins : List (Addr × Obj)) (s : Shared) (σ : St) (H : Hp) (o i v : V) (ov iv u : Value) (Q : Hp → Prop), Inv X pins σ H s → RelV o ov → RelV i iv → RelV v u → t o i v H Q →
   wpAny (model X.prog X.w) X.A (setItem ov iv u) (fun _ s'=>∃ H',Inv X pins σ H' s'∧Q H') X.xe s
section
variable {X:Cx} {pos:Pos}
def c8 (i:Nat):TG:=fun v σ H Q=>Q (σ.set i (some v)) H
theorem aO {i:Nat} {x:Str} (hN:X.N.Nodup) (hi:X.N[i]? = some x) (hx:Loc X.env.scope x) (hf:X.fn x=true∨X.env.scope.names.lookup x=some .local:=by first | exact .inl rfl | exact .inr rfl | assumption):PG X (.Name x pos) (c8 i):=by
 intro pins s σ H v u Q I r h;exact wpAny_assign_Name (oY I hN hi hx r (fun s' I'=>⟨_,H,I',h⟩) hf)
def Hf:om:=fun vs σ H Q=>vs=[]∧Q σ H
def DC (t:TG) (u:om):om:=fun vs σ H Q=>∃ v r,vs=v::r∧t v σ H fun σ' H'=>u r σ' H' Q
theorem ft:AJ X [] Hf:=by
 intro pins s σ H vs us Q I r h;obtain ⟨e,h⟩:=h;subst e;cases r
 exact assignInOrder_nil ⟨σ,H,I,h⟩
theorem bP {e : Expr} {es : List Expr} {t : TG} {u : om} (h1 : PG X e t) (h2 : AJ X es u)
   (hs:(assignEach (e::es) X.env).map (·.2)=assign e X.env::(assignEach es X.env).map (·.2):=by rfl):AJ X (e::es) (DC t u):=by
 intro pins s σ H vs us Q I r h;obtain ⟨v,vr,e1,h⟩:=h;subst e1;cases r with
 | cons r rr =>
   rw [hs];refine assignInOrder_cons (br (h1 pins s σ H _ _ _ I r h) fun _ s1 ⟨σ1,H1,I1,q1⟩=>?_);exact h2 pins s1 σ1 H1 _ _ Q I1 rr q1
def Cj (K:W.Frag) (n:Nat) (t:om):TG:=fun v σ H Q=>∃ a xs,v=.ref a∧aZ K H a xs∧xs.length=n∧t xs σ H Q
theorem GX {es : List Expr} {k : Nat} {t : om} {n : Nat} (hc : X.calm = true) (h : AJ X es t)
   (hn:(assignEach es X.env).length=n:=by rfl) (hst:(assignEach es X.env).findIdx? (·.1)=none:=by rfl):PG X (.Tuple es k pos) (Cj X.K n t):=by
 intro pins s σ H v u Q I r hw;obtain ⟨a,xs,e1,hq,hl,hw⟩:=hw;subst e1;cases r
 obtain ⟨its,rv,ht,hz⟩:=I.tuple hq;refine assign_Tuple_tuple (I.ok.hd hc) ht (by simp [hn,← hl,rv.length]) hst fun h' hx=>?_;have I1:Inv X pins σ H { s with heap:=h' }:=I.kept (t':=s.toks) fun b o e=>hx b o (Nat.ne_of_lt (Heap.lt_size e)) e;exact h pins _ σ H xs _ Q I1 (by simpa using rv) hw
def yj (to ti:TE) (t:yS):TG:=fun v σ H Q=>to σ H fun o H1=>ti σ H1 fun i H2=>t o i v H2 fun H3=>Q σ H3
theorem my {o i : Expr} {to ti : TE} {t : yS} (ho : PE X o to) (hi : PE X i ti) (hs : GK X t)
   (ha : ∀ v, assign (.Subscript o i pos) X.env v = (do
     let ov ← holding [v] (eval o X.env)
     let iv ← holding [v,ov] (eval i X.env)
     standAt pos
     holding [v,ov,iv] (setItem ov iv v)
     release [v,ov,iv] []):=by intro _;rfl):PG X (.Subscript o i pos) (yj to ti t):=by
 intro pins s σ H v u Q I r h;rw [ha];refine wpAny_bind (wpAny_holding (br (ho pins s σ H _ I h) fun ov s1 ⟨x,H1,I1,r1,q1⟩=>?_));refine wpAny_bind (wpAny_holding (br (hi pins s1 σ H1 _ I1 q1) fun iv s2 ⟨y,H2,I2,r2,q2⟩=>?_));refine wpAny_bind (wpAny_standAt (wpAny_bind (wpAny_holding (br (hs pins s2 σ H2 x y v ov iv u _ I2 r1 r2 r q2) fun _ s3 ⟨H3,I3,q3⟩=>?_))));exact wpAny_release ⟨σ,H3,I3,q3⟩
def lF (te:TE) (g:TG):TS:=fun D σ H=>te σ H fun x H1=>g x σ H1 D.nx
theorem fQ {tg e : Expr} {te : TE} {g : TG} (he : PE X e te) (hg : PG X tg g) (hs : swapsWithSole [tg] e pos.line X.env = pure false := by rfl) (hw : swappedStores [tg] e X.env = pure none := by rfl)
   (h1:(assignEach [tg] X.env).map (·.2)=[assign tg X.env]:=by rfl):PS X (.Assign [tg] e pos) (lF te g):=by
 intro pins s σ H D I h;refine wpAny_Assign_stores (br (he pins s σ H _ I h) fun v s1 ⟨x,H1,I1,r1,q1⟩=>?_) hs hw;rw [h1];exact br (hg pins s1 σ H1 x v _ I1 r1 q1) fun _ s2 q=>q
theorem aI {i : Nat} {x : Str} {e : Expr} {te : TE} {pos' : Pos} (hN : X.N.Nodup) (hi : X.N[i]? = some x) (hx : Loc X.env.scope x) (he : PE X e te) (hs : swapsWith e (some (.Name x pos')) pos.line X.env = pure false := by rfl) (hf : X.fn x = true ∨ X.env.scope.names.lookup x = some .local := by first | exact .inl rfl | exact .inr rfl | assumption) :
   PS X (.Assign [.Name x pos'] e pos) (lF te (c8 i)):=by
 intro pins s σ H D I h;refine wpAny_Assign_Name (br (he pins s σ H _ I h) fun v s1 ⟨y,H1,I1,r1,q1⟩=>?_) hs;exact oY I1 hN hi hx r1 (fun s2 I2=>⟨_,H1,I2,q1⟩) hf
end
section
variable {X:Cx} {pos:Pos}
def Fp (c : TT) (tb : TS) : TS := fun D σ H => ∃ W : Nat → St → Hp → Prop, (∃ m, W m σ H) ∧ ∀ m σ H, W m σ H →
 c σ H fun b H1=>if b=true then ∃ N:St→Hp→Prop,(∀ σ' H',N σ' H'→∃ m',m'<m∧W m' σ' H')∧tb { D with nx:=N,ct:=N,bk:=D.nx } σ H1 else D.nx σ H1
theorem t_ {c:Expr} {body:List Stmt} {tc:TT} {tb:TS} (hp:PassesOwn (model X.prog X.w) X.A X.env X.xe) (hc:PT X c tc) (hb:hU X body tb):PS X (.While c body [] pos) (Fp tc tb):=by
 intro pins s σ H D I h;obtain ⟨W,⟨m0,w0⟩,turn⟩:=h;refine wpAny_While (codeAny_whileLoop (fun n s'=>∃ σ' H',Inv X pins σ' H' s'∧W n σ' H') ?_ m0 ⟨σ,H,I,w0⟩);rintro n s1 ⟨σ1,H1,I1,w1⟩;refine wpAny_passesOwn hp (br (hc pins s1 σ1 H1 _ I1 (turn n σ1 H1 w1)) fun b s2 ⟨H2,I2,q2⟩=>?_);cases b with
 | true =>
   obtain ⟨N,hN,q2⟩:=q2;rw [if_pos rfl];refine wpAny_passesOwn hp (br (hb pins s2 σ1 H2 _ I2 q2) fun f s3 q3=>?_);cases f with
   | next =>
     obtain ⟨σ3,H3,I3,n3⟩:=q3;obtain ⟨m',hm,w3⟩:=hN σ3 H3 n3;exact ⟨m',hm,σ3,H3,I3,w3⟩
   | cont =>
     obtain ⟨σ3,H3,I3,n3⟩:=q3;obtain ⟨m',hm,w3⟩:=hN σ3 H3 n3;exact ⟨m',hm,σ3,H3,I3,w3⟩
   | brk=>exact q3
   | ret v=>exact q3
 | false =>
   rw [if_neg Bool.false_ne_true];exact wpAny_execs_nil ⟨σ1,H2,I2,q2⟩
end
structure It where
 go:Nat→Hp→Prop
 uB:Nat→Hp→V→Hp→Prop
 stop:Nat→Hp→Prop
def lG (X:Cx) (pins:List (Addr×Obj)) (H:Hp) (b:Addr):Prop :=
 H b=none∧b≠X.env.locals∧b ∉ X.fs∧(b∈X.ex∨X.s₀.heap.objs.size≤b)∧(∀ x c,X.env.cells.lookup x=some c→c≠b)∧∀ p∈X.pn++pins,p.1≠b
theorem Inv.jC {X:Cx} {pins:List (Addr×Obj)} {σ : St} {H H':Hp} {s:Shared} {b:Addr} (I:Inv X pins σ H s) (hb:s.heap.objs.size≤b) (hn:H' b=none):lG X pins H' b:=by
 refine ⟨hn,Nat.ne_of_gt (Nat.lt_of_lt_of_le I.lt hb),I.F2 hb,.inr (Nat.le_trans I.sz hb),fun x c e z=>?_,fun p hp z=>?_⟩
 · obtain ⟨v, q⟩ := I.cell x c e;exact absurd (Nat.lt_of_lt_of_le q.lt (by rw [z];exact hb)) (Nat.lt_irrefl _)
 · exact absurd (Nat.lt_of_lt_of_le (Heap.lt_size (I.pin p hp).1) (by rw [z];exact hb)) (Nat.lt_irrefl _)
structure Turn (P:Program) (w:World) (K:W.Frag) (tg:Expr) (J:It) (fp:List Addr) (it:Addr) (tn:Nat→Heap→Prop):Prop where
 mem:it∈fp
 obj:∀ i h,tn i h→∀ b∈fp,∃ o,h.get? b=some o∧∀ v,o.data≠.cell v
 keep:∀ i h h',tn i h→(∀ b∈fp,∀ o,h.get? b=some o→h'.get? b=some o)→tn i h'
 item : ∀ (X : Cx), X.prog = P → X.w = w → X.K = K → X.calm = true → ∀ (i : Nat) (pins : List (Addr × Obj)) (s : Shared) (σ : St) (H : Hp) (E : Value → Shared → Prop), Inv X pins σ H s → (∀ b ∈ fp, lG X pins H b) → tn i s.heap → J.go i H →
   wpAny (model P w) X.A (pyNext (.ref it)) (fun r s1 => ∃ u, r = some u ∧
     wpAny (model P w) X.A (letOwnedTupleGo tg (.ref it) u) (fun _ s2=>∃ x H',Inv X pins σ H' s2∧RelV x u∧J.uB i H x H'∧tn (i+1) s2.heap∧∀ b∈fp,H' b=none) E s1) E s
 done : ∀ (X : Cx), X.prog = P → X.w = w → X.K = K → X.calm = true → ∀ (i : Nat) (pins : List (Addr × Obj)) (s : Shared) (σ : St) (H : Hp) (E : Value → Shared → Prop), Inv X pins σ H s → (∀ b ∈ fp, lG X pins H b) → tn i s.heap → J.stop i H →
   wpAny (model P w) X.A (pyNext (.ref it)) (fun r s1=>r=none∧Inv X pins σ H s1) E s
 self:∀ (A:Around) (i:Nat) (s:Shared) (Q:Value→Shared→Prop) (E:Value→Shared→Prop),tn i s.heap→Q (.ref it) s→wpAny (model P w) A (pyIter (.ref it)) Q E s
abbrev TI:=St→Hp→(It→Hp→Prop)→Prop
def Tj (X:Cx) (pins:List (Addr×Obj)) (σ : St) (tg:Expr) (R:It→Hp→Prop) (itv:Value) (s2:Shared):Prop :=
 ∃ (it:Addr) (fp:List Addr) (tn:Nat→Heap→Prop) (J:It) (H':Hp),itv=.ref it∧Inv X pins σ H' s2∧Turn X.prog X.w X.K tg J fp it tn∧tn 0 s2.heap∧(∀ b∈fp,lG X pins H' b)∧R J H'
def PI (X:Cx) (tg iter:Expr) (wi:TI):Prop :=
 ∀ (pins : List (Addr × Obj)) (s : Shared) (σ : St) (H : Hp) (R : It → Hp → Prop), Inv X pins σ H s → wi σ H R →
   wpAny (model X.prog X.w) X.A (eval iter X.env) (fun v s1=>wpAny (model X.prog X.w) X.A (pyIter v) (Tj X pins σ tg R) X.xe s1) X.xe s
theorem yV {M : Model} {A : Around} {E : Value → Shared → Prop} {s : Shared} {tg : Expr} {it : Addr} {u : Value} {o : Obj} {n : String} {vs : Array Value} {Q : Unit → Shared → Prop} (ho : s.heap.get? it = some o) (hc : o.cls = .type n) (hd : o.data = .fields vs)
   (hn : ["enumerate","zip","dict_itemiterator","dict_reverseitemiterator","odict_iterator","itertools.zip_longest","itertools.pairwise"].contains n=false) (hQ:Q () s):wpAny M A (letOwnedTupleGo tg (.ref it) u) Q E s:=by
 unfold letOwnedTupleGo
 cases tg <;> first
   | exact wpAny_pure hQ
   | (cases u <;> first
       | exact wpAny_pure hQ
       | (refine wpAny_bind (wpAny_load ho ?_)
          rw [hc,hd];show wpAny M A (if (["enumerate","zip","dict_itemiterator","dict_reverseitemiterator","odict_iterator","itertools.zip_longest","itertools.pairwise"].contains n && vs[0]? == some (rawInt _))=true then _ else _) Q E s;rw [if_neg (by intro h;rw [hn,Bool.false_and] at h;cases h)];exact wpAny_pure hQ))
def pV (K:W.Frag) (a:Addr):It :=
 ⟨fun i H=>∃ xs x,aA K H a xs∧xs[i]? = some x,fun i H x H'=>H'=H∧∀ xs,aA K H a xs→xs[i]? = some x,fun i H=>∃ xs,aA K H a xs∧xs.length≤i⟩
def zB (K:W.Frag) (a:Addr):It :=
 ⟨fun i H=>∃ xs x,aZ K H a xs∧xs[i]? = some x,fun i H x H'=>H'=H∧∀ xs,aZ K H a xs→xs[i]? = some x,fun i H=>∃ xs,aZ K H a xs∧xs.length≤i⟩
def nG (lo:Int) (n:Nat):It:=⟨fun i _=>i<n,fun i H x H'=>H'=H∧x=.int (lo+i),fun i _=>n≤i⟩
theorem zU {P:Program} {w:World} {K:W.Frag} {tg:Expr} (a it:Addr):Turn P w K tg (pV K a) [it] it (fun i h=>h.IsListIter it a i) where
 mem:=by simp
 obj:=fun i h st b hb=>by
   have e:b=it:=by simpa using hb
   subst e;obtain ⟨o,e,c,d⟩:=st;exact ⟨o,e,fun v z=>by rw [d] at z;cases z⟩
 keep:=fun i h h' st k=>st.at fun o e=>k it (by simp) o e
 item:=by
   intro X hP hw hK hc i pins s σ H E I hf st hg;subst hP hw hK;obtain ⟨xs,x,hq,hx⟩:=hg;obtain ⟨its,rv,p,hz⟩:=I.list hq;obtain ⟨u,hu,ru⟩:=rv.get hx;obtain ⟨f0,f1,f2,f3,f4,f5⟩:=hf it (by simp);refine wpAny_pyNext_list_item st p.isList (x:=u) (by simpa using hu) fun h' st' sb=>?_;have I1:Inv X pins σ H { s with heap:=h' }:=I.turned (t':=s.toks) (fun b o hb e=>(sb.2 b hb).trans e) f0 f1 f3 f4 f5;obtain ⟨o,e,c,d⟩:=id st';exact ⟨u,rfl,yV (s:={ s with heap:=h' }) e c d (by decide) ⟨x,H,I1,ru,⟨rfl,fun ys hy=>by rw [I.fc hy hq];exact hx⟩,st',fun b hb=>(hf b hb).1⟩⟩
 done:=by
   intro X hP hw hK hc i pins s σ H E I hf st hg;subst hP hw hK;obtain ⟨xs,hq,hx⟩:=hg;obtain ⟨its,rv,p,hz⟩:=I.list hq;obtain ⟨f0,f1,f2,f3,f4,f5⟩:=hf it (by simp);have hl:=rv.length;exact wpAny_pyNext_list_end (I.ok.hd hc) st p.isList (by simp;omega) fun h' eb=>⟨rfl,I.turned (t':=s.toks) (fun b o hb e=>eb b o hb e) f0 f1 f3 f4 f5⟩
 self:=fun _ _ _ _ _ st h=>wpAny_pyIter_listiter st h
theorem yE {P:Program} {w:World} {K:W.Frag} {tg:Expr} (a it:Addr):Turn P w K tg (zB K a) [it] it (fun i h=>h.IsTupleIter it a i) where
 mem:=by simp
 obj:=fun i h st b hb=>by
   have e:b=it:=by simpa using hb
   subst e;obtain ⟨o,e,c,d⟩:=st;exact ⟨o,e,fun v z=>by rw [d] at z;cases z⟩
 keep:=fun i h h' st k=>st.at fun o e=>k it (by simp) o e
 item:=by
   intro X hP hw hK hc i pins s σ H E I hf st hg;subst hP hw hK;obtain ⟨xs,x,hq,hx⟩:=hg;obtain ⟨its,rv,p,hz⟩:=I.tuple hq;obtain ⟨u,hu,ru⟩:=rv.get hx;obtain ⟨f0,f1,f2,f3,f4,f5⟩:=hf it (by simp);refine wpAny_pyNext_tuple_item st (show s.heap.IsTuple a its.toArray from p) (x:=u) (by simpa using hu) fun h' st' sb=>?_;have I1:Inv X pins σ H { s with heap:=h' }:=I.turned (t':=s.toks) (fun b o hb e=>(sb.2 b hb).trans e) f0 f1 f3 f4 f5;obtain ⟨o,e,c,d⟩:=id st';exact ⟨u,rfl,yV (s:={ s with heap:=h' }) e c d (by decide) ⟨x,H,I1,ru,⟨rfl,fun ys hy=>by rw [I.fZ hy hq];exact hx⟩,st',fun b hb=>(hf b hb).1⟩⟩
 done:=by
   intro X hP hw hK hc i pins s σ H E I hf st hg;subst hP hw hK;obtain ⟨xs,hq,hx⟩:=hg;obtain ⟨its,rv,p,hz⟩:=I.tuple hq;obtain ⟨f0,f1,f2,f3,f4,f5⟩:=hf it (by simp);have hl:=rv.length;exact wpAny_pyNext_tuple_end (I.ok.hd hc) st (show s.heap.IsTuple a its.toArray from p) (by simp;omega) fun h' eb=>⟨rfl,I.turned (t':=s.toks) (fun b o hb e=>eb b o hb e) f0 f1 f3 f4 f5⟩
 self:=fun _ _ _ _ _ st h=>wpAny_pyIter_tupleiter st h
theorem yJ {P:Program} {w:World} {K:W.Frag} {tg:Expr} (it:Addr) (lo:Int) (n:Nat):Turn P w K tg (nG lo n) [it] it (fun i h=>IsRangeIter h it (lo+(i:Nat)*1) ((n:Int) - (i:Nat)) 1) where
 mem:=by simp
 obj:=fun i h st b hb=>by
   have e:b=it:=by simpa using hb
   subst e;exact ⟨_,st,fun v z=>by
     have z':Data.fields _=Data.cell v:=z;cases z'⟩
 keep:=fun i h h' st k=>k it (by simp) _ st
 item:=by
   intro X hP hw hK hc i pins s σ H E I hf st hg;subst hP hw hK;obtain ⟨f0,f1,f2,f3,f4,f5⟩:=hf it (by simp);have W:=Walks.range (prog:=X.prog) (w:=X.w) (I.ok.hd hc) it lo 1 n;refine W.item i s _ _ hg st fun v h' tk hv st' kk=>?_;obtain ⟨t,rfl⟩:=hv;have I1:Inv X pins σ H { s with heap:=h',toks:=tk }:=I.turned (fun b o hb e=>kk b o (by simpa using hb) e) f0 f1 f3 f4 f5;refine ⟨_,rfl,yV (s:={ s with heap:=h',toks:=tk }) (n:="range_iterator") st' rfl rfl (by decide) ⟨.int (lo+i),H,I1,⟨t,?_⟩,⟨rfl,rfl⟩,st',fun b hb=>(hf b hb).1⟩⟩;rw [Int.mul_one]
 done:=by
   intro X hP hw hK hc i pins s σ H E I hf st hg;subst hP hw hK;obtain ⟨f0,f1,f2,f3,f4,f5⟩:=hf it (by simp);exact wpAny_pyNext_range_end (I.ok.hd hc) st (by have:n≤i:=hg;omega) fun h' eb=>⟨rfl,I.turned (t':=s.toks) (fun b o hb e=>eb b o hb e) f0 f1 f3 f4 f5⟩
 self:=fun _ _ _ _ _ st h=>wpAny_pyIter_rangeiter st h
end L2
namespace L2
open PySem PySem.Spec PyProof.Rows
section
variable {X:Cx} {tg:Expr}
theorem wd {pins : List (Addr × Obj)} {σ : St} {H : Hp} {s : Shared} {R : It → Hp → Prop} {E : Value → Shared → Prop} {lo hi : Int} {t u v : Tok} {tk : Nat} (I : Inv X pins σ H s) (h1 : -(2 ^ 62) ≤ lo) (h2 : lo < 2 ^ 62) (h3 : -(2 ^ 62) ≤ hi) (h4 : hi < 2 ^ 62)
   (q:R (nG lo (hi - lo).toNat) H):wpAny (model X.prog X.w) X.A (pyIter (.ref s.heap.objs.size)) (Tj X pins σ tg R) E { s with heap:=s.heap.push { cls:=.type "range",data:=.fields #[.int lo t,.int hi u,.int 1 v] },toks:=tk }:=by
 refine wpAny_pyIter_range (IsRange.new ..) (small_one h1 h2 h3 h4) ?_;have I1:Inv X pins σ H { s with heap:=s.heap.push { cls:=.type "range",data:=.fields #[.int lo t,.int hi u,.int 1 v] },toks:=tk }:=I.kept fun b o e=>Heap.get?_push_of_some _ e
 refine ⟨(s.heap.push { cls := .type "range", data := .fields #[.int lo t, .int hi u, .int 1 v] }).objs.size, [(s.heap.push { cls := .type "range", data := .fields #[.int lo t, .int hi u, .int 1 v] }).objs.size], _, _, H, rfl,
   I1.kept (t':=tk) fun b o e=>Heap.get?_push_of_some _ e,yJ _ lo (hi - lo).toNat,?_,fun b hb=>?_,q⟩
 · have e1 : lo + ((0 : Nat) : Int) * 1 = lo := by simp
   have e2:(((hi - lo).toNat:Nat):Int) - ((0:Nat):Int)=Builtin.Range.rangeSize lo hi 1:=by rw [rangeSize_one];split <;> omega
   show IsRangeIter _ _ (lo+((0:Nat):Int)*1) ((((hi - lo).toNat:Nat):Int) - ((0:Nat):Int)) 1;rw [e1,e2];exact Heap.get?_push_size _ rfl
 · have e : b = (s.heap.push { cls := .type "range", data := .fields #[.int lo t, .int hi u, .int 1 v] }).objs.size := by simpa using hb
   subst e;exact I1.jC (Nat.le_refl _) (I1.aG.fresh (Nat.le_refl _))
def tJ (ta:TA):TI:=fun σ H R=>ta σ H fun vs H1=>∃ j:Int,vs=[.int j]∧-(2 ^ 62)≤j∧j<2 ^ 62∧R (nG 0 j.toNat) H1
def Dy (ta:TA):TI:=fun σ H R=>ta σ H fun vs H1=>∃ i j:Int,vs=[.int i,.int j]∧(-(2 ^ 62)≤i∧i<2 ^ 62∧-(2 ^ 62)≤j∧j<2 ^ 62)∧R (nG i (j - i).toNat) H1
theorem dq {a:Expr} {ta:TA} {p pos:Pos} (hg:Gl X "range") (hm:X.mg "range" = none) (ha:PA X [a] ta) (hs:starEach [a] X.env=[(false,eval a X.env)]:=by rfl):PI X tg (.Call (.Name "range" p) [a] [] pos) (tJ ta):=by
 intro pins s σ H R I h;refine Call_ (gb I hg hm boot_range (PyProof.Rows.callWith_type1 (br (ha pos pins s σ H _ I h) fun us s1 ⟨vs,H1,I1,r1,q1⟩=>?_) hs rfl));obtain ⟨j,e,q1,q2,q⟩:=q1;subst e;cases r1 with
 | cons r rr =>
   cases rr
   obtain ⟨t,rfl⟩:=r;exact call_range_1 (wd I1 (by omega) (by omega) q1 q2 (by simpa using q))
theorem rz {a b : Expr} {ta : TA} {p pos : Pos} (hg : Gl X "range") (hm : X.mg "range" = none) (ha : PA X [a, b] ta) (hs : starEach [a, b] X.env = [(false, eval a X.env), (false, eval b X.env)] := by rfl) (hs2 : starEach [b] X.env = [(false, eval b X.env)] := by rfl) :
   PI X tg (.Call (.Name "range" p) [a,b] [] pos) (Dy ta):=by
 intro pins s σ H R I h;refine Call_ (gb I hg hm boot_range (PyProof.Rows.callWith_type1 (br (ha pos pins s σ H _ I h) fun us s1 ⟨vs,H1,I1,r1,q1⟩=>?_) (by rw [hs,hs2]) (by rw [hs2];rfl)));obtain ⟨i,j,e,⟨q1,q2,q3,q4⟩,q⟩:=q1;subst e;cases r1 with
 | cons r rr =>
   cases rr with
   | cons r' rr =>
     cases rr
     obtain ⟨t,rfl⟩:=r;obtain ⟨t',rfl⟩:=r';exact call_range_2 (wd I1 q1 q2 q3 q4 q)
def qL (wi : TI) (g : TG) (tb : TS) : TS := fun D σ H => wi σ H fun J H1 => ∃ W : Nat → Nat → St → Hp → Prop, (∃ m, W 0 m σ H1) ∧ ∀ i m σ H, W i m σ H →
 (J.stop i H∧D.nx σ H)∨(J.go i H∧∃ N:St→Hp→Prop,(∀ σ' H',N σ' H'→∃ m',m'<m∧W (i+1) m' σ' H')∧∀ x H',J.uB i H x H'→g x σ H' fun σ2 H2=>tb { D with nx:=N,ct:=N,bk:=D.nx } σ2 H2)
def hZ (fp:List Addr) (h:Heap):List (Addr×Obj):=fp.filterMap fun b=>(h.get? b).map fun o=>(b,o)
theorem iA {fp:List Addr} {h:Heap} {b:Addr} {o:Obj} (hb:b∈fp) (e:h.get? b=some o):(b,o)∈hZ fp h:=List.mem_filterMap.mpr ⟨b,hb,by rw [e];rfl⟩
theorem rG {fp:List Addr} {h:Heap} {p:Addr×Obj} (hp:p∈hZ fp h):p.1∈fp∧h.get? p.1=some p.2:=by
 obtain ⟨b,hb,e⟩:=List.mem_filterMap.mp hp;cases q:h.get? b with
 | none=>rw [q] at e;cases e
 | some o =>
   rw [q] at e;have e':(b,o)=p:=Option.some.inj e;subst e';exact ⟨hb,q⟩
theorem Inv.pinned {pins:List (Addr×Obj)} {σ : St} {H:Hp} {s:Shared} {fp:List Addr} (I:Inv X pins σ H s) (hf:∀ b∈fp,lG X pins H b) (ho:∀ b∈fp,∃ o,s.heap.get? b=some o∧∀ v,o.data≠.cell v):Inv X (pins++hZ fp s.heap) σ H s :=
 I.mR fun p hp=>(List.mem_append.mp hp).elim (fun z=>I.pin p (List.mem_append_right _ z)) fun z=>by
   obtain ⟨hb,e⟩:=rG z;obtain ⟨f0,f1,f2,_⟩:=hf p.1 hb;obtain ⟨o,e',d⟩:=ho p.1 hb;rw [e] at e';cases e';exact ⟨e,f0,f1,f2,d⟩
theorem Inv.kC {pins pl:List (Addr×Obj)} {σ : St} {H:Hp} {s:Shared} (I:Inv X (pins++pl) σ H s):Inv X pins σ H s:=I.mR fun p hp=>I.pin p (List.mem_append_right _ (List.mem_append_left _ hp))
theorem dE {iter : Expr} {body : List Stmt} {wi : TI} {g : TG} {tb : TS} {pos : Pos} (hp : PassesOwn (model X.prog X.w) X.A X.env X.xe) (hc : X.calm = true) (hi : PI X tg iter wi) (hg : PG X tg g) (hb : hU X body tb)
   (hs:∀ x,foldedSetIterable iter X.env x=pure x:=by intro _;rfl):PS X (.For tg iter body [] pos) (qL wi g tb):=by
 intro pins s σ H D I h;refine wpAny_For (br (hi pins s σ H _ I h) fun v s1 h1=>br h1 fun itv s2 h2=>?_) hs;obtain ⟨it,fp,tn,J,H2,e,I2,T,st2,f2,W,⟨m0,w0⟩,turn⟩:=h2;subst e
 -- what stays true of the iterator's objects through the loop
 have stat:∀ {H':Hp},(∀ b∈fp,H' b=none)→∀ b∈fp,lG X pins H' b:=fun hn b hb=>⟨hn b hb,(f2 b hb).2⟩;refine codeAny_forLoop_any (fun n s'=>∃ i σ' H',Inv X pins σ' H' s'∧tn i s'.heap∧(∀ b∈fp,H' b=none)∧W i n σ' H') ?_ m0 ⟨0,σ,H2,I2,st2,fun b hb=>(f2 b hb).1,w0⟩;rintro n s3 ⟨i,σ3,H3,I3,st3,fr3,w3⟩;rcases turn i n σ3 H3 w3 with ⟨stop,qn⟩ | ⟨go,N,hN,step⟩
 · refine wpAny_passesOwn hp (br (T.done X rfl rfl rfl hc i pins s3 σ3 H3 X.xe I3 (stat fr3) st3 stop) fun r s4 ⟨hr, I4⟩ => ?_);subst hr;exact wpAny_execs_nil ⟨σ3,H3,I4,qn⟩
 · refine wpAny_passesOwn hp (br (T.item X rfl rfl rfl hc i pins s3 σ3 H3 X.xe I3 (stat fr3) st3 go) fun r s4 ⟨u, hr, h4⟩ => ?_);subst hr;refine wpAny_passesOwn hp (br h4 fun _ s5 ⟨x,H5,I5,r5,y5,st5,fr5⟩=>?_);have I5':=I5.pinned (stat fr5) (T.obj _ _ st5);refine wpAny_passesOwn hp (br (hg _ s5 σ3 H5 x u _ I5' r5 (step x H5 y5)) fun _ s6 ⟨σ6,H6,I6,q6⟩=>?_);refine wpAny_passesOwn hp (br (hb _ s6 σ6 H6 _ I6 q6) fun f s7 q7=>?_);have again:∀ {σ7:St} {H7:Hp},Inv X (pins++hZ fp s5.heap) σ7 H7 s7→N σ7 H7→∃ m,m<n∧∃ i σ' H',Inv X pins σ' H' s7∧tn i s7.heap∧(∀ b∈fp,H' b=none)∧W i m σ' H':=fun {σ7 H7} I7 n7=>by
     obtain ⟨m',hm,w7⟩:=hN σ7 H7 n7;refine ⟨m',hm,i+1,σ7,H7,I7.kC,T.keep _ _ _ st5 fun b hb o e=>(I7.pin (b,o) (List.mem_append_right _ (List.mem_append_right _ (iA hb e)))).1,fun b hb=>?_,w7⟩;obtain ⟨o,e,d⟩:=T.obj _ _ st5 b hb;exact (I7.pin (b,o) (List.mem_append_right _ (List.mem_append_right _ (iA hb e)))).2.1
   cases f with
   | next=>obtain ⟨σ7,H7,I7,n7⟩:=q7;exact again I7 n7
   | cont=>obtain ⟨σ7,H7,I7,n7⟩:=q7;exact again I7 n7
   | brk=>obtain ⟨σ7,H7,I7,q7⟩:=q7;exact ⟨σ7,H7,I7.kC,q7⟩
   | ret v=>obtain ⟨x7,σ7,H7,I7,r7,q7⟩:=q7;exact ⟨x7,σ7,H7,I7.kC,r7,q7⟩
end
theorem eE {K : W.Frag} {a : Addr} {xs : List V} {g : TG} {tb : TS} {D : Ends} {σ : St} {H : Hp} (Pv : Nat → St → Hp → Prop) (h0 : Pv 0 σ H) (hl : ∀ i σ H, i ≤ xs.length → Pv i σ H → aA K H a xs)
   (hs:∀ i x σ H,xs[i]? = some x→Pv i σ H→g x σ H fun σ2 H2=>tb { D with nx:=Pv (i+1),ct:=Pv (i+1),bk:=D.nx } σ2 H2) (hd:∀ σ H,Pv xs.length σ H→D.nx σ H) :
   ∃ W : Nat → Nat → St → Hp → Prop, (∃ m, W 0 m σ H) ∧ ∀ i m σ H, W i m σ H →
     ((pV K a).stop i H∧D.nx σ H)∨((pV K a).go i H∧∃ N:St→Hp→Prop,(∀ σ' H',N σ' H'→∃ m',m'<m∧W (i+1) m' σ' H')∧∀ x H',(pV K a).uB i H x H'→g x σ H' fun σ2 H2=>tb { D with nx:=N,ct:=N,bk:=D.nx } σ2 H2):=by
 refine ⟨fun i m σ H=>m=xs.length - i∧i≤xs.length∧Pv i σ H,⟨xs.length,by simp,Nat.zero_le _,h0⟩,?_⟩;rintro i m σ H ⟨rfl,hi,p⟩;have q:=hl i σ H hi p;by_cases hlt:i<xs.length
 · refine .inr ⟨⟨xs, xs[i], q, by simp [hlt]⟩, Pv (i + 1), fun σ' H' p' => ⟨xs.length - (i + 1), by omega, rfl, hlt, p'⟩, fun x H' y => ?_⟩;obtain ⟨e,y⟩:=y;subst e;exact hs i x σ _ (y xs q) p
 · have e : i = xs.length := by omega
   subst e;exact .inl ⟨⟨xs,q,Nat.le_refl _⟩,hd σ H p⟩
theorem ic {lo : Int} {n : Nat} {g : TG} {tb : TS} {D : Ends} {σ : St} {H : Hp} (Pv : Nat → St → Hp → Prop) (h0 : Pv 0 σ H)
   (hs:∀ i σ H,i<n→Pv i σ H→g (.int (lo+i)) σ H fun σ2 H2=>tb { D with nx:=Pv (i+1),ct:=Pv (i+1),bk:=D.nx } σ2 H2) (hd:∀ σ H,Pv n σ H→D.nx σ H) :
   ∃ W : Nat → Nat → St → Hp → Prop, (∃ m, W 0 m σ H) ∧ ∀ i m σ H, W i m σ H →
     ((nG lo n).stop i H∧D.nx σ H)∨((nG lo n).go i H∧∃ N:St→Hp→Prop,(∀ σ' H',N σ' H'→∃ m',m'<m∧W (i+1) m' σ' H')∧∀ x H',(nG lo n).uB i H x H'→g x σ H' fun σ2 H2=>tb { D with nx:=N,ct:=N,bk:=D.nx } σ2 H2):=by
 refine ⟨fun i m σ H=>m=n - i∧i≤n∧Pv i σ H,⟨n,by simp,Nat.zero_le _,h0⟩,?_⟩;rintro i m σ H ⟨rfl,hi,p⟩;by_cases hlt:i<n
 · refine .inr ⟨hlt, Pv (i + 1), fun σ' H' p' => ⟨n - (i + 1), by omega, rfl, hlt, p'⟩, fun x H' y => ?_⟩;obtain ⟨e,y⟩:=y;subst e y;exact hs i σ _ hlt p
 · have e : i = n := by omega
   subst e;exact .inl ⟨Nat.le_refl _,hd σ H p⟩
end L2
namespace L2
open PySem PySem.Spec PyProof.Rows
abbrev R2:=V→V→Hp→VK→Prop
def cb (X:Cx) (f:Value→Value→Sem Value) (r:R2):Prop :=
 ∀ (pins : List (Addr × Obj)) (s : Shared) (σ : St) (H : Hp) (x y : V) (v u : Value) (Q : VK), Inv X pins σ H s → RelV x v → RelV y u → r x y H Q →
   wpAny (model X.prog X.w) X.A (f v u) (EP X pins σ Q) X.xe s
def DB (X:Cx) (f:Value→Sem Value) (r:V→Hp→VK→Prop):Prop :=
 ∀ (pins : List (Addr × Obj)) (s : Shared) (σ : St) (H : Hp) (x : V) (v : Value) (Q : VK), Inv X pins σ H s → RelV x v → r x H Q →
   wpAny (model X.prog X.w) X.A (f v) (EP X pins σ Q) X.xe s
def cR (X:Cx) (f:Value) (r:List V→Hp→VK→Prop):Prop :=
 ∀ (pins : List (Addr × Obj)) (s : Shared) (σ : St) (H : Hp) (xs : List V) (us : List Value) (Q : VK), Inv X pins σ H s → a_ xs us → r xs H Q →
   wpAny (model X.prog X.w) X.A (call f us) (EP X pins σ Q) X.xe s
def VQ (X:Cx) (r:V→Hp→(Bool→Hp→Prop)→Prop):Prop :=
 ∀ (pins : List (Addr × Obj)) (s : Shared) (σ : St) (H : Hp) (x : V) (v : Value) (Q : Bool → Hp → Prop), Inv X pins σ H s → RelV x v → r x H Q →
   wpAny (model X.prog X.w) X.A (truthy v) (TP X pins σ Q) X.xe s
def d7 (r:R2) (ta tb:TE):TE:=fun σ H Q=>ta σ H fun x H1=>tb σ H1 fun y H2=>r x y H2 Q
def Tx (r:V→Hp→VK→Prop) (ta:TE):TE:=fun σ H Q=>ta σ H fun x H1=>r x H1 Q
def rI (C:Int→Int→Prop) (g:Int→Int→V):R2:=fun x y H Q=>∃ i j,x=.int i∧y=.int j∧C i j∧Q (g i j) H
def jo (g:Int→Int→V):R2:=fun x y H Q=>∃ i j,x=.int i∧y=.int j∧Q (g i j) H
def rU (g:Int→V):V→Hp→VK→Prop:=fun x H Q=>∃ i,x=.int i∧Q (g i) H
section
variable {X:Cx} {a b c:Expr} {ta tb tc:TE} {pos:Pos}
theorem CF (ha : PE X a ta) (hb : PE X b tb) {pins : List (Addr × Obj)} {s : Shared} {σ : St} {H : Hp} {R : V → V → Hp → Prop} (I : Inv X pins σ H s)
   (h:ta σ H fun x H1=>tb σ H1 fun y H2=>R x y H2) {Q:Value→Shared→Prop} {f:Value→Value→Sem Value}
   (hf:∀ v u s2 x y H2,Inv X pins σ H2 s2→RelV x v→RelV y u→R x y H2→wpAny (model X.prog X.w) X.A (f v u) Q X.xe s2) :
   wpAny (model X.prog X.w) X.A (eval a X.env) (fun v s₁=>wpAny (model X.prog X.w) X.A (eval b X.env) (fun u s₂=>wpAny (model X.prog X.w) X.A (f v u) Q X.xe s₂) X.xe s₁) X.xe s:=by
 refine br (ha pins s σ H _ I h) fun v s1 ⟨x,H1,I1,r1,q1⟩=>?_;refine br (hb pins s1 σ H1 _ I1 q1) fun u s2 ⟨y,H2,I2,r2,q2⟩=>?_;exact hf v u s2 x y H2 I2 r1 r2 q2
theorem ar {op:Operator} {r:R2} (ho:cb X (binaryOp op) r) (ha:PE X a ta) (hb:PE X b tb):PE X (.BinOp a op b pos) (d7 r ta tb):=by
 intro pins s σ H Q I h;exact wpAny_BinOp (CF ha hb I h fun v u s2 x y H2 I2 rx ry q=>ho pins s2 σ H2 x y v u Q I2 rx ry q)
theorem gQ {op:UnaryOp} {r:V→Hp→VK→Prop} (ho:DB X (unaryOp op) r) (ha:PE X a ta):PE X (.UnaryOp op a pos) (Tx r ta):=by
 intro pins s σ H Q I h;exact UnaryOp_ (br (ha pins s σ H _ I h) fun v s1 ⟨x,H1,I1,r1,q1⟩=>ho pins s1 σ H1 x v Q I1 r1 q1)
theorem A6 {f : Value → Value → Sem Value} {C : Int → Int → Prop} {g : Int → Int → Int}
   (rule:∀ (i j:Int) (t u:Tok) (s:Shared) (Q:Value→Shared→Prop) (E:Value→Shared→Prop),C i j→Q (.int (g i j) s.toks) { s with toks:=s.toks+1 }→wpAny (model X.prog X.w) X.A (f (.int i t) (.int j u)) Q E s) :
   cb X f (rI C fun i j=>.int (g i j)):=by
 intro pins s σ H x y v u Q I rx ry h;obtain ⟨i,j,rfl,rfl,hc,q⟩:=h;obtain ⟨t,rfl⟩:=rx;obtain ⟨t',rfl⟩:=ry;exact rule i j t t' s _ _ hc ⟨.int (g i j),H,I.tok _,⟨_,rfl⟩,q⟩
theorem vY {f : Value → Value → Sem Value} {g : Int → Int → Int}
   (rule:∀ (i j:Int) (t u:Tok) (s:Shared) (Q:Value→Shared→Prop) (E:Value→Shared→Prop),Q (.int (g i j) s.toks) { s with toks:=s.toks+1 }→wpAny (model X.prog X.w) X.A (f (.int i t) (.int j u)) Q E s) :
   cb X f (jo fun i j=>.int (g i j)):=by
 intro pins s σ H x y v u Q I rx ry h;obtain ⟨i,j,rfl,rfl,q⟩:=h;obtain ⟨t,rfl⟩:=rx;obtain ⟨t',rfl⟩:=ry;exact rule i j t t' s _ _ ⟨.int (g i j),H,I.tok _,⟨_,rfl⟩,q⟩
theorem yA {f : Value → Value → Sem Value} {g : Int → Int → Bool}
   (rule:∀ (i j:Int) (t u:Tok) (s:Shared) (Q:Value→Shared→Prop) (E:Value→Shared→Prop),Q (.bool (g i j)) s→wpAny (model X.prog X.w) X.A (f (.int i t) (.int j u)) Q E s) :
   cb X f (jo fun i j=>.bl (g i j)):=by
 intro pins s σ H x y v u Q I rx ry h;obtain ⟨i,j,rfl,rfl,q⟩:=h;obtain ⟨t,rfl⟩:=rx;obtain ⟨t',rfl⟩:=ry;exact rule i j t t' s _ _ ⟨.bl (g i j),H,I,rfl,q⟩
def qM (i j:Int):Prop:=0<j∧j<1073741824
def vn (i j:Int):Prop:=(-(2 ^ 64)<i∧i<2 ^ 64)∨(-(2 ^ 64)<j∧j<2 ^ 64)
theorem vn.ok {i j:Int} (h:vn i j):IntMulOk i j:=by
 rcases h with ⟨h1,h2⟩ | ⟨h1,h2⟩
 · exact .of_left (intBits_le_64 h1 h2)
 · exact .of_right (intBits_le_64 h1 h2)
theorem yX (k:Nat):(0:Int)≤2 ^ k:=by
 rw [two_pow_cast];exact Int.natCast_nonneg _
theorem Fg:cb X (binaryOp .Add) (jo fun i j=>.int (i+j)):=vY fun _ _ _ _ _ _ _ q=>add_int q
theorem d6:cb X (binaryOp .Sub) (jo fun i j=>.int (i - j)):=vY fun _ _ _ _ _ _ _ q=>sub_int q
theorem GN:cb X (binaryOp .Mult) (rI vn fun i j=>.int (i*j)):=A6 fun _ _ _ _ _ _ _ hc q=>mul_int q hc.ok
theorem a9:cb X (binaryOp .FloorDiv) (rI qM fun i j=>.int (i/j)):=A6 fun i j _ _ _ _ _ hc q=>by
 have h1:(0:Int)<j:=hc.1;have h2:j<1073741824:=hc.2;exact floordiv_int (by omega) (by rw [Int.fdiv_eq_ediv_of_nonneg i (by omega)];exact q) (.inl (PyProof.noPylong_small (by omega)))
theorem aN:cb X (binaryOp .Mod) (rI (fun _ j=>0<j) fun i j=>.int (i%j)):=A6 fun i j _ _ _ _ _ hc q=>by
 have h1:(0:Int)<j:=hc;exact mod_int' (by omega) (by rw [Int.fmod_eq_emod_of_nonneg i (by omega)];exact q)
theorem EZ:cb X (binaryOp .RShift) (rI (fun _ j=>0≤j) fun i j=>.int (i/2 ^ j.toNat)):=A6 fun i j _ _ _ _ _ hc q =>
 rshift_int hc (by rw [Int.fdiv_eq_ediv_of_nonneg i (yX _)];exact q)
theorem i9:cb X (binaryOp .BitAnd) (jo fun i j=>.int (Builtin.bitAnd i j)):=vY fun _ _ _ _ _ _ _ q=>and_int q
theorem yK:cb X (binaryOp .BitOr) (jo fun i j=>.int (Builtin.bitOr i j)):=vY fun _ _ _ _ _ _ _ q=>or_int q
theorem FW:cb X (binaryOp .BitXor) (jo fun i j=>.int (Builtin.bitXor i j)):=vY fun _ _ _ _ _ _ _ q=>xor_int q
theorem Tv {f : Value → Sem Value} {g : Int → Int}
   (rule:∀ (i:Int) (t:Tok) (s:Shared) (Q:Value→Shared→Prop) (E:Value→Shared→Prop),Q (.int (g i) s.toks) { s with toks:=s.toks+1 }→wpAny (model X.prog X.w) X.A (f (.int i t)) Q E s) :
   DB X f (rU fun i=>.int (g i)):=by
 intro pins s σ H x v Q I rx h;obtain ⟨i,rfl,q⟩:=h;obtain ⟨t,rfl⟩:=rx;exact rule i t s _ _ ⟨.int (g i),H,I.tok _,⟨_,rfl⟩,q⟩
theorem h_:DB X (unaryOp .USub) (rU fun i=>.int (-i)):=Tv fun _ _ _ _ _ q=>neg_int q
theorem AE:DB X (unaryOp .Invert) (rU fun i=>.int (Builtin.bitNot i)):=Tv fun _ _ _ _ _ q=>invert_int q
end
def za : V → V → Bool
 | .aR,.aR=>true | .aR,.int _=>true | .int _,.aR=>true | .aR,.bl _=>true | .bl _,.aR=>true | .aR,.str _=>true | .str _,.aR=>true
 | .int _,.int _=>true | .bl _,.bl _=>true | .str _,.str _=>true | .byt _,.byt _=>true
 | .int _,.str _=>true | .str _,.int _=>true | .bl _,.str _=>true | .str _,.bl _=>true
 | _,_=>false
def Td:R2:=fun x y H Q=>za x y=true∧Q (.bl (decide (x=y))) H
def Tq:R2:=fun x y H Q=>za x y=true∧Q (.bl (!decide (x=y))) H
theorem xw {i j:Int}:decide (V.int i=V.int j)=(i == j):=by
 rw [Bool.eq_iff_iff]
 simp
theorem As {i j:Bool}:decide (V.bl i=V.bl j)=(i == j):=by
 rw [Bool.eq_iff_iff]
 simp
theorem xB {i j:Str}:decide (V.str i=V.str j)=(i == j):=by
 rw [Bool.eq_iff_iff]
 simp
theorem xQ {i j:Array UInt8}:decide (V.byt i=V.byt j)=(i.toList == j.toList):=by
 rw [Bool.eq_iff_iff];cases i
 cases j
 simp
section
variable {X:Cx} {a b c:Expr} {ta tb tc:TE} {pos:Pos}
theorem bK {pins:List (Addr×Obj)} {σ : St} {H:Hp} {s:Shared} {Q:VK} {k k':Bool} (I:Inv X pins σ H s) (q:Q (.bl k) H) (e:k=k'):EP X pins σ Q (.bool k') s:=by
 subst e;exact ⟨.bl k,H,I,rfl,q⟩
theorem O4:cb X (compareOp .Eq) Td:=by
 intro pins s σ H x y v u Q I rx ry h;obtain ⟨hs,q⟩:=h;cases x with
 | aR =>
   cases rx
   cases y with
   | aR=>cases ry;exact PySem.EqNone.eq_none_none (bK I q (by simp))
   | bl j=>cases ry;exact PySem.EqNone.eq_none_bool (bK I q (by simp))
   | int j=>obtain ⟨t',rfl⟩:=ry;exact PySem.EqNone.eq_none_int (bK I q (by simp))
   | str j=>obtain ⟨t',rfl⟩:=ry;exact PySem.EqNone.eq_none_str (bK I q (by simp))
   | _=>exact absurd (show false=true from hs) Bool.false_ne_true
 | bl i =>
   cases rx
   cases y with
   | aR=>cases ry;exact PySem.EqNone.eq_bool_none (bK I q (by simp))
   | bl j=>cases ry;exact eq_bool (bK I q As)
   | str j=>obtain ⟨t',rfl⟩:=ry;exact PySem.EqMixed.eq_bool_str (bK I q (by simp))
   | _=>exact absurd (show false=true from hs) Bool.false_ne_true
 | int i =>
   obtain ⟨t,rfl⟩:=rx;cases y with
   | aR=>cases ry;exact PySem.EqNone.eq_int_none (bK I q (by simp))
   | int j=>obtain ⟨t',rfl⟩:=ry;exact eq_int (bK I q xw)
   | str j=>obtain ⟨t',rfl⟩:=ry;exact PySem.EqMixed.eq_int_str (bK I q (by simp))
   | _=>exact absurd (show false=true from hs) Bool.false_ne_true
 | str i =>
   obtain ⟨t,rfl⟩:=rx;cases y with
   | aR=>cases ry;exact PySem.EqNone.eq_str_none (bK I q (by simp))
   | bl j=>cases ry;exact PySem.EqMixed.eq_str_bool (bK I q (by simp))
   | int j=>obtain ⟨t',rfl⟩:=ry;exact PySem.EqMixed.eq_str_int (bK I q (by simp))
   | str j=>obtain ⟨t',rfl⟩:=ry;exact eq_str (bK I q xB)
   | _=>exact absurd (show false=true from hs) Bool.false_ne_true
 | byt i =>
   obtain ⟨t,rfl⟩:=rx;cases y with
   | byt j=>obtain ⟨t',rfl⟩:=ry;exact W.eq_bytes (bK I q xQ)
   | _=>exact absurd (show false=true from hs) Bool.false_ne_true
 | _=>cases y <;> exact absurd (show false=true from hs) Bool.false_ne_true
theorem Ig:cb X (compareOp .NotEq) Tq:=by
 intro pins s σ H x y v u Q I rx ry h;obtain ⟨hs,q⟩:=h;cases x with
 | aR =>
   cases rx
   cases y with
   | aR=>cases ry;exact PySem.EqNone.ne_none_none (bK I q (by simp))
   | bl j=>cases ry;exact PySem.EqNone.ne_none_bool (bK I q (by simp))
   | int j=>obtain ⟨t',rfl⟩:=ry;exact PySem.EqNone.ne_none_int (bK I q (by simp))
   | str j=>obtain ⟨t',rfl⟩:=ry;exact PySem.EqNone.ne_none_str (bK I q (by simp))
   | _=>exact absurd (show false=true from hs) Bool.false_ne_true
 | bl i =>
   cases rx
   cases y with
   | aR=>cases ry;exact PySem.EqNone.ne_bool_none (bK I q (by simp))
   | bl j=>cases ry;exact ne_bool (bK I q (congrArg not As))
   | str j=>obtain ⟨t',rfl⟩:=ry;exact PySem.EqMixed.ne_bool_str (bK I q (by simp))
   | _=>exact absurd (show false=true from hs) Bool.false_ne_true
 | int i =>
   obtain ⟨t,rfl⟩:=rx;cases y with
   | aR=>cases ry;exact PySem.EqNone.ne_int_none (bK I q (by simp))
   | int j=>obtain ⟨t',rfl⟩:=ry;exact ne_int (bK I q (congrArg not xw))
   | str j=>obtain ⟨t',rfl⟩:=ry;exact PySem.EqMixed.ne_int_str (bK I q (by simp))
   | _=>exact absurd (show false=true from hs) Bool.false_ne_true
 | str i =>
   obtain ⟨t,rfl⟩:=rx;cases y with
   | aR=>cases ry;exact PySem.EqNone.ne_str_none (bK I q (by simp))
   | bl j=>cases ry;exact PySem.EqMixed.ne_str_bool (bK I q (by simp))
   | int j=>obtain ⟨t',rfl⟩:=ry;exact PySem.EqMixed.ne_str_int (bK I q (by simp))
   | str j=>obtain ⟨t',rfl⟩:=ry;exact ne_str (bK I q (congrArg not xB))
   | _=>exact absurd (show false=true from hs) Bool.false_ne_true
 | byt i =>
   obtain ⟨t,rfl⟩:=rx;cases y with
   | byt j=>obtain ⟨t',rfl⟩:=ry;exact W.ne_bytes (bK I q (congrArg not xQ))
   | _=>exact absurd (show false=true from hs) Bool.false_ne_true
 | _=>cases y <;> exact absurd (show false=true from hs) Bool.false_ne_true
theorem gU:cb X (compareOp .Lt) (jo fun i j=>.bl (decide (i<j))):=yA fun _ _ _ _ _ _ _ q=>lt_int q
theorem tN:cb X (compareOp .LtE) (jo fun i j=>.bl (decide (i≤j))):=yA fun _ _ _ _ _ _ _ q=>le_int q
theorem fB:cb X (compareOp .Gt) (jo fun i j=>.bl (decide (j<i))):=yA fun _ _ _ _ _ _ _ q=>gt_int q
theorem Dc:cb X (compareOp .GtE) (jo fun i j=>.bl (decide (j≤i))):=yA fun _ _ _ _ _ _ _ q=>ge_int q
theorem Fs:cb X (compareOp .Is) (fun x y H Q=>y=.aR∧Q (.bl (decide (x=.aR))) H):=by
 intro pins s σ H x y v u Q I rx ry h;obtain ⟨rfl,q⟩:=h;cases ry
 refine is_none_gen (bK I q ?_)
 cases x <;> first
   | (cases rx;rfl)
   | (obtain ⟨t,rfl⟩:=rx;rfl)
theorem EG:cb X (compareOp .IsNot) (fun x y H Q=>y=.aR∧Q (.bl (!decide (x=.aR))) H):=by
 intro pins s σ H x y v u Q I rx ry h;obtain ⟨rfl,q⟩:=h;cases ry
 refine isnot_none_gen (bK I q ?_)
 cases x <;> first
   | (cases rx;rfl)
   | (obtain ⟨t,rfl⟩:=rx;rfl)
theorem cb.or {f:Value→Value→Sem Value} {r r':R2} (h:cb X f r) (h':cb X f r'):cb X f (fun x y H Q=>r x y H Q∨r' x y H Q):=by
 intro pins s σ H x y v u Q I rx ry q;rcases q with q | q
 · exact h pins s σ H x y v u Q I rx ry q
 · exact h' pins s σ H x y v u Q I rx ry q
theorem aF (b:Expr) {op:CmpOp} (h:op≠.In:=by decide) (h2:op≠.NotIn:=by decide):behindInMarks op b=false:=by
 have e1:(op == CmpOp.In)=false:=by cases op <;> first | rfl | exact absurd rfl h
 have e2:(op == CmpOp.NotIn)=false:=by cases op <;> first | rfl | exact absurd rfl h2
 cases b <;> simp [behindInMarks,e1,e2]
theorem gP {op:CmpOp} {r:R2} (ho:cb X (compareOp op) r) (ha:PE X a ta) (hb:PE X b tb) (hm:behindInMarks op b=false):PE X (.Compare a [op] [b] pos) (d7 r ta tb):=by
 intro pins s σ H Q I h;exact wpAny_Compare1 (CF ha hb I h fun v u s2 x y H2 I2 rx ry q=>ho pins s2 σ H2 x y v u Q I2 rx ry q) hm
def fT (t:TE):TT:=fun σ H Q=>t σ H fun x H'=>∃ k,x=.bl k∧Q k H'
theorem aB {op:CmpOp} {r:R2} (ho:cb X (compareOp op) r) (ha:PE X a ta) (hb:PE X b tb) (hm:behindInMarks op b=false):PT X (.Compare a [op] [b] pos) (fT (d7 r ta tb)):=by
 intro pins s σ H Q I h;refine wpAny_isTrue_Compare1 (br (ha pins s σ H _ I h) fun v s1 ⟨x,H1,I1,r1,q1⟩=>br (hb pins s1 σ H1 _ I1 q1) fun u s2 ⟨y,H2,I2,r2,q2⟩ =>
   br (ho pins s2 σ H2 x y v u _ I2 r1 r2 q2) fun c s3 ⟨z,H3,I3,r3,k,e,q3⟩=>?_) hm
 subst e;cases r3
 exact wpAny_truthy_bool ⟨H3,I3,q3⟩
def Ab (r r' : R2) (ta tb tc : TE) : TE := fun σ H Q => ta σ H fun x H1 => tb σ H1 fun y H2 => r x y H2 fun z H3 => ∃ k, z = .bl k ∧
 (if k=true then tc σ H3 fun w' H4=>r' y w' H4 Q else Q (.bl false) H3)
theorem BZ {op op' : CmpOp} {r r' : R2} (ho : cb X (compareOp op) r) (ho' : cb X (compareOp op') r') (ha : PE X a ta) (hb : PE X b tb) (hc : PE X c tc)
   (hm:lastMarks [op,op'] [b,c]=false:=by with_unfolding_all rfl):PE X (.Compare a [op,op'] [b,c] pos) (Ab r r' ta tb tc):=by
 intro pins s σ H Q I h;refine Compare_chain (br (ha pins s σ H _ I h) fun v s1 ⟨x,H1,I1,r1,q1⟩=>chain_link (br (hb pins s1 σ H1 _ I1 q1) fun u s2 ⟨y,H2,I2,r2,q2⟩ =>
   br (ho pins s2 σ H2 x y v u _ I2 r1 r2 q2) fun d s3 ⟨z,H3,I3,r3,k,e,q3⟩=>?_)) hm
 subst e;cases r3
 refine wpAny_truthy_bool ?_;cases k with
 | false=>exact ite_ff ⟨.bl false,H3,I3,rfl,q3⟩
 | true=>exact ite_tt (chain_last (br (hc pins s3 σ H3 _ I3 q3) fun w' s4 ⟨z',H4,I4,r4,q4⟩=>ho' pins s4 σ H4 y z' u w' Q I4 r2 r4 q4))
def B9 (K:W.Frag) (x:V) (H:Hp) (k:Bool):Prop :=
 match x with
 | .aR=>k=false
 | .bl b=>k=b
 | .int i=>k=(i != 0)
 | .str y=>y.length≤sizeLine∧k=((y.length:Int) != 0)
 | .byt y=>y.size≤sizeLine∧k=((y.size:Int) != 0)
 | .ref p=>(∃ xs,aA K H p xs∧k = !xs.isEmpty)∨(∃ xs,aZ K H p xs∧k = !xs.isEmpty)∨∃ kvs,H p=some (.dK kvs)∧k = !kvs.isEmpty
 | _=>False
theorem yt {κ : Type} {kvs:List (κ×V)} {vs:List (κ×Value)} (r:KV kvs vs):(!vs.isEmpty) = !kvs.isEmpty:=by
 cases r <;> rfl
theorem ph {xs:List V} {its:List Value} (r:a_ xs its):(!its.toArray.isEmpty) = !xs.isEmpty:=by
 cases r <;> simp
theorem kg:(sizeLine:Nat)<2 ^ 63:=by rw [sizeLine_eq];decide
theorem GQ:VQ X (fun x H Q=>∃ k,B9 X.K x H k∧Q k H):=by
 intro pins s σ H x v Q I rx h;obtain ⟨k,e,q⟩:=h;have hl:=kg;have hs:sizeLine=16777216:=sizeLine_eq;cases x with
 | aR =>
   cases rx
   have e':k=false:=e;subst e';exact truthy_none ⟨H,I,q⟩
 | bl b =>
   cases rx
   have e':k=b:=e;subst e';exact wpAny_truthy_bool ⟨H,I,q⟩
 | int i =>
   obtain ⟨t,rfl⟩:=rx;have e':k=(i != 0):=e;subst e';exact PySem.P.truthy_int ⟨H,I,q⟩
 | str y =>
   obtain ⟨t,rfl⟩:=rx;obtain ⟨hy,e'⟩:y.length≤sizeLine∧k=((y.length:Int) != 0):=e;subst e';exact PySem.P.truthy_str (by omega) ⟨H,I.tok _,q⟩
 | byt y =>
   obtain ⟨t,rfl⟩:=rx;obtain ⟨hy,e'⟩:y.size≤sizeLine∧k=((y.size:Int) != 0):=e;subst e';exact W.truthy_bytes (by omega) ⟨H,I.tok _,q⟩
 | ref p =>
   cases rx
   have e':(∃ xs,aA X.K H p xs∧k = !xs.isEmpty)∨(∃ xs,aZ X.K H p xs∧k = !xs.isEmpty)∨∃ kvs,H p=some (.dK kvs)∧k = !kvs.isEmpty:=e;rcases e' with ⟨xs,hx,e'⟩ | ⟨xs,hx,e'⟩ | ⟨kvs,hx,e'⟩
   · subst e';obtain ⟨its,r,pl,hz⟩:=I.list hx;have hlen:=r.length;exact wpAny_truthy_list pl.isList (by simp only [List.size_toArray];omega) ⟨H,I.tok _,by rw [ph r];exact q⟩
   · subst e';obtain ⟨its,r,pl,hz⟩:=I.tuple hx;have hlen:=r.length;exact truthy_tuple pl (by simp only [List.size_toArray];omega) ⟨H,I.tok _,by rw [ph r];exact q⟩
   · subst e';obtain ⟨hz,hS,vs,r,m⟩:kvs.length≤sizeLine∧(p == sysModules)=false∧∃ vs,KV kvs vs∧s.heap.DictOf (cX X.prog X.w) p vs:=I.aG p _ hx;have hlen:kvs.length=vs.length:=Paired.length r;exact wpAny_truthy_dict hS m (by omega) ⟨H,I.tok _,by rw [yt r];exact q⟩
 | _=>exact (show False from e).elim
theorem BN (ha : PE X a ta) (he : ∀ whole, isTrue a X.env whole = (do let v ← whole; standAt a.pos; holding [v] (truthy v))) :
   PT X a (fun σ H Q=>ta σ H fun x H'=>∃ k,B9 X.K x H' k∧Q k H'):=by
 intro pins s σ H Q I h;exact isTrue_plain (br (ha pins s σ H _ I h) fun v s1 ⟨x,H1,I1,r1,q1⟩=>GQ pins s1 σ H1 x v Q I1 r1 q1) (he _)
theorem y_:cb X (binaryOp .Add) (fun x y H Q=>∃ i j,x=.str i∧y=.str j∧i.length+j.length≤sizeLine∧Q (.str (i++j)) H):=by
 intro pins s σ H x y v u Q I rx ry h;obtain ⟨i,j,rfl,rfl,hz,q⟩:=h;obtain ⟨t,rfl⟩:=rx;obtain ⟨t',rfl⟩:=ry;exact add_str (fun t' tk=>⟨.str (i++j),H,I.tok _,⟨_,rfl⟩,q⟩) hz
theorem vals1 {x:V} {us:List Value} (r:a_ [x] us):∃ u,us=[u]∧RelV x u:=by
 cases r with
 | cons r1 r2=>cases r2;exact ⟨_,rfl,r1⟩
theorem vals2 {x y:V} {us:List Value} (r:a_ [x,y] us):∃ u w',us=[u,w']∧RelV x u∧RelV y w':=by
 cases r with
 | cons r1 r2 =>
   cases r2 with
   | cons r3 r4=>cases r4;exact ⟨_,_,rfl,r1,r3⟩
theorem Ap (hc:X.calm=true):cR X (.builtin "max") (fun xs H Q=>∃ i j,xs=[.int i,.int j]∧Q (.int (if j > i then j else i)) H):=by
 intro pins s σ H xs us Q I r h;obtain ⟨i,j,rfl,q⟩:=h;obtain ⟨u,w',rfl,⟨t,rfl⟩,⟨t',rfl⟩⟩:=vals2 r;refine max_two_ints (I.ok.hd hc) fun h' tk k=>⟨_,H,I.kept k,?_,q⟩;by_cases hj:j > i
 · rw [if_pos hj,if_pos hj];exact ⟨_,rfl⟩
 · rw [if_neg hj,if_neg hj];exact ⟨_,rfl⟩
theorem jj:cR X (.type "int") (fun xs H Q=>(∃ i,xs=[.int i]∧Q (.int i) H)∨∃ k,xs=[.bl k]∧Q (.int (if k then 1 else 0)) H):=by
 intro pins s σ H xs us Q I r h;rcases h with ⟨i,rfl,q⟩ | ⟨k,rfl,q⟩
 · obtain ⟨u, rfl, t, rfl⟩ := vals1 r;exact call_int_int ⟨.int i,H,I,⟨_,rfl⟩,q⟩
 · obtain ⟨u, rfl, r1⟩ := vals1 r;cases r1
   exact call_int_bool ⟨.int (if k then 1 else 0),H,I.tok _,⟨_,rfl⟩,q⟩
def Gg (K:W.Frag) (x:V) (H:Hp) (n:Nat):Prop :=
 match x with
 | .str y=>y.length≤sizeLine∧n=y.length
 | .byt y=>y.size≤sizeLine∧n=y.size
 | .ref p=>(∃ xs,aA K H p xs∧n=xs.length)∨∃ xs,aZ K H p xs∧n=xs.length
 | _=>False
theorem BB:cR X (.builtin "len") (fun xs H Q=>∃ x n,xs=[x]∧Gg X.K x H n∧Q (.int n) H):=by
 intro pins s σ H xs us Q I r h;obtain ⟨x,n,rfl,e,q⟩:=h;obtain ⟨u,rfl,rx⟩:=vals1 r;have hl:=kg;have hs:sizeLine=16777216:=sizeLine_eq;cases x with
 | str y =>
   obtain ⟨t,rfl⟩:=rx;obtain ⟨hy,e'⟩:y.length≤sizeLine∧n=y.length:=e;subst e';exact len_str (by omega) ⟨.int _,H,I.tok _,⟨_,rfl⟩,q⟩
 | byt y =>
   obtain ⟨t,rfl⟩:=rx;obtain ⟨hy,e'⟩:y.size≤sizeLine∧n=y.size:=e;subst e';exact W.len_bytes (by omega) ⟨.int _,H,I.tok _,⟨_,rfl⟩,q⟩
 | ref p =>
   cases rx
   have e':(∃ xs,aA X.K H p xs∧n=xs.length)∨∃ xs,aZ X.K H p xs∧n=xs.length:=e;rcases e' with ⟨xs,hx,e'⟩ | ⟨xs,hx,e'⟩
   · subst e';obtain ⟨its,r',pl,hz⟩:=I.list hx;have hlen:=r'.length;exact Calls.call_len_list pl.isList (by simp only [List.size_toArray];omega) ⟨.int xs.length,H,I.tok _,⟨_,by simp only [List.size_toArray];rw [hlen]⟩,q⟩
   · subst e';obtain ⟨its,r',pl,hz⟩:=I.tuple hx;have hlen:=r'.length;exact len_tuple pl (by simp only [List.size_toArray];omega) ⟨.int xs.length,H,I.tok _,⟨_,by simp only [List.size_toArray];rw [hlen]⟩,q⟩
 | _=>exact (show False from e).elim
end
end L2
namespace L2
open PySem PySem.Spec PyProof.Rows
structure oO (h:Heap) (x dx C:Addr) (mA:Str→Option Value):Prop where
 obj:h.get? x=some (W.instObj C dx)
 ns:h.Ns1 dx mA
 ne:dx≠x
theorem AL {h:Heap} {dx:Addr} {mA:Str→Option Value} (n:h.Ns1 dx mA):∃ od,h.get? dx=some od∧∀ name,W.lookIn name od=some (mA name):=by
 obtain ⟨o,es,ep,ho,hd,hk,_,hm⟩:=n;refine ⟨o,ho,fun name=>?_⟩;have e:=hm name;unfold nsFind findBy at e;rw [← Array.find?_toList] at e;unfold W.lookIn;rw [hd];dsimp only;split
 · rename_i y q;rw [q] at e;exact congrArg some e
 · rename_i q;rw [q] at e;have a:es.toList.any (·.refKey)=false:=by
     rw [List.any_eq_false];intro y hy;obtain ⟨z,t,hkey⟩:=hk y (Array.mem_toList_iff.mp hy);simp [DictEntry.refKey,hkey]
   have a' : ¬ es.toList.any (·.refKey)=true:=by rw [a];exact Bool.false_ne_true
   rw [if_neg a'];exact congrArg some e
theorem oO.look {h:Heap} {x dx C:Addr} {mA:Str→Option Value} (I:oO h x dx C mA):∃ od,W.InstAt h x (W.instObj C dx) C (some od)∧∀ name,W.lookIn name od=some (mA name) :=
 let ⟨od,ho,hl⟩:=AL I.ns
 ⟨od,⟨I.obj,rfl,rfl,ho⟩,hl⟩
section
variable {prog:Program} {w:World} {A:Around} {E:Value→Shared→Prop} {s:Shared} {K:W.Frag} {x dx C f:Addr} {mA:Str→Option Value} {name:Str} {v:Value}
theorem get_map {expr : Bool} {Q : Value → Shared → Prop} (X : K.In s.heap) (I : oO s.heap x dx C mA) (hg : W.plainGet K C name = true) (hh : W.hasDictIn K C = true)
   (ha:W.findIn K (.ref C) name=some none) (hv:mA name=some v) (hv':W.handedIn v=true) (h:Q v { s with toks:=s.toks+1 }) :
   wpAny (model prog w) A (getAttr (.ref x) name expr) Q E s:=by
 obtain ⟨od,J,hl⟩:=I.look;exact W.get_value X J (W.plainGet_of hg).1 (W.findObj_own hh ha rfl (by rw [hl,hv])) hv' h
theorem Ca {pl : Sem Bool} {Q : Value × List Value → Shared → Prop} (X : K.In s.heap) (I : oO s.heap x dx C mA) (hg : W.plainGet K C name = true)
   (hf:W.findIn K (.ref C) name=some (some (.ref f))) (ht:W.isFn K (.ref f)=true) (hv:mA name=none) (h:Q (.ref f,[.ref x]) s) :
   wpAny (model prog w) A (getMethod (.ref x) name pl) Q E s:=by
 obtain ⟨od,J,hl⟩:=I.look;exact W.method_fn X J (W.plainGet_of hg).1 (W.plainGet_of hg).2 hf (beq_iff_eq.mp ht) (by show (W.lookIn name od).map (·.isSome)=some false;rw [hl,hv];rfl) h
theorem mH {ns : List Str} {Q : Unit → Shared → Prop} (X : K.In s.heap) (I : oO s.heap x dx C mA)
   (hs:W.findIn K (.ref C) "__setattr__" = some (some (.builtin "object.__setattr__"))) (hp:W.plainOver K C=true) (ht:W.takerIn K C name=some none) (hh:W.hasDictIn K C=true)
   (hw:PySem.Within mA ns) (hsz:ns.length≤sizeLine)
   (h:∀ h',oO h' x dx C (fun y=>if y=name then some v else mA y)→Heap.SameBut dx s.heap h'→Q () { s with heap:=h',toks:=s.toks+2 }) :
   wpAny (model prog w) A (setAttr (.ref x) name v) Q E s:=by
 obtain ⟨od,J,hl⟩:=I.look;refine W.set_plain X J hs (W.osa_open (s:={ s with toks:=s.toks+1 }) (r:=none) X J hp ht fun b=>?_);obtain ⟨cd,hc,hd'⟩:=W.any_some hh;have hx:s.heap.get? x=some ⟨.ref C,some dx,.plain,#[]⟩:=I.obj;refine wpAny_bind (wpAny_pure (wpAny_bind (wpAny_bind (wpAny_loadPart hx (wpAny_bind (W.Looks.here (s:={ s with toks:=s.toks+1 }) (W.looks_clsIn X hc) ?_))))));rw [hd'];refine wpAny_pure (a:=some dx) (wpAny_bind (wpAny_pure (wpAny_bind ?_)));refine wpAny_nsSet1 (s:={ s with toks:=s.toks+1 }) I.ns fun h' hn2 hs2=>?_;obtain ⟨oD,esD,epD,hoD,hdD,hcD⟩:=hn2.count (PySem.Within.cons name v hw);refine wpAny_bind (wpAny_lookBehind hoD (by rw [hdD];exact pastItsLine_dict (Nat.le_trans hcD (by rw [List.length_cons];omega))) ?_);exact wpAny_pure (h _ ⟨(hs2.2 _ (Ne.symm I.ne)).trans I.obj,hn2,I.ne⟩ hs2)
theorem BH {R : Result → Shared → Prop} {vs : List Value} {kw : List (Str × Value)} (X : K.In s.heap) (hm : W.makesIn K C = true)
   (hi:W.findIn K (.ref C) "__init__" = some (some (.ref f))) (hf:W.typeIn K (.ref f)=some (.type "function"))
   (h : codeAny (model prog w) (A.under (.builtin "type.__call__" ⟨.ref C :: vs, kw⟩)) (.call (.ref f) ⟨.ref (s.heap.objs.size + 1) :: vs, kw⟩) (W.InitBack (s.heap.objs.size + 1) R)
     { s with heap:=(s.heap.push W.emptyDict).push (W.instObj C s.heap.objs.size) }) :
   codeAny (model prog w) A (.call (.ref C) ⟨vs,kw⟩) R s:=by
 obtain ⟨hh,g,d,t,os⟩:=s;exact W.make_core (W.makes_of X hm) (W.looks_findIn X hi) (fun self=>W.bind_fn X self hf) (.inl rfl) h
end
def aL (f : Str) (v : V) : List (Str × V) → List (Str × V)
 | []=>[(f,v)]
 | (g,x)::r=>if g=f then (g,v)::r else (g,x)::aL f v r
theorem fO (f g : Str) (v : V) : ∀ fs : List (Str × V), (aL f v fs).lookup g = if g = f then some v else fs.lookup g
 | [] => by
   show List.lookup g [(f,v)]=_;by_cases h:g=f
   · have hb : (g == f) = true := beq_iff_eq.mpr h;simp only [List.lookup,hb,if_pos h]
   · have hb : (g == f) = false := beq_eq_false_iff_ne.mpr h;simp only [List.lookup,hb,if_neg h]
 | (k, x) :: r => by
   have ih:=fO f g v r;rw [show aL f v ((k,x)::r)=(if k=f then (k,v)::r else (k,x)::aL f v r) from rfl];by_cases hk:k=f
   · rw [if_pos hk];by_cases h:g=k
     · have hb : (g == k) = true := beq_iff_eq.mpr h;simp only [List.lookup,hb,if_pos (h.trans hk)]
     · have hb : (g == k) = false := beq_eq_false_iff_ne.mpr h;simp only [List.lookup,hb,if_neg (fun e:g=f=>h (e.trans hk.symm))]
   · rw [if_neg hk];by_cases h:g=k
     · have hb : (g == k) = true := beq_iff_eq.mpr h;simp only [List.lookup,hb,if_neg (fun e:g=f=>hk (h.symm.trans e))]
     · have hb : (g == k) = false := beq_eq_false_iff_ne.mpr h;simp only [List.lookup,hb];exact ih
theorem lL (f : Str) (v : V) : ∀ fs : List (Str × V), f ∈ (aL f v fs).map (·.1) ∧ ∀ g, g ∈ fs.map (·.1) → g ∈ (aL f v fs).map (·.1)
 | []=>⟨by simp [aL],fun g h=>by simp at h⟩
 | (k, x) :: r => by
   obtain ⟨i1,i2⟩:=lL f v r;rw [show aL f v ((k,x)::r)=(if k=f then (k,v)::r else (k,x)::aL f v r) from rfl];by_cases hk:k=f
   · rw [if_pos hk];subst hk;exact ⟨by simp,fun g h=>by simpa using h⟩
   · rw [if_neg hk];refine ⟨?_,fun g h=>?_⟩
     · rw [List.map_cons];exact List.mem_cons_of_mem _ i1
     · rw [List.map_cons] at h ⊢;rcases List.mem_cons.mp h with e | e
       · exact List.mem_cons.mpr (.inl e)
       · exact List.mem_cons_of_mem _ (i2 g e)
theorem jJ (f : Str) (v : V) : ∀ fs : List (Str × V), (aL f v fs).length ≤ fs.length + 1
 | []=>by simp [aL]
 | (k, x) :: r => by
   have ih:=jJ f v r;rw [show aL f v ((k,x)::r)=(if k=f then (k,v)::r else (k,x)::aL f v r) from rfl];by_cases hk:k=f
   · rw [if_pos hk,List.length_cons,List.length_cons];omega
   · rw [if_neg hk,List.length_cons,List.length_cons];omega
theorem fg.some_of {v:V} {o:Option Value} (r:fg (some v) o):∃ u,o=some u∧RelV v u:=by
 cases o with
 | none=>exact (show False from r).elim
 | some u=>exact ⟨u,rfl,r⟩
theorem fg.none_of {o:Option Value} (r:fg none o):o=none:=by
 cases o with
 | none=>rfl
 | some u=>exact (show False from r).elim
theorem Be {v:V} {u:Value} (r:RelV v u):W.handedIn u=true:=by
 cases v with
 | aR=>cases (show u=Value.none from r);rfl
 | bl b=>cases (show u=Value.bool b from r);rfl
 | int i=>obtain ⟨t,e⟩:=(show ∃ t,u=Value.int i t from r);cases e;rfl
 | str x=>obtain ⟨t,e⟩:=(show ∃ t,u=Value.str x t from r);cases e;rfl
 | byt b=>obtain ⟨t,e⟩:=(show ∃ t,u=Value.bytes b t from r);cases e;rfl
 | uP b=>obtain ⟨t,e⟩:=(show ∃ t,u=Value.float b t from r);cases e;rfl
 | ref a=>cases (show u=Value.ref a from r);rfl
 | ty n=>cases (show u=Value.type n from r);rfl
section
variable {P:Program} {w:World} {H H':Hp} {h h':Heap} {a C dx:Addr} {fs fs':List (Str×V)}
theorem mK (aG:dA P w H h) (e:H a=some (.ins C dx fs)):∃ mA,oO h a dx C mA∧(∀ f,fg (fs.lookup f) (mA f))∧PySem.Within mA (fs.map (·.1))∧fs.length≤1000∧H dx=some (.own a):=by
 obtain ⟨d,z,ne,ob,mA,n,r,q⟩:=(show cu P w H h a (.ins C dx fs) from aG a _ e)
 exact ⟨mA,⟨ob,n,ne⟩,r,q,z,d⟩
end
structure eo (K:W.Frag) (C:Addr):Prop where
 pg:W.plainGet K C Str.empty=true
 hd:W.hasDictIn K C=true
 po:W.plainOver K C=true
 sa:W.findIn K (.ref C) "__setattr__" = some (some (.builtin "object.__setattr__"))
theorem eo.get {K:W.Frag} {C:Addr} (c:eo K C) (f:Str):W.plainGet K C f=true:=c.pg
def bL (K:W.Frag) (C:Addr) (f:Str):Prop:=W.findIn K (.ref C) f=some none
theorem bL.Qa {K:W.Frag} {C:Addr} {f:Str} (n:bL K C f):W.takerIn K C f=some none:=by
 unfold W.takerIn;rw [show W.findIn K (.ref C) f=some none from n];rfl
structure vH (K:W.Frag) (C:Addr) (m:Str) (f:Addr):Prop where
 at_:W.findIn K (.ref C) m=some (some (.ref f))
 fn:W.isFn K (.ref f)=true
 kp:W.keepIn K (.ref f)=true
section
variable {X:Cx} {pins:List (Addr×Obj)} {σ : St} {H:Hp} {s:Shared} {a C dx:Addr} {fs:List (Str×V)} {f:Str} {v:V} {A:Around} {E:Value→Shared→Prop}
theorem yr {b : Bool} {Q : Value → Shared → Prop} (I : Inv X pins σ H s) (e : H a = some (.ins C dx fs)) (c : eo X.K C) (n : bL X.K C f) (l : fs.lookup f = some v)
   (h:∀ u s',Inv X pins σ H s'→RelV v u→Q u s'):wpAny (model X.prog X.w) A (getAttr (.ref a) f b) Q E s:=by
 obtain ⟨mA,O,r,_,_,_⟩:=mK I.aG e;obtain ⟨u,hu,ru⟩:=fg.some_of (v:=v) (o:=mA f) (by rw [← l];exact r f);exact get_map I.el O (c.get f) c.hd n hu (Be ru) (h u _ (I.tok _) ru)
theorem x8 {m : Str} {g : Addr} {pl : Sem Bool} {Q : Value × List Value → Shared → Prop} (I : Inv X pins σ H s) (e : H a = some (.ins C dx fs)) (c : eo X.K C) (k : vH X.K C m g) (l : fs.lookup m = none)
   (h:Q (.ref g,[.ref a]) s):wpAny (model X.prog X.w) A (getMethod (.ref a) m pl) Q E s:=by
 obtain ⟨mA,O,r,_,_,_⟩:=mK I.aG e;have hn:mA m=none:=fg.none_of (by rw [← l];exact r m);exact Ca I.el O (c.get m) k.at_ k.fn hn h
theorem yu {y : V} {u : Value} {Q : Unit → Shared → Prop} (I : Inv X pins σ H s) (e : H a = some (.ins C dx fs)) (c : eo X.K C) (n : bL X.K C f) (hl : fs.length < 1000) (ry : RelV y u)
   (h:∀ s',Inv X pins σ (upd H a (.ins C dx (aL f y fs))) s'→Q () s'):wpAny (model X.prog X.w) A (setAttr (.ref a) f u) Q E s:=by
 obtain ⟨mA,O,r,wi,_,ho⟩:=mK I.aG e;have hz:(fs.map (·.1)).length≤sizeLine:=by rw [List.length_map,sizeLine_eq];omega
 refine mH I.el O c.sa c.po n.Qa c.hd wi hz fun h' O' sb=>h _ ?_;have hd:∃ o,h'.get? dx=some o:=let ⟨o,_,_,e',_⟩:=O'.ns;⟨o,e'⟩;refine I.write (x:=a) (e:=dx) (by rw [e];exact True.intro) (.inr ho) (fun b q hb z=>(sb.2 b hb).trans z) hd ?_;refine ⟨by rw [aw O.ne];exact ho,?_,O.ne,O'.obj,_,O'.ns,fun g=>?_,fun g hg=>?_⟩
 · have:=jJ f y fs;omega
 · show fg ((aL f y fs).lookup g) (if g = f then some u else mA g);rw [fO];by_cases q:g=f
   · rw [if_pos q,if_pos q];exact ry
   · rw [if_neg q,if_neg q];exact r g
 · by_cases q : g = f
   · rw [q];exact (lL f y fs).1
   · refine (lL f y fs).2 g (wi g fun z => hg ?_);show (if g=f then some u else mA g)=none;rw [if_neg q];exact z
theorem Inv.made (I : Inv X pins σ H s) : Inv X pins σ (upd (upd H s.heap.objs.size (.own (s.heap.objs.size + 1))) (s.heap.objs.size + 1) (.ins C s.heap.objs.size []))
   { s with heap:=(s.heap.push W.emptyDict).push (W.instObj C s.heap.objs.size) }:=by
 have e1:(s.heap.push W.emptyDict).get? s.heap.objs.size=some W.emptyDict:=Heap.get?_push_size s.heap rfl;have e2:((s.heap.push W.emptyDict).push (W.instObj C s.heap.objs.size)).get? (s.heap.objs.size+1)=some (W.instObj C s.heap.objs.size):=by
   have:=Heap.get?_push_size (s.heap.push W.emptyDict) (o:=W.instObj C s.heap.objs.size) rfl
   rwa [Heap.size_push] at this
 have e3:(s.heap.push W.emptyDict).Ns s.heap.objs.size (fun _=>none):=⟨W.emptyDict,#[],_,e1,rfl,(fun e he=>absurd he (by simp)),fun _=>rfl⟩
 have I1:=I.laid (a:=s.heap.objs.size) (o:=.own (s.heap.objs.size+1)) (h':=s.heap.push W.emptyDict) (t':=s.toks) (fun b u q=>Heap.get?_push_of_some _ q) (Nat.le_refl _) ⟨_,e1⟩;refine I1.laid (a:=s.heap.objs.size+1) (o:=.ins C s.heap.objs.size []) (t':=s.toks) (fun b u q=>Heap.get?_push_of_some _ q) (Nat.le_of_eq (Heap.size_push _ _)) ?_;have ne:s.heap.objs.size≠s.heap.objs.size+1:=Nat.ne_of_lt (Nat.lt_succ_self _);refine ⟨by rw [aw ne,ae],Nat.zero_le _,ne,e2,fun _=>none,(Heap.Ns1.of_empty e3).at fun o q=>Heap.get?_push_of_some _ q,fun _=>True.intro,fun y hy=>absurd rfl hy⟩
theorem EL {prog : Program} {w : World} {env : Env} {e : Expr} {f : Str} {pos : Pos} {s : Shared} {Q : Value → Shared → Prop} (hb : attributeBase e f env (eval e env) = eval e env)
   (h:wpAny (model prog w) A (eval e env) (fun o s₁=>wpAny (model prog w) A (getAttr o f true) Q E s₁) E s):wpAny (model prog w) A (eval (.Attribute e f pos) env) Q E s :=
 Attribute_any_ h (by rw [arm_eval_Attribute,hb])
end
def l6 (K:W.Frag) (ta:TE) (f:Str):TE:=fun σ H Q=>ta σ H fun x H1=>∃ a C dx fs v,x=.ref a∧H1 a=some (.ins C dx fs)∧eo K C∧bL K C f∧fs.lookup f=some v∧Q v H1
def BS (K : W.Frag) (ta tv : TE) (f : Str) : TS := fun D σ H => tv σ H fun y H1 => ta σ H1 fun x H2 => ∃ a C dx fs, x = .ref a ∧ H2 a = some (.ins C dx fs) ∧ eo K C ∧ bL K C f ∧ fs.length < 1000 ∧
 D.nx σ (upd H2 a (.ins C dx (aL f y fs)))
section
variable {X:Cx} {o e value:Expr} {f:Str} {pos pos' tpos:Pos} {ta tv:TE}
theorem Gh (he:PE X e ta) (hb:attributeBase e f X.env (eval e X.env)=eval e X.env):PE X (.Attribute e f pos) (l6 X.K ta f):=by
 intro pins s σ H Q I h;refine EL hb (br (he pins s σ H _ I h) fun u s1 ⟨x,H1,I1,rx,a,C,dx,fs,v,ex,ea,c,n,l,q⟩=>?_);subst ex;obtain rfl:u=Value.ref a:=rx;exact yr I1 ea c n l fun u' s2 I2 ru=>⟨v,H1,I2,ru,q⟩
theorem Gm (ha:PE X o ta) (hv:PE X value tv) (hs:swapsWith value (some (.Attribute o f pos')) pos.line X.env=pure false):PS X (.Assign [.Attribute o f pos'] value pos) (BS X.K ta tv f):=by
 intro pins s σ H D I h;refine plainObj_wpAny_Assign_Attribute (br (hv pins s σ H _ I h) fun u s1 ⟨y,H1,I1,ry,q⟩=>br (ha pins s1 σ H1 _ I1 q) fun ov s2 ⟨x,H2,I2,rx,a,C,dx,fs,ex,ea,c,n,l,q2⟩=>?_) hs;subst ex;obtain rfl:ov=Value.ref a:=rx;exact yu I2 ea c n l ry fun s3 I3=>⟨σ,_,I3,q2⟩
end
section
variable {X:Cx} {pins:List (Addr×Obj)} {σ : St} {H:Hp} {s:Shared} {A:Around} {E:Value→Shared→Prop} {Q:Value→Shared→Prop} {c:Value} {b:Bool}
inductive ee (K:W.Frag) (H:Hp):V→Value→Prop where
 | aR:ee K H .aR (.type "NoneType")
 | bl (x:Bool):ee K H (.bl x) (.type "bool")
 | int (i:Int):ee K H (.int i) (.type "int")
 | str (x:Str):ee K H (.str x) (.type "str")
 | uP (x:UInt64):ee K H (.uP x) (.type "float")
 | lst {a:Addr} {xs:List V} (e:H a=some (.lst xs)):ee K H (.ref a) (.type "list")
 | jm {a:Addr} {o:Obj} {xs:List V} (e:H a=some (.jm o (.lst xs))):ee K H (.ref a) (.type "list")
 | tup {a:Addr} {xs:List V} (e:H a=some (.tup xs)):ee K H (.ref a) (.type "tuple")
 | dK {a:Addr} {kvs:List (Key×V)} (e:H a=some (.dK kvs)):ee K H (.ref a) (.type "dict")
 | dT {a:Addr} {kvs:List (List Key×V)} (e:H a=some (.dT kvs)):ee K H (.ref a) (.type "dict")
 | ins {a C dx : Addr} {fs : List (Str × V)} (e : H a = some (.ins C dx fs)) (cl : eo K C) (ha : W.findIn K (.ref C) "__class__" = some (some (.builtin "object.__class__")))
     (hn:W.specialIn K (.builtin "object.__class__") "__get__" = some (some (.builtin "getset_descriptor.__get__"))) (htk:W.takesIn K (.builtin "object.__class__")=some true)
     (hm:W.mroIn K C (.type "object")=some true):ee K H (.ref a) (.ref C)
theorem Bu {x : V} {u t : Value} (I : Inv X pins σ H s) (rx : RelV x u) (ty : ee X.K H x t) (e : W.kitOne X.K t c = some b) (h : ∀ tk, Q (.bool b) { s with toks := tk }) :
   wpAny (model X.prog X.w) A (call (.builtin "isinstance") [u,c]) Q E s:=by
 cases ty with
 | aR=>cases (show u=Value.none from rx);exact W.kia_one W.kitx_none I.el True.intro e (fun z=>nomatch z) h
 | bl y=>cases (show u=Value.bool y from rx);exact W.kia_one W.kitx_bool I.el True.intro e (fun z=>nomatch z) h
 | int i=>obtain ⟨t,q⟩:=(show ∃ t,u=Value.int i t from rx);cases q;exact W.kia_one W.kitx_int I.el True.intro e (fun z=>nomatch z) h
 | str y=>obtain ⟨t,q⟩:=(show ∃ t,u=Value.str y t from rx);cases q;exact W.kia_one W.kitx_str I.el True.intro e (fun z=>nomatch z) h
 | uP y=>obtain ⟨t,q⟩:=(show ∃ t,u=Value.float y t from rx);cases q;exact W.kia_one W.kitx_float I.el True.intro e (fun z=>nomatch z) h
 | @lst a xs ea =>
   cases (show u=Value.ref a from rx)
   obtain ⟨_,_,n,_,h1⟩:=(show cu X.prog X.w H s.heap a (.lst xs) from I.aG a _ ea)
   exact W.kia_one W.kitx_list I.el ⟨_,h1,rfl⟩ e (fun z=>nomatch z) h
 | @jm a ob xs ea =>
   cases (show u=Value.ref a from rx)
   obtain ⟨_,_,_,n,_,h1⟩:=(show cu X.prog X.w H s.heap a (.jm ob (.lst xs)) from I.aG a _ ea)
   exact W.kia_one W.kitx_list I.el ⟨_,h1,rfl⟩ e (fun z=>nomatch z) h
 | @tup a xs ea =>
   cases (show u=Value.ref a from rx)
   obtain ⟨_,_,_,p⟩:=(show cu X.prog X.w H s.heap a (.tup xs) from I.aG a _ ea)
   obtain ⟨o,h1,h2,_⟩:=p;exact W.kia_one W.kitx_tuple I.el ⟨o,h1,h2⟩ e (fun z=>nomatch z) h
 | @dK a kvs ea =>
   cases (show u=Value.ref a from rx)
   obtain ⟨_,_,vs,_,p⟩:=(show cu X.prog X.w H s.heap a (.dK kvs) from I.aG a _ ea)
   obtain ⟨o,es,ep,h1,h2,_⟩:=p;exact W.kia_one W.kitx_dict I.el ⟨o,h1,h2.1⟩ e (fun z=>nomatch z) h
 | @dT a kvs ea =>
   cases (show u=Value.ref a from rx)
   obtain ⟨_,_,xs,_,o,es,ep,h1,h2,_⟩:=(show cu X.prog X.w H s.heap a (.dT kvs) from I.aG a _ ea)
   exact W.kia_one W.kitx_dict I.el ⟨o,h1,h2.1⟩ e (fun z=>nomatch z) h
 | @ins a C dx fs ea cl ha hn htk hm =>
   cases (show u=Value.ref a from rx)
   obtain ⟨mA,O,_⟩:=mK I.aG ea;obtain ⟨od,J,_⟩:=O.look;exact W.kia_one (W.kitx_own (cl.get _) cl.hd ha hn htk hm) I.el J e (fun z=>nomatch z) h
end
end L2
namespace L2
open PySem PySem.Spec PyProof.Rows
structure cF (k:Nat) (A:Around):Prop where
 hd:A.handled=none
 dp:A.depth+1*k+5<recursionLimit
 un:A.units+16*k+200<cLine
 gd:A.guards=some []
theorem cF.mono {j k:Nat} {A:Around} (r:cF k A) (h:j≤k):cF j A:=⟨r.hd,by have:=r.dp;omega,by have:=r.un;omega,r.gd⟩
theorem cF.deeper {k:Nat} {A:Around} (r:cF (k+1) A) (env:Env):cF k (A.deeper env) :=
 ⟨r.hd,by have:=r.dp;show A.depth+1+1*k+5<_;omega,by have:=r.un;show A.units+3+16*k+200<_;omega,r.gd⟩
theorem yT {A:Around} {C:Addr} {us:List Value} {kw:List (Str×Value)}:(A.under (.builtin "type.__call__" ⟨.ref C::us,kw⟩)).depth=A.depth+1:=by
 first | rfl | simp [Around.under,Code.weight,Code.isCreation,Code.isGuard,Code.isCaller,Code.frames,Code.isFrame,guardIds]
theorem y9 {A:Around} {C:Addr} {us:List Value} {kw:List (Str×Value)}:(A.under (.builtin "type.__call__" ⟨.ref C::us,kw⟩)).units=A.units+1:=by
 first | rfl | simp [Around.under,Code.cUnits,Code.frames,Code.isFrame]
theorem wL {A:Around} {C:Addr} {us:List Value} {kw:List (Str×Value)}:(A.under (.builtin "type.__call__" ⟨.ref C::us,kw⟩)).guards=A.guards:=by
 have e:(Code.builtin "type.__call__" ⟨.ref C::us,kw⟩).guards=[]:=by first | rfl | simp [Code.guards,Code.isGuard,guardIds]
 simp only [Around.under,e,pushGuards]
theorem cF.make {k:Nat} {A:Around} (r:cF (k+1) A) (C:Addr) (us:List Value) (kw:List (Str×Value)):cF k (A.under (.builtin "type.__call__" ⟨.ref C::us,kw⟩)) :=
 ⟨r.hd,by have:=r.dp;rw [yT];omega,by have:=r.un;rw [y9];omega,by rw [wL];exact r.gd⟩
theorem cF.depth {k:Nat} {A:Around} (r:cF k A):A.depth<recursionLimit:=by have:=r.dp;omega
theorem cF.units {k:Nat} {A:Around} (r:cF k A):A.units+64<cLine:=by have:=r.un;omega
def cZ:TA:=fun _ H Q=>Q [] H
def bO (ta:TE) (tr:TA):TA:=fun σ H Q=>ta σ H fun x H1=>tr σ H1 fun xs H2=>Q (x::xs) H2
section
variable {X:Cx} {e:Expr} {es:List Expr} {te:TE} {t:TA} {pos:Pos}
theorem ag:PA X [] cZ:=fun _ _ _ _ H Q I h=>Calls.spliced_nil ⟨[],H,I,.nil,h⟩
theorem aa (ha:PE X e te) (hr:PA X es t) (hs:starEach (e::es) X.env=(false,eval e X.env)::starEach es X.env:=by rfl):PA X (e::es) (bO te t):=by
 intro pos pins s σ H Q I h;rw [hs];show wpAny _ _ (spliced ((false,eval e X.env)::backTo pos (starEach es X.env))) _ _ s;refine Calls.spliced_cons (br (ha pins s σ H _ I h) fun u s1 ⟨x,H1,I1,r1,q1⟩=>?_);exact br (hr pos pins s1 σ H1 _ I1 q1) fun us s2 ⟨xs,H2,I2,r2,q2⟩=>⟨x::xs,H2,I2,.cons r1 r2,q2⟩
def Gs (t:TA):TE:=fun σ H Q=>t σ H fun xs H1=>xs.length≤sizeLine∧∀ p,H1 p=none→Q (.ref p) (upd H1 p (.tup xs))
def uv (t:TA):TE:=fun σ H Q=>t σ H fun xs H1=>xs.length≤sizeLine∧∀ p,H1 p=none→Q (.ref p) (upd H1 p (.lst xs))
theorem aV {x1} (h:PA X es t):PE X (.Tuple es x1 pos) (Gs t):=by
 intro pins s σ H Q I hq;refine wpAny_Tuple_spliced (br (h pos pins s σ H _ I hq) fun us s1 ⟨xs,H1,I1,r,z,q⟩=>⟨by rw [← r.length];exact z,?_⟩);have hf:H1 s1.heap.objs.size=none:=I1.aG.fresh (Nat.le_refl _);refine ⟨.ref s1.heap.objs.size,upd H1 s1.heap.objs.size (.tup xs),I1.laid (t':=s1.toks) (fun b u e=>Heap.get?_push_of_some _ e) (Nat.le_refl _) ?_,rfl,q _ hf⟩;exact ⟨z,us,r,⟨_,Heap.get?_push_size _ rfl,rfl,_,rfl⟩⟩
theorem aW (h:PA X es t):PE X (.List es pos) (uv t):=by
 intro pins s σ H Q I hq;refine wpAny_List_spliced (br (h pos pins s σ H _ I hq) fun us s1 ⟨xs,H1,I1,r,z,q⟩=>⟨by rw [← r.length];exact z,?_⟩);have hf:H1 s1.heap.objs.size=none:=I1.aG.fresh (Nat.le_refl _);refine ⟨.ref s1.heap.objs.size,upd H1 s1.heap.objs.size (.lst xs),I1.laid (t':=s1.toks) (fun b u e=>Heap.get?_push_of_some _ e) (Nat.le_refl _) ?_,rfl,q _ hf⟩;exact ⟨z,us,0,r,Heap.get?_push_size _ rfl⟩
end
abbrev Sp:=List V→Hp→VK→XK→Prop
abbrev eh:=List Env→Hp→Shared→XK→Value→Shared→Prop
structure oJ (P:Program) (w:World) (K:W.Frag) (mg:Str→Option Value) (base:Heap) (A:Around) (outer:List Env) (s:Shared) (H:Hp):Prop where
 frames:A.frames=some outer
 mod:Mod K mg base
 bs:∀ b o,base.get? b=some o→s.heap.get? b=some o∧H b=none
 nS:base.objs.size≤s.heap.objs.size
 gy:s.heap.FunFrames base outer
 qg:∀ b∈d0 outer,H b=none
 aG:dA P w H s.heap
 bare:AllBare s.gens
def CE (outer:List Env) (P:Program) (w:World) (H:Hp) (s:Shared) (Q:VK) (u:Value) (s':Shared):Prop :=
 ∃ v H',s'.os=s.os∧AllBare s'.gens∧Un (d0 outer) [] H H' s.heap s'.heap∧dA P w H' s'.heap∧RelV v u∧Q v H'
def CR (CX:eh) (outer:List Env) (P:Program) (w:World) (H:Hp) (s:Shared) (Q:VK) (E:XK) (r:Result) (s':Shared):Prop :=
 match r with
 | .ok (.ret u)=>CE outer P w H s Q u s'
 | .ok _=>False
 | .error e=>CX outer H s E e s'
structure eg (P:Program) (w:World) (K:W.Frag) (mg:Str→Option Value) (base:Heap) (CX:eh) (k:Nat) (f:Addr) (fd:FuncData) (ps:List Str) (sp:Sp):Prop where
 len:∀ vs H Q E,sp vs H Q E→vs.length=ps.length
 run : ∀ (A : Around) (outer : List Env) (s : Shared) (H : Hp) (args : Args) (us : List Value) (vs : List V) (Q : VK) (E : XK), cF k A → oJ P w K mg base A outer s H → BindsTo s fd args (ps.zip us) → a_ vs us → sp vs H Q E →
   codeAny (model P w) A (.call (.ref f) args) (CR CX outer P w H s Q E) s
theorem eg.mono {P : Program} {w : World} {K : W.Frag} {mg : Str → Option Value} {base : Heap} {CX : eh} {j k : Nat} {f : Addr} {fd : FuncData} {ps : List Str} {sp : Sp} (F : eg P w K mg base CX j f fd ps sp) (h : j ≤ k) :
   eg P w K mg base CX k f fd ps sp:=⟨F.len,fun A outer s H args us vs Q E hr=>F.run A outer s H args us vs Q E (hr.mono h)⟩
theorem oJ.make {P : Program} {w : World} {K : W.Frag} {mg : Str → Option Value} {base : Heap} {A : Around} {outer : List Env} {s : Shared} {H : Hp} (e : oJ P w K mg base A outer s H) (C : Addr) (us : List Value) (kw : List (Str × Value)) :
   oJ P w K mg base (A.under (.builtin "type.__call__" ⟨.ref C::us,kw⟩)) outer s H:=⟨by first | exact e.frames | (simpa [Around.under,Code.envs,Code.isFrame,pushEnvs] using e.frames),e.mod,e.bs,e.nS,e.gy,e.qg,e.aG,e.bare⟩
section
variable {X:Cx} {pins:List (Addr×Obj)} {σ : St} {H:Hp} {s s':Shared}
theorem Inv.BI (I:Inv X pins σ H s):oJ X.prog X.w X.K X.mg X.base X.A X.stack s H :=
 ⟨I.ok.frames,I.ok.mod,I.bs,Nat.le_trans I.ok.nS I.sz,I.stack,I.mS,I.aG,I.bare⟩
theorem Inv.after {Q:VK} {u:Value} (I:Inv X pins σ H s) (h:CE X.stack X.prog X.w H s Q u s'):EP X pins σ Q u s':=by
 obtain ⟨v,H',os,bare,un,aG,r,q⟩:=h;obtain ⟨hh,g,d,t,os'⟩:=s';obtain rfl:os'=s.os:=os;exact ⟨v,H',I.call (h':=hh) (g':=g) (d':=d) (t':=t) (ch:=[]) un aG bare (fun b z=>absurd z (by simp)),r,q⟩
end
def Dk (sp:Sp) (dvs:List V) (E:XK) (t:TA):TE:=fun σ H Q=>t σ H fun vs H1=>sp (vs++dvs) H1 Q E
def C0 (C : Addr) (sp : Sp) (dvs : List V) (E : XK) (t : TA) : TE := fun σ H Q => t σ H fun vs H1 => ∀ x dx, H1 x = none → H1 dx = none → dx ≠ x →
 sp (.ref x::(vs++dvs)) (upd (upd H1 dx (.own x)) x (.ins C dx [])) (fun v H2=>v=.aR∧Q (.ref x) H2) E
def Binds (K:W.Frag) (fd:FuncData) (ps:List Str) (ds:List Value):Prop :=
 ∀ (s:Shared) (us:List Value),K.In s.heap→(us++ds).length=ps.length→BindsTo s fd ⟨us,[]⟩ (ps.zip (us++ds))
theorem Binds.all {K:W.Frag} {fd:FuncData} {ps:List Str} (h:∀ us:List Value,us.length=ps.length→bindArgs fd ⟨us,[]⟩=pure (ps.zip us)):Binds K fd ps []:=fun s us _ hl=>by
 rw [List.append_nil] at hl ⊢;exact .of_eq (h us hl)
def fM (CX:eh) (X:Cx) (E:XK):Prop:=∀ (pins:List (Addr×Obj)) (σ : St) (H:Hp) (s:Shared) (e:Value) (s':Shared),Inv X pins σ H s→CX X.stack H s E e s'→X.xe e s'
section
variable {X:Cx} {CX:eh} {k:Nat} {f C:Addr} {fd:FuncData} {ps:List Str} {sp:Sp} {dvs:List V} {ds:List Value} {E:XK} {x m:Str} {p pos apos:Pos} {e o:Expr} {es:List Expr} {ta:TE} {t:TA}
theorem zG {pins : List (Addr × Obj)} {σ : St} {H : Hp} {s : Shared} {Q : VK} {us : List Value} {vs : List V} (F : eg X.prog X.w X.K X.mg X.base CX k f fd ps sp) (hr : cF k X.A) (hb : Binds X.K fd ps ds) (hd : a_ dvs ds) (hx : fM CX X E)
   (I:Inv X pins σ H s) (r:a_ vs us) (h:sp (vs++dvs) H Q E):wpAny (model X.prog X.w) X.A (call (.ref f) us) (EP X pins σ Q) X.xe s:=by
 have r2:a_ (vs++dvs) (us++ds):=r.append hd;have hl:(us++ds).length=ps.length:=by rw [← r2.length];exact F.len _ _ _ _ h
 refine wpAny_call (codeAny_mono (F.run X.A X.stack s H ⟨us,[]⟩ (us++ds) (vs++dvs) Q E hr I.BI (hb s us I.el hl) r2 h) fun r s' hq=>?_);cases r with
 | error e=>exact hx pins σ H s e s' I hq
 | ok fl =>
   cases fl with
   | ret u=>exact I.after hq
   | next=>exact False.elim hq
   | brk=>exact False.elim hq
   | cont=>exact False.elim hq
theorem Ed (F : eg X.prog X.w X.K X.mg X.base CX k f fd ps sp) (hr : cF k X.A) (hg : Gl X x) (hm : X.mg x = some (.ref f)) (hk : W.keepIn X.K (.ref f) = true) (hb : Binds X.K fd ps ds) (hd : a_ dvs ds) (hx : fM CX X E)
   (ha:PA X (e::es) t) (hdb:(x == ("__debug__" : Str))=false:=by decide) (he:starEach (e::es) X.env=(false,eval e X.env)::starEach es X.env:=by rfl) (hpl:(backTo pos (starEach es X.env)).any (·.1)=false:=by rfl) :
   PE X (.Call (.Name x p) (e::es) [] pos) (Dk sp dvs E t):=by
 intro pins s σ H Q I h;refine wpAny_Call_Name_kw (iF I hg hm ?_ hdb);refine W.callWith_K (h₀:=X.base) I.ok.mod.vw hk (br (ha pos pins s σ H _ I h) fun us s1 ⟨vs,H1,I1,r,q⟩=>⟨I1.el,?_⟩) he hpl;exact zG F hr hb hd hx I1 r q
structure Mk (K:W.Frag) (C f:Addr):Prop where
 makes:W.makesIn K C=true
 init:W.findIn K (.ref C) "__init__" = some (some (.ref f))
 fn:W.isFn K (.ref f)=true
 kp:W.keepIn K (.ref C)=true
theorem Ci {pins : List (Addr × Obj)} {σ : St} {H : Hp} {s : Shared} {Q : VK} {us : List Value} {vs : List V} (M : Mk X.K C f) (F : eg X.prog X.w X.K X.mg X.base CX k f fd ps sp) (hr : cF (k + 1) X.A) (hb : Binds X.K fd ps ds) (hd : a_ dvs ds)
   (hx:fM CX X E) (I:Inv X pins σ H s) (r:a_ vs us)
   (h:∀ x dx,H x=none→H dx=none→dx≠x→sp (.ref x::(vs++dvs)) (upd (upd H dx (.own x)) x (.ins C dx [])) (fun v H2=>v=.aR∧Q (.ref x) H2) E) :
   wpAny (model X.prog X.w) X.A (call (.ref C) us) (EP X pins σ Q) X.xe s:=by
 have hq:=h (s.heap.objs.size+1) s.heap.objs.size (I.aG.fresh (Nat.le_succ _)) (I.aG.fresh (Nat.le_refl _)) (Nat.ne_of_lt (Nat.lt_succ_self _));have I2:=Inv.made (C:=C) I;have r2:a_ (V.ref (s.heap.objs.size+1)::(vs++dvs)) (Value.ref (s.heap.objs.size+1)::(us++ds)):=.cons rfl (r.append hd);have hl:(Value.ref (s.heap.objs.size+1)::us++ds).length=ps.length:=by
   have e:=r2.length;rw [F.len _ _ _ _ hq] at e;exact e.symm
 refine wpAny_call (BH (f := f) I.el M.makes M.init (beq_iff_eq.mp M.fn) (codeAny_mono (F.run _ X.stack _ _ ⟨Value.ref (s.heap.objs.size + 1) :: us, []⟩ (Value.ref (s.heap.objs.size + 1) :: (us ++ ds)) _ _ E (hr.make C us [])
   (I2.BI.make C us []) (hb _ (Value.ref (s.heap.objs.size+1)::us) I2.el hl) r2 hq) fun r s' hq'=>?_))
 cases r with
 | error e=>exact hx pins σ _ _ e s' I2 hq'
 | ok fl =>
   cases fl with
   | ret u =>
     obtain ⟨v,H',I3,rv,ev,q3⟩:=I2.after hq';subst ev;exact ⟨rv,⟨V.ref (s.heap.objs.size+1),H',I3,rfl,q3⟩⟩
   | next=>exact False.elim hq'
   | brk=>exact False.elim hq'
   | cont=>exact False.elim hq'
theorem Ek (M : Mk X.K C f) (F : eg X.prog X.w X.K X.mg X.base CX k f fd ps sp) (hr : cF (k + 1) X.A) (hg : Gl X x) (hm : X.mg x = some (.ref C)) (hb : Binds X.K fd ps ds) (hd : a_ dvs ds) (hx : fM CX X E)
   (ha:PA X (e::es) t) (hdb:(x == ("__debug__" : Str))=false:=by decide) (he:starEach (e::es) X.env=(false,eval e X.env)::starEach es X.env:=by rfl) (hpl:(backTo pos (starEach es X.env)).any (·.1)=false:=by rfl) :
   PE X (.Call (.Name x p) (e::es) [] pos) (C0 C sp dvs E t):=by
 intro pins s σ H Q I h;refine wpAny_Call_Name_kw (iF I hg hm ?_ hdb);refine W.callWith_K (h₀:=X.base) I.ok.mod.vw M.kp (br (ha pos pins s σ H _ I h) fun us s1 ⟨vs,H1,I1,r,q⟩=>⟨I1.el,?_⟩) he hpl;exact Ci M F hr hb hd hx I1 r q
end
structure aE (N P:List Str) (sc:Scope):Prop where
 kind:sc.kind=.function
 co:sc.isCoroutine=false
 gen:sc.isGenerator=false
 nd:N.Nodup
 pre:N.take P.length=P
 par:∀ x∈P,sc.names.lookup x=some .local∨sc.names.lookup x=some .cell
 G4:∀ y∈sc.names,y.2≠.free
theorem rL {kindOf : Str → Option NameKind} {x : Str} : ∀ {binds : List (Str × Value)} {m : Str → Option Value}, (∀ v, (x, v) ∉ binds) → bindL kindOf binds m x = m x
 | [],_,_=>rfl
 | (n, v) :: r, m, h => by
   unfold bindL;rw [rL fun w hw=>h w (List.mem_cons_of_mem _ hw)];split
   · have : x ≠ n := by rintro rfl; exact h v List.mem_cons_self
     simp [this]
   · rfl
theorem rT {kindOf : Str → Option NameKind} {x : Str} : ∀ {binds : List (Str × Value)} {m : Str → Option Value}, (∀ v, (x, v) ∉ binds) → bindC kindOf binds m x = m x
 | [],_,_=>rfl
 | (n, v) :: r, m, h => by
   unfold bindC;rw [rT fun w hw=>h w (List.mem_cons_of_mem _ hw)];split
   · rfl
   · have : x ≠ n := by rintro rfl; exact h v List.mem_cons_self
     simp [this]
theorem rq {kindOf : Str → Option NameKind} {x : Str} {v : Value} : ∀ {P : List Str} {vs : List Value} {i : Nat} {m : Str → Option Value}, P.Nodup → P[i]? = some x → vs[i]? = some v → kindOf x = some .local →
   bindL kindOf (P.zip vs) m x=some v
 | [],_,_,_,_,h,_,_=>by simp at h
 | _::_,[],_,_,_,_,h,_=>by simp at h
 | p :: P, w :: vs, 0, m, nd, h1, h2, hk => by
   simp at h1 h2;subst h1;subst h2;show bindL kindOf ((p,w)::P.zip vs) m p=_;unfold bindL;rw [rL fun v hv=>(List.nodup_cons.mp nd).1 (List.of_mem_zip hv).1,if_pos hk]
   simp
 | p :: P, w :: vs, i + 1, m, nd, h1, h2, hk => by
   show bindL kindOf ((p,w)::P.zip vs) m x=_;unfold bindL;exact rq (i:=i) (List.nodup_cons.mp nd).2 (by simpa using h1) (by simpa using h2) hk
theorem rl {kindOf : Str → Option NameKind} {x : Str} {v : Value} : ∀ {P : List Str} {vs : List Value} {i : Nat} {m : Str → Option Value}, P.Nodup → P[i]? = some x → vs[i]? = some v → kindOf x ≠ some .local →
   bindC kindOf (P.zip vs) m x=some v
 | [],_,_,_,_,h,_,_=>by simp at h
 | _::_,[],_,_,_,_,h,_=>by simp at h
 | p :: P, w :: vs, 0, m, nd, h1, h2, hk => by
   simp at h1 h2;subst h1;subst h2;show bindC kindOf ((p,w)::P.zip vs) m p=_;unfold bindC;rw [rT fun v hv=>(List.nodup_cons.mp nd).1 (List.of_mem_zip hv).1,if_neg hk]
   simp
 | p :: P, w :: vs, i + 1, m, nd, h1, h2, hk => by
   show bindC kindOf ((p,w)::P.zip vs) m x=_;unfold bindC;exact rl (i:=i) (List.nodup_cons.mp nd).2 (by simpa using h1) (by simpa using h2) hk
def start (N:List Str) (vs:List V):St:=vs.map some++List.replicate (N.length - vs.length) none
def eX (CX:eh) (P:Program) (w:World) (K:W.Frag) (mg:Str→Option Value) (base:Heap) (N:List Str) (qual:Str) (scope:Scope) (f:Addr) (cd:Value) (A:Around) (outer:List Env) (s:Shared) (H:Hp) (E:XK):Cx where
 prog:=P
 w:=w
 K:=K
 mg:=mg
 base:=base
 A:=A.deeper (envOfC qual scope s.heap.objs.size f cd)
 N:=N
 s₀:=s
 H₀:=H
 env:=envOfC qual scope s.heap.objs.size f cd
 outer:=outer
 stack:=envOfC qual scope s.heap.objs.size f cd::outer
 ex:=[]
 calm:=true
 fn:=fun _=>true
 pn:=[]
 xe:=fun e s'=>wpAny (model P w) (A.deeper (envOfC qual scope s.heap.objs.size f cd)) (leaving (envOfC qual scope s.heap.objs.size f cd) e) (fun _ s''=>CX outer H s E e s'') (fun e' s''=>CX outer H s E e' s'') s'
theorem vU {sc:Scope} {n:Nat} {x:Str} (h:sc.names.lookup x=some .cell):∃ c,(cellsFrom n sc.names []).lookup x=some c:=by
 have q:=W.cellsFrom_some sc.names n [] (.inl h);exact Option.isSome_iff_exists.mp q
theorem zV {CX : eh} {P : Program} {w : World} {K : W.Frag} {mg : Str → Option Value} {base : Heap} {N ps : List Str} {qual : Str} {scope : Scope} {f : Addr} {cd : Value} {A : Around} {outer : List Env} {s s1 : Shared} {H : Hp} {E : XK} {us : List Value} {vs : List V}
   (S:aE N ps scope) (hd:A.handled=none) (e0:oJ P w K mg base A outer s H) (hl:vs.length=ps.length) (r:a_ vs us)
   (x:InCallC s s.heap.objs.size (bindL (envOfC qual scope s.heap.objs.size f cd).kindOf (ps.zip us) fun _=>none) (cellsFrom (s.heap.objs.size+1) scope.names []) (bindC (envOfC qual scope s.heap.objs.size f cd).kindOf (ps.zip us) fun _=>none) s1) :
   Inv (eX CX P w K mg base N qual scope f cd A outer s H E) [] (start N vs) H s1:=by
 have hpl:ps.length≤N.length:=by have:=congrArg List.length S.pre;rw [List.length_take] at this;omega
 obtain ⟨h1,tk,rfl,hk⟩:=x.done;have noA:∀ b:Addr,b ∉ (eX CX P w K mg base N qual scope f cd A outer s H E).ex:=fun b z=>absurd (show b∈([]:List Addr) from z) (by simp)
 refine ⟨⟨e0.mod, S.kind, rfl, rfl, Nat.le_refl _, fun y z c h1 h2 => ?_, fun y hy => ?_, fun y c _ h => ?_, fun _ => hd, Around.frames_deeper e0.frames, .inr ⟨rfl, rfl⟩, fun b z => absurd z (noA b), e0.bs, e0.nS, fun b _ _ => noA b, fun b z => absurd z (noA b), e0.gy, e0.qg⟩,
   rfl,e0.bare,Un.kept hk,⟨_,x.toInCall.ns,fun i y v h1 h2 h3=>?_⟩,fun y c h=>⟨_,x.cell y c h⟩,e0.aG.fresh (Nat.le_refl _),fun y c h=>?_,fun p hp=>absurd (show p∈([]:List (Addr×Obj)) from hp) (by simp),e0.aG.kept hk,?_⟩
 · exact name_of_addr x.apart (PySem.mem_of_lookup h1) (PySem.mem_of_lookup h2)
 · have hy : scope.names.lookup y = some .cell ∨ scope.names.lookup y = some .free := hy;rcases hy with hy | hy
   · exact vU hy
   · exact absurd rfl (S.G4 _ (PySem.mem_of_lookup hy))
 · exact Nat.le_of_lt (x.above y c (PySem.mem_of_lookup h))
 · have hi : i < vs.length := by
     unfold start at h2;by_cases hi:i<vs.length
     · exact hi
     · rw [List.getElem?_append_right (by simpa using hi)] at h2;rw [List.getElem?_replicate] at h2;split at h2 <;> cases h2
   have ha:vs[i]? = some v:=by
     unfold start at h2;rw [List.getElem?_append_left (by simpa using hi),List.getElem?_map] at h2;cases e:vs[i]? with
     | none=>rw [e] at h2;cases h2
     | some a=>rw [e] at h2;cases h2;rfl
   obtain ⟨u,hu,rv⟩:=r.get ha;have hp:ps[i]? = some y:=by
     rw [← S.pre,List.getElem?_take_of_lt (by omega)];exact h1
   have ndP:ps.Nodup:=by rw [← S.pre];exact S.nd.sublist (List.take_sublist _ _)
   refine ⟨u,rv,?_⟩;rcases S.par y (List.mem_of_getElem? hp) with k | k
   · exact .inl ⟨k,rq ndP hp hu k⟩
   · obtain ⟨c, e⟩ := vU (n := s.heap.objs.size + 1) k;refine .inr ⟨.inl k,c,e,?_⟩;have q:=x.cell y c e;rw [rl ndP hp hu (by show scope.names.lookup y≠_;rw [k];decide)] at q;exact q
 · exact e0.aG.fresh (Nat.le_of_lt (x.above y c (PySem.mem_of_lookup h)))
 · unfold start;show _=N.length;rw [List.length_append,List.length_map,List.length_replicate];omega
theorem tU {CX : eh} {P : Program} {w : World} {K : W.Frag} {mg : Str → Option Value} {base : Heap} {k : Nat} {f : Addr} {name qual : Str} {params : Arguments} {body : List Stmt} {scope : Scope} {dV kV doc pm cdv ct oc : Value} {an od : Option Addr}
   {osl:Array (Option Value)} {N ps:List Str} {sp:Sp} (lk:K.lookup f=some ⟨oc,od,.func (W.fnOf name qual params body scope dV kV doc pm an cdv ct),osl⟩) (hcd:W.codeIn K cdv qual=true) (S:aE N ps scope)
   (len:∀ vs H Q E,sp vs H Q E→vs.length=ps.length)
   (hbody : ∀ (A : Around) (outer : List Env) (s : Shared) (H : Hp) (vs : List V) (Q : VK) (E : XK), cF k (A.deeper (envOfC qual scope s.heap.objs.size f cdv)) → sp vs H Q E →
     ∃ t,hU (eX CX P w K mg base N qual scope f cdv A outer s H E) body t∧t { nx:=fun _ H'=>Q .aR H',rt:=Q } (start N vs) H) :
   eg P w K mg base CX (k+1) f (W.fnOf name qual params body scope dV kV doc pm an cdv ct) ps sp:=by
 refine ⟨len,fun A outer s H args us vs Q E hr e0 hb r hsp=>?_⟩;have hl:=len _ _ _ _ hsp;have KX:K.In s.heap:=e0.mod.vw.keeps fun b o e=>(e0.bs b o e).1;have lim:s.heap.NoLimit:=e0.mod.nolimit.keeps fun b o e=>(e0.bs b o e).1;have hkind:∀ y∈ps.zip us,scope.names.lookup y.1=some .local∨(scope.names.lookup y.1=some .cell∧((cellsFrom (s.heap.objs.size+1) scope.names []).lookup y.1).isSome=true):=fun ⟨n,v⟩ hy=>by
   rcases S.par n (List.of_mem_zip hy).1 with q | q
   · exact .inl q
   · exact .inr ⟨q,W.cellsFrom_some _ _ _ (.inl q)⟩
 refine codeAny_call_function hr.depth (KX _ _ lk) rfl S.co S.gen rfl (W.codeRec_of KX hcd) (hb _ _ _ _ ?_);refine wpAny_newFunctionEnv_cells S.kind hkind fun env he s1 x=>?_;subst he;refine ⟨lim.keeps x.toInCall.keep,codeAny_func ?_⟩;obtain ⟨t,ht,hq⟩:=hbody A outer s H vs Q E (hr.deeper _) hsp;have I:Inv (eX CX P w K mg base N qual scope f cdv A outer s H E) [] (start N vs) H s1:=zV S hr.hd e0 hl r x;refine wpAny_mono (ht [] s1 (start N vs) H _ I hq) (fun fl s' hs=>?_) fun e s' hs=>hs;have fin:∀ {σ':St} {H':Hp} {v:V} {u:Value},Inv (eX CX P w K mg base N qual scope f cdv A outer s H E) [] σ' H' s'→RelV v u→Q v H'→CE outer P w H s Q u s' :=
   fun {σ' H' v u} J rv q=>⟨v,H',J.os,J.bare,J.base,J.aG,rv,q⟩
 cases fl with
 | ret u =>
   obtain ⟨v,σ',H',J,rv,q⟩:=hs;exact fin J rv q
 | next =>
   obtain ⟨σ',H',J,q⟩:=hs;exact fin (v:=V.aR) (u:=Value.none) J rfl q
 | brk =>
   obtain ⟨_,_,_,q⟩:=hs;exact False.elim q
 | cont =>
   obtain ⟨_,_,_,q⟩:=hs;exact False.elim q
end L2
namespace L2
open PySem PySem.Spec PyProof.Rows
section
variable {X:Cx} {x:Str} {p pos:Pos} {e:Expr} {es:List Expr} {t:TA} {id T:String} {r:List V→Hp→VK→Prop}
def qr (r:List V→Hp→VK→Prop) (t:TA):TE:=fun σ H Q=>t σ H fun vs H1=>r vs H1 Q
theorem aP (hc : cR X (.builtin id) r) (hg : Gl X x) (hm : X.mg x = none) (hv : bootBuiltins x = some (.builtin id)) (ha : PA X (e :: es) t) (hn : x ≠ "__name__" := by decide) (hdb : (x == ("__debug__" : Str)) = false := by decide)
   (he:starEach (e::es) X.env=(false,eval e X.env)::starEach es X.env:=by rfl) (hpl:(backTo pos (starEach es X.env)).any (·.1)=false:=by rfl):PE X (.Call (.Name x p) (e::es) [] pos) (qr r t):=by
 intro pins s σ H Q I h;refine wpAny_Call_Name_kw (gb I hg hm hv ?_ hn hdb);exact PyProof.Rows.callWith_builtin1 (br (ha pos pins s σ H _ I h) fun us s1 ⟨vs,H1,I1,r1,q1⟩=>hc pins s1 σ H1 vs us Q I1 r1 q1) he hpl
theorem eu (hc : cR X (.type T) r) (hg : Gl X x) (hm : X.mg x = none) (hv : bootBuiltins x = some (.type T)) (ha : PA X (e :: es) t) (hn : x ≠ "__name__" := by decide) (hdb : (x == ("__debug__" : Str)) = false := by decide)
   (he:starEach (e::es) X.env=(false,eval e X.env)::starEach es X.env:=by rfl) (hpl:(backTo pos (starEach es X.env)).any (·.1)=false:=by rfl):PE X (.Call (.Name x p) (e::es) [] pos) (qr r t):=by
 intro pins s σ H Q I h;refine wpAny_Call_Name_kw (gb I hg hm hv ?_ hn hdb);exact PyProof.Rows.callWith_type1 (br (ha pos pins s σ H _ I h) fun us s1 ⟨vs,H1,I1,r1,q1⟩=>hc pins s1 σ H1 vs us Q I1 r1 q1) he hpl
end
end L2
namespace HT
open PySem PyProof.Rows
section
variable {prog:Program} {w:World} {A:Around} {E:Value→Shared→Prop} {s:Shared}
theorem EK {t b : Addr} {vs ws : List Value} {Q : Value → Shared → Prop} (ht : IsTup s.heap t vs.toArray) (hb : IsTup s.heap b ws.toArray) (hv : vs ≠ [])
   (h1:ws=[]→Q (.ref t) s) (h2:ws≠[]→Q (.ref s.heap.objs.size) { s with heap:=s.heap.push { cls:=.type "tuple",data:=.seq (vs++ws).toArray } })
   (hsz:vs.length+ws.length≤sizeLine):wpAny (model prog w) A (binaryOp .Add (.ref t) (.ref b)) Q E s:=by
 obtain ⟨⟨cls,dd,data,sl⟩,ho,hc,n,hd⟩:=id ht;obtain ⟨⟨cls2,dd2,data2,sl2⟩,ho2,hc2,n2,hd2⟩:=id hb;simp only at hc hd hc2 hd2;subst hc hd hc2 hd2;have e:vs.toArray++ws.toArray=(vs++ws).toArray:=by simp
 by_cases hw:ws=[]
 · exact concat_meets ⟨_, ho, rfl⟩ ⟨_, ho2, rfl⟩ noFill_tuple_add seq_tuple_add PySem.F.slot_tuple_add PySem.F.entry_tuple_add (PySem.F.args_tuple_add_2 _ _)
     (tuple_addW1 t b vs.toArray ws.toArray n n2 dd dd2 sl sl2 (by simpa using hv) (by simp [hw])) ⟨ho,ho2,h1 hw⟩
 · refine concat_meets ⟨_, ho, rfl⟩ ⟨_, ho2, rfl⟩ noFill_tuple_add seq_tuple_add PySem.F.slot_tuple_add PySem.F.entry_tuple_add (PySem.F.args_tuple_add_2 _ _)
     (tuple_addW2 t b vs.toArray ws.toArray n n2 dd dd2 sl sl2 (by simpa using hv) (by simpa using hw) (by rw [List.size_toArray,List.size_toArray];exact hsz)) ⟨ho,ho2,?_⟩
   rw [e];exact h2 hw
def bD (n d : Nat) : Option Int → Nat
 | none=>d
 | some v=>if v<0 then (v+(n:Int)).toNat else min v.toNat n
theorem j6 (n d k:Nat):bD n d (some (k:Int))=min k n:=by
 show (if (k:Int)<0 then ((k:Int)+(n:Int)).toNat else min (k:Int).toNat n)=min k n;rw [if_neg (by omega),Int.toNat_natCast]
theorem GW (n d:Nat) (hd:d≤n) (o:Option Int):bD n d o≤n:=by
 cases o with
 | none=>exact hd
 | some v =>
   show (if v<0 then (v+(n:Int)).toNat else min v.toNat n)≤n;by_cases hv:v<0
   · rw [if_pos hv];omega
   · rw [if_neg hv];exact Nat.min_le_right _ _
theorem xA (v:Int) (n d:Nat):(if v<0 then max (v+(n:Int)) 0 else min v (n:Int))=((bD n d (some v):Nat):Int):=by
 show (if v<0 then max (v+(n:Int)) 0 else min v (n:Int))=(((if v<0 then (v+(n:Int)).toNat else min v.toNat n):Nat):Int)
 by_cases hv:v<0
 · simp only [if_pos hv];omega
 · simp only [if_neg hv];omega
theorem yM (lo hi:Option Int) (n:Nat):Builtin.Slice.sliceAdjust lo hi 1 (n:Int)=(((bD n 0 lo:Nat):Int),((bD n n hi:Nat):Int)):=by
 have h1 : ¬ ((1:Int)<0):=by omega
 unfold Builtin.Slice.sliceAdjust;simp only [h1,if_false];refine Prod.ext ?_ ?_
 · cases lo with
   | none=>rfl
   | some v=>exact xA v n 0
 · cases hi with
   | none=>rfl
   | some v=>exact xA v n n
theorem yn (i j:Nat):Builtin.Slice.slicePlaces (i:Int) (j:Int) 1=j - i:=by
 unfold Builtin.Slice.slicePlaces;have h1:(1:Int) > 0:=by omega
 simp only [h1,if_true,Int.ediv_one];split <;> omega
theorem pj {v:Value} {o:Option Int} {Q:Option Int→Shared→Prop} (p:IsPart v o) (h:Q o s):wpAny (model prog w) A (Builtin.Slice.slicePartIndex v) Q E s:=by
 cases p with
 | none=>exact slicePart_none h
 | int i t=>exact slicePart_int h
theorem oQ {sl : Addr} {vl vu : Value} {lo hi : Option Int} {n : Nat} {Q : Int × Int × Nat → Shared → Prop} (hs : s.heap.IsSliceOf sl vl vu .none) (pl : IsPart vl lo) (pu : IsPart vu hi)
   (h:Q (((bD n 0 lo:Nat):Int),1,bD n n hi - bD n 0 lo) s):wpAny (model prog w) A (Builtin.Slice.sliceApplied (.ref sl) (pure (n:Int))) Q E s:=by
 obtain ⟨os,hos,hcs,hds⟩:=id hs;unfold Builtin.Slice.sliceApplied Builtin.Slice.sliceFields;refine wpAny_bind (wpAny_bind (wpAny_field hos hds (x:=vl) rfl (wpAny_bind (wpAny_field hos hds (x:=vu) rfl (wpAny_bind (wpAny_field hos hds (x:=.none) rfl (wpAny_pure ?_)))))));refine wpAny_bind (slicePart_none ?_);show wpAny _ _ (if ((1:Int) == 0)=true then _ else _) _ _ s;rw [if_neg (by decide)];refine wpAny_bind (pj pl (wpAny_bind (pj pu (wpAny_bind (wpAny_pure ?_)))));show wpAny _ _ (match Builtin.Slice.sliceAdjust lo hi 1 (n:Int) with | (lo,hi)=>pure (lo,(1:Int),Builtin.Slice.slicePlaces lo hi 1)) _ _ s;rw [yM lo hi n];show wpAny _ _ (pure (((bD n 0 lo:Nat):Int),(1:Int),Builtin.Slice.slicePlaces ((bD n 0 lo:Nat):Int) ((bD n n hi:Nat):Int) 1)) _ _ s;rw [yn];exact wpAny_pure h
theorem BD (xs:Array Value) (i k:Nat):((List.range k).filterMap fun (m:Nat)=>xs[((i:Int)+(m:Int)*1).toNat]?).toArray=((xs.toList.drop i).take k).toArray:=by
 have e:(fun (m:Nat)=>xs[((i:Int)+(m:Int)*1).toNat]?)=fun m=>xs[i+m]?:=by
   funext m
   have:((i:Int)+(m:Int)*1).toNat=i+m:=by omega
   rw [this]
 rw [e]
 have:=pick_run xs i k
 rw [List.filterMap_map] at this;have e2:((fun x=>xs[x]?) ∘ fun x=>i+x)=fun m=>xs[i+m]?:=rfl;rw [e2] at this;rw [this]
theorem nh {t sl : Addr} {items : Array Value} {vl vu : Value} {lo hi : Option Int} {Q : Value → Shared → Prop} (ht : IsTup s.heap t items) (hs : s.heap.IsSliceOf sl vl vu .none) (pl : IsPart vl lo) (pu : IsPart vu hi)
   (hw : ¬ (bD items.size 0 lo=0∧bD items.size items.size hi=items.size))
   (h:Q (.ref s.heap.objs.size) { s with heap:=s.heap.push { cls:=.type "tuple",data:=.seq ((items.toList.drop (bD items.size 0 lo)).take (bD items.size items.size hi - bD items.size 0 lo)).toArray } })
   (hsz:items.size≤sizeLine):wpAny (model prog w) A (getItem (.ref t) (.ref sl)) Q E s:=by
 have htake:sizeOk (.seq ((items.toList.drop (bD items.size 0 lo)).take (bD items.size items.size hi - bD items.size 0 lo)).toArray):=by
   show ((items.toList.drop (bD items.size 0 lo)).take (bD items.size items.size hi - bD items.size 0 lo)).toArray.size≤sizeLine;rw [List.size_toArray,List.length_take,List.length_drop,Array.length_toList];omega
 have hj:bD items.size items.size hi≤items.size:=GW _ _ (Nat.le_refl _) hi;obtain ⟨os,hos,hcs,hds⟩:=id hs;have hTs:s.TypeIs (.ref sl) "slice":=⟨os,hos,hcs⟩
 unfold getItem
 try with_reducible refine wpAny_holding ?_
 first | refine wpAny_bind (wpAny_pure ?_) | skip
 refine wpAny_bind (wpAny_sequenceKey ht.typeIs (by decide) ?_)
 refine wpAny_bind (wpAny_callSpecial?_slot (name := Str.ofString "__getitem__") ht.typeIs PyProof.Rows.slot_tuple_getitem
   (wpAny_call_entry PyProof.Rows.slot_tuple_getitem ht.typeIs entry_tuple_getitem ?_ (args_tuple_getitem _ _)))
 show wpAny _ _ (Builtin.Tuple.tupleItemsOf (.ref t) >>= _) _ _ s;refine wpAny_bind (tupleItemsOf_ ht ?_);refine wpAny_bind (wpAny_typeOf hTs ?_);rw [if_pos (by decide)];refine wpAny_bind (oQ hs pl pu ?_);have hno : ¬ ((((bD items.size 0 lo:Nat):Int) == 0 && (1:Int) == 1 && (bD items.size items.size hi - bD items.size 0 lo) == items.size)=true):=by
   intro q;rw [Bool.and_eq_true,Bool.and_eq_true] at q;have q1:((bD items.size 0 lo:Nat):Int)=0:=eq_of_beq q.1.1;have q2:bD items.size items.size hi - bD items.size 0 lo=items.size:=eq_of_beq q.2;exact hw ⟨by omega,by omega⟩
 show wpAny _ _ (if (((bD items.size 0 lo:Nat):Int) == 0 && (1:Int) == 1 && (bD items.size items.size hi - bD items.size 0 lo) == items.size)=true then _ else _) _ _ s;rw [if_neg hno,BD]
 first
   | exact wpAny_bind (m:=Builtin.Tuple.tupleExact _) (wpAny_newObj_type (wpAny_pure ⟨_,rfl,wpAny_pure h⟩) htake)
   | exact wpAny_bind (m:=Builtin.Tuple.tupleExact _) (wpAny_newObj_type (wpAny_bind (wpAny_pure (wpAny_pure ⟨_,rfl,wpAny_pure h⟩))) htake)
   | exact wpAny_bind (wpAny_bind (m:=Builtin.Tuple.tupleExact _) (wpAny_newObj_type (wpAny_pure (wpAny_pure ⟨_,rfl,wpAny_pure h⟩)) htake))
   | exact wpAny_bind (wpAny_bind (m:=Builtin.Tuple.tupleExact _) (wpAny_newObj_type (wpAny_pure ⟨_,rfl,wpAny_pure h⟩) htake))
end
end HT
namespace L2
open PySem PySem.Spec PyProof.Rows
abbrev TO:=St→Hp→(Option Int→Hp→Prop)→Prop
def PO (X:Cx) (e:Option Expr) (t:TO):Prop :=
 ∀ (pins : List (Addr × Obj)) (s : Shared) (σ : St) (H : Hp) (Q : Option Int → Hp → Prop), Inv X pins σ H s → t σ H Q →
   wpAny (model X.prog X.w) X.A (evalPart e X.env) (fun u s'=>∃ o H',Inv X pins σ H' s'∧IsPart u o∧Q o H') X.xe s
def xm:TO:=fun _ H Q=>Q none H
def mG (t:TE):TO:=fun σ H Q=>t σ H fun x H1=>∃ i,x=.int i∧Q (some i) H1
section
variable {X:Cx} {e:Expr} {te:TE} {lo hi:Option Expr} {tl th:TO} {pos p2:Pos}
theorem mT:PO X none xm:=by
 intro pins s σ H Q I h;rw [evalPart_none];exact wpAny_pure ⟨none,H,I,.none,h⟩
theorem eT (h:PE X e te):PO X (some e) (mG te):=by
 intro pins s σ H Q I hw;rw [evalPart_some];refine br (h pins s σ H _ I hw) fun u s1 ⟨x,H1,I1,r1,q1⟩=>?_;obtain ⟨i,rfl,q⟩:=q1;obtain ⟨t,rfl⟩:=r1;exact ⟨some i,H1,I1,.int i t,q⟩
def pD (X:Cx) (r:V→Option Int→Option Int→Hp→VK→Prop):Prop :=
 ∀ (pins : List (Addr × Obj)) (s : Shared) (σ : St) (H : Hp) (x : V) (v vl vu : Value) (lo hi : Option Int) (sl : Addr) (Q : VK), Inv X pins σ H s → RelV x v → s.heap.IsSliceOf sl vl vu .none → IsPart vl lo → IsPart vu hi → r x lo hi H Q →
   ∃ T id,typeLookup (.type T) "__getitem__" = pure (some (.builtin id))∧s.TypeIs v T∧wpAny (model X.prog X.w) X.A (getItem v (.ref sl)) (EP X pins σ Q) X.xe s
theorem pD.or {r r':V→Option Int→Option Int→Hp→VK→Prop} (h:pD X r) (h':pD X r'):pD X (fun x lo hi H Q=>r x lo hi H Q∨r' x lo hi H Q):=by
 intro pins s σ H x v vl vu lo hi sl Q I rx hs pl pu q;rcases q with q | q
 · exact h pins s σ H x v vl vu lo hi sl Q I rx hs pl pu q
 · exact h' pins s σ H x v vl vu lo hi sl Q I rx hs pl pu q
def DD (r:V→Option Int→Option Int→Hp→VK→Prop) (te:TE) (tl th:TO):TE:=fun σ H Q=>te σ H fun x H1=>tl σ H1 fun l H2=>th σ H2 fun u H3=>r x l u H3 Q
theorem fY {r:V→Option Int→Option Int→Hp→VK→Prop} (hr:pD X r) (he:PE X e te) (hl:PO X lo tl) (hu:PO X hi th):PE X (.Subscript e (.Slice lo hi none p2) pos) (DD r te tl th):=by
 intro pins s σ H Q I h;refine Subscript_ (br (he pins s σ H _ I h) fun v s1 ⟨x,H1,I1,r1,q1⟩=>?_);refine wpAny_Slice (br (hl pins s1 σ H1 _ I1 q1) fun vl s2 ⟨l,H2,I2,pl,q2⟩=>br (hu pins s2 σ H2 _ I2 q2) fun vu s3 ⟨u,H3,I3,pu,q3⟩=>?_);rw [evalPart_none];refine wpAny_pure ?_;have I4:Inv X pins σ H3 { s3 with heap:=s3.heap.push { cls:=.type "slice",data:=.fields #[vl,vu,.none] } }:=I3.kept (t':=s3.toks) fun b ob q=>Heap.get?_push_of_some _ q;obtain ⟨T,id,hT,ht,hg⟩:=hr pins { s3 with heap:=s3.heap.push { cls:=.type "slice",data:=.fields #[vl,vu,.none] } } σ H3 x v vl vu l u s3.heap.objs.size Q I4 r1 (Heap.IsSliceOf.new ..) pl pu q3;show wpAny (model X.prog X.w) X.A (subscriptTail e (.Slice lo hi none p2) v (.ref s3.heap.objs.size)) (EP X pins σ Q) X.xe { s3 with heap:=s3.heap.push { cls:=.type "slice",data:=.fields #[vl,vu,.none] } };exact tail_any (ops:=[.ref s3.heap.objs.size,v]) ht hT hg (by with_unfolding_all rfl)
def ip (xs:List V) (lo hi:Option Int):List V:=(xs.drop (HT.bD xs.length 0 lo)).take (HT.bD xs.length xs.length hi - HT.bD xs.length 0 lo)
theorem nA (xs:List V) (lo hi:Option Int):(ip xs lo hi).length≤xs.length:=by
 unfold ip;rw [List.length_take,List.length_drop];omega
def GS (K : W.Frag) : V → Option Int → Option Int → Hp → VK → Prop := fun x lo hi H Q => ∃ a xs, x = .ref a ∧ aZ K H a xs ∧
 ¬ (HT.bD xs.length 0 lo=0∧HT.bD xs.length xs.length hi=xs.length)∧∀ p,H p=none→Q (.ref p) (upd H p (.tup (ip xs lo hi)))
theorem EU:pD X (GS X.K):=by
 intro pins s σ H x v vl vu lo hi sl Q I rx hs pl pu h;obtain ⟨a,xs,rfl,hx,hw,q⟩:=h;cases rx
 obtain ⟨its,r,ht,hz⟩:=I.tuple hx;have hlen:its.toArray.size=xs.length:=by rw [List.size_toArray];exact r.length.symm
 refine ⟨"tuple",_,PyProof.Rows.slot_tuple_getitem.lookup,ht.typeIs,?_⟩;refine HT.nh ht hs pl pu (by rw [hlen];exact hw) ?_ (by rw [hlen];exact hz);rw [hlen];refine ⟨.ref s.heap.objs.size,_,I.laid (t':=s.toks) (o:=.tup (ip xs lo hi)) (fun b ob q=>Heap.get?_push_of_some _ q) (Nat.le_refl _) ?_,rfl,q _ (I.aG.fresh (Nat.le_refl _))⟩;exact ⟨Nat.le_trans (nA xs lo hi) hz,_,(r.drop (HT.bD xs.length 0 lo)).take (HT.bD xs.length xs.length hi - HT.bD xs.length 0 lo),IsTup.new _ _⟩
def Di (K : W.Frag) : R2 := fun x y H Q => ∃ a b xs ys, x = .ref a ∧ y = .ref b ∧ aZ K H a xs ∧ aZ K H b ys ∧ xs ≠ [] ∧ xs.length + ys.length ≤ sizeLine ∧
 (ys=[]→Q (.ref a) H)∧(ys≠[]→∀ p,H p=none→Q (.ref p) (upd H p (.tup (xs++ys))))
theorem a_.qz {xs:List V} {us:List Value} (r:a_ xs us):us=[] ↔ xs=[]:=by
 cases r with
 | nil=>simp
 | cons _ _=>simp
theorem DL:cb X (binaryOp .Add) (Di X.K):=by
 intro pins s σ H x y v u Q I rx ry h;obtain ⟨a,b,xs,ys,rfl,rfl,ha,hb,hx,hz,q1,q2⟩:=h;cases rx
 cases ry
 obtain ⟨its,r1,p1,_⟩:=I.tuple ha;obtain ⟨its2,r2,p2,_⟩:=I.tuple hb;refine HT.EK p1 p2 (fun z=>hx (r1.qz.mp z)) (fun z=>⟨.ref a,H,I,rfl,q1 (r2.qz.mp z)⟩) (fun z=>?_) (by rw [← r1.length,← r2.length];exact hz);refine ⟨.ref s.heap.objs.size,_,I.laid (t':=s.toks) (o:=.tup (xs++ys)) (fun b ob q=>Heap.get?_push_of_some _ q) (Nat.le_refl _) ?_,rfl,q2 (fun w=>z (r2.qz.mpr w)) _ (I.aG.fresh (Nat.le_refl _))⟩;exact ⟨by rw [List.length_append];exact hz,_,r1.append r2,IsTup.new _ _⟩
end
end L2
namespace L2
open PySem PySem.Spec PyProof.Rows
def j_ (n:Nat) (i:Int):Option Nat:=if 0≤i then (if i<n then some i.toNat else none) else if -(n:Int)≤i then some (i+n).toNat else none
def dz {α : Type} (xs:List α) (i:Int):Option α:=(j_ xs.length i).bind fun j=>xs[j]?
theorem xO {n:Nat} {i:Int} {j:Nat} (h:j_ n i=some j):seqIndex? i n=some j∧j<n∧-(n:Int)≤i∧i<n:=by
 unfold j_ at h;by_cases h0 : 0≤i
 · rw [if_pos h0] at h;by_cases h1:i<n
   · rw [if_pos h1] at h;have e:i.toNat=j:=Option.some.inj h;exact ⟨by rw [seqIndex_of h0 h1,e],by omega,by omega,h1⟩
   · rw [if_neg h1] at h;cases h
 · rw [if_neg h0] at h;by_cases h1 : -(n:Int)≤i
   · rw [if_pos h1] at h;have e:(i+n).toNat=j:=Option.some.inj h;exact ⟨by rw [seqIndex_neg (by omega) h1,e],by omega,h1,by omega⟩
   · rw [if_neg h1] at h;cases h
theorem qZ {α : Type} {xs:List α} {i:Int} {v : α} (h:dz xs i=some v):∃ j,seqIndex? i xs.length=some j∧xs[j]? = some v∧j<xs.length∧-(xs.length:Int)≤i∧i<xs.length:=by
 unfold dz at h;cases e:j_ xs.length i with
 | none=>rw [e] at h;cases h
 | some j =>
   rw [e] at h;obtain ⟨h1,h2,h3,h4⟩:=xO e;exact ⟨j,h1,h,h2,h3,h4⟩
theorem cn {α : Type} {xs:List α} {j:Nat} {v : α} (h:xs[j]? = some v):dz xs (j:Int)=some v:=by
 have hj:j<xs.length:=(List.getElem?_eq_some_iff.mp h).1;have e:j_ xs.length (j:Int)=some j:=by
   unfold j_;rw [if_pos (by omega),if_pos (by omega)];simp
 unfold dz;rw [e];exact h
def Em (b:Expr):Prop:=∀ o i,subscripted b false o i=operate [o,i] (getItem o i)
def kP (X:Cx) (r:R2):Prop :=
 ∀ (value slice : Expr) (pins : List (Addr × Obj)) (s : Shared) (σ : St) (H : Hp) (x y : V) (v u : Value) (Q : VK), Inv X pins σ H s → RelV x v → RelV y u → r x y H Q →
   subscripted slice false v u=operate [v,u] (getItem v u)→wpAny (model X.prog X.w) X.A (subscriptTail value slice v u) (EP X pins σ Q) X.xe s
def Du (X:Cx) (id:String) (r:V→List V→Hp→VK→Prop):Prop :=
 ∀ (pins : List (Addr × Obj)) (s : Shared) (σ : St) (H : Hp) (x : V) (xs : List V) (v : Value) (us : List Value) (Q : VK), Inv X pins σ H s → RelV x v → a_ xs us → r x xs H Q →
   wpAny (model X.prog X.w) X.A (call (.builtin id) (v::us)) (EP X pins σ Q) X.xe s
section
variable {X:Cx} {a b:Expr} {ta tb:TE} {pos:Pos}
theorem kP.or {r r':R2} (h:kP X r) (h':kP X r'):kP X (fun x y H Q=>r x y H Q∨r' x y H Q):=by
 intro value slice pins s σ H x y v u Q I rx ry q hs;rcases q with q | q
 · exact h value slice pins s σ H x y v u Q I rx ry q hs
 · exact h' value slice pins s σ H x y v u Q I rx ry q hs
theorem aD {r:R2} (hr:kP X r) (ha:PE X a ta) (hb:PE X b tb) (hs:Em b):PE X (.Subscript a b pos) (d7 r ta tb):=by
 intro pins s σ H Q I h;exact Subscript_ (CF ha hb I h fun v u s2 x y H2 I2 rx ry q=>hr a b pins s2 σ H2 x y v u Q I2 rx ry q (hs _ _))
def F1 (K:W.Frag):R2:=fun x y H Q=>∃ p xs i v,x=.ref p∧y=.int i∧aA K H p xs∧dz xs i=some v∧Q v H
def He (K:W.Frag):R2:=fun x y H Q=>∃ p xs i v,x=.ref p∧y=.int i∧aZ K H p xs∧dz xs i=some v∧Q v H
def GY:R2:=fun x y H Q=>∃ z i c,x=.str z∧y=.int i∧z.length≤sizeLine∧dz z.cps.toList i=some c∧Q (.str ⟨#[c]⟩) H
theorem EB:kP X (F1 X.K):=by
 intro value slice pins s σ H x y v u Q I rx ry h hs;obtain ⟨p,xs,i,z,rfl,rfl,hq,he,q⟩:=h;cases rx
 obtain ⟨t,rfl⟩:=ry;obtain ⟨its,r,pl,hz⟩:=I.list hq;obtain ⟨j,h1,h2,h3,h4,h5⟩:=qZ he;obtain ⟨w,ew,rw'⟩:=r.get h2;have hl:=r.length;have hn:=kg;have fin:EP X pins σ Q w s:=⟨z,H,I,rw',q⟩
 by_cases h0 : 0≤i
 · have hj : i.toNat = j := by
     rw [seqIndex_of h0 h5] at h1;exact Option.some.inj h1
   exact item_listR pl.isList h0 (by omega) (by rw [hj];simpa using ew) fin hs
 · have hj : (i + (its.toArray.size : Int)).toNat = j := by
     rw [seqIndex_neg (by omega) h4] at h1;rw [List.size_toArray,← hl];exact Option.some.inj h1
   exact subscriptTail_builtinR (x := w) pl.isList.typeIs slot_list_getitem.lookup
     (wpAny_getItem_list_neg (Q:=fun r s'=>r=w∧EP X pins σ Q r s') pl.isList (by omega) (by rw [List.size_toArray] <;> omega) (by omega) (by rw [hj];simpa using ew) ⟨rfl,fin⟩) hs
theorem E5:kP X (He X.K):=by
 intro value slice pins s σ H x y v u Q I rx ry h hs;obtain ⟨p,xs,i,z,rfl,rfl,hq,he,q⟩:=h;cases rx
 obtain ⟨t,rfl⟩:=ry;obtain ⟨its,r,pl,hz⟩:=I.tuple hq;obtain ⟨j,h1,h2,h3,h4,h5⟩:=qZ he;obtain ⟨w,ew,rw'⟩:=r.get h2;have hl:=r.length;have hn:=kg;have fin:EP X pins σ Q w s:=⟨z,H,I,rw',q⟩
 exact subscriptTail_builtinR (x := w) pl.typeIs slot_tuple_getitem.lookup
   (getItem_tuple (j:=j) (Q:=fun r s'=>r=w∧EP X pins σ Q r s') pl (by omega) (by omega) (by rw [List.size_toArray,← hl];exact h1) (by simpa using ew) ⟨rfl,fin⟩) hs
theorem GB:kP X GY:=by
 intro value slice pins s σ H x y v u Q I rx ry h hs;obtain ⟨z,i,c,rfl,rfl,hz,he,q⟩:=h;obtain ⟨t,rfl⟩:=rx;obtain ⟨t',rfl⟩:=ry;obtain ⟨j,h1,h2,h3,h4,h5⟩:=qZ he;have hl:z.cps.toList.length=z.length:=by simp [Str.length]
 rw [hl] at h1 h4 h5;have hn:=kg;exact tail_any (typeIs_str s z t) slot_str_getitem.lookup (getItem_str (c:=c) (by
   have e1:decide (i < -(2 ^ 63:Int))=false:=decide_eq_false (by omega);have e2:decide (i ≥ 2 ^ 63)=false:=decide_eq_false (by omega);rw [e1,e2,Bool.or_false]) (by rw [h1];simpa using h2) ⟨.str ⟨#[c]⟩,H,I.tok _,⟨_,rfl⟩,q⟩) hs
def TC (K:W.Frag):R2:=fun x y H Q=>F1 K x y H Q∨He K x y H Q∨GY x y H Q
theorem Gn:kP X (TC X.K):=EB.or (E5.or GB)
theorem x_ (its:List Value) (n j:Nat) (u:Value):Obj.mapSeq (·.setIfInBounds j u) { cls:=.type "list",data:=.seq its.toArray n }={ cls:=.type "list",data:=.seq (its.set j u).toArray n }:=by
 simp [Obj.mapSeq]
theorem Inv.lst {pins : List (Addr × Obj)} {σ : St} {H : Hp} {s : Shared} {p : Addr} {xs : List V} (I : Inv X pins σ H s) (h : H p = some (.lst xs)) :
   ∃ (its:List Value) (n:Nat),a_ xs its∧s.heap.get? p=some { cls:=.type "list",data:=.seq its.toArray n }∧xs.length≤sizeLine:=by
 obtain ⟨z,its,n,r,e⟩:=I.aG p _ h;exact ⟨its,n,r,e,z⟩
theorem Inv.Ga {pins : List (Addr × Obj)} {σ : St} {H : Hp} {s : Shared} {p : Addr} {xs ys : List V} {its its' : List Value} {n n' : Nat} {f : Obj → Obj} (I : Inv X pins σ H s) (h : H p = some (.lst xs))
   (ho:s.heap.get? p=some { cls:=.type "list",data:=.seq its.toArray n }) (hf:f { cls:=.type "list",data:=.seq its.toArray n }={ cls:=.type "list",data:=.seq its'.toArray n' }) (r:a_ ys its') (hz:ys.length≤sizeLine) (t:Nat) :
   Inv X pins σ (upd H p (.lst ys)) { s with heap:=s.heap.update p f,toks:=t }:=by
 have e:(s.heap.update p f).get? p=some { cls:=.type "list",data:=.seq its'.toArray n' }:=by
   rw [Heap.get?_update_self f ho (by rw [hf] <;> rfl),hf]
 refine I.write (x:=p) (e:=p) (by rw [h];trivial) (.inl rfl) (fun b u hb q=>(Heap.get?_update_other _ _ (Ne.symm hb)).trans q) ⟨_,e⟩ ?_;exact ⟨hz,its',n',r,e⟩
def ql:V→V→V→Hp→(Hp→Prop)→Prop:=fun o i v H Q=>∃ p xs k j,o=.ref p∧i=.int k∧H p=some (.lst xs)∧j_ xs.length k=some j∧Q (upd H p (.lst (xs.set j v)))
theorem set_list:GK X ql:=by
 intro pins s σ H o i v ov iv u Q I ro ri rv h;obtain ⟨p,xs,k,j,rfl,rfl,hp,hj,q⟩:=h;cases ro
 obtain ⟨t,rfl⟩:=ri;obtain ⟨its,n,r,ho,hz⟩:=I.lst hp;obtain ⟨h1,h2,h3,h4⟩:=xO hj;have hl:=r.length;have hn:=kg;have I':Inv X pins σ (upd H p (.lst (xs.set j v))) { s with heap:=s.heap.update p (Obj.mapSeq (·.setIfInBounds j u)) } :=
   I.Ga hp ho (x_ its n j u) (r.set rv j) (by rw [List.length_set];exact hz) s.toks
 by_cases h0 : 0≤k
 · have hk : k.toNat = j := by
     rw [seqIndex_of h0 h4] at h1;exact Option.some.inj h1
   exact W.ki_setAt ho h0 (by omega) (by rw [List.size_toArray,← hl];exact h4) (by rw [hk];exact ⟨_,I',q⟩)
 · have hk : (k + (its.toArray.size : Int)).toNat = j := by
     rw [seqIndex_neg (by omega) h3] at h1;rw [List.size_toArray,← hl];exact Option.some.inj h1
   exact W.ki_setBack ho (by omega) (by rw [List.size_toArray,← hl];exact h3) (by omega) (by rw [hk];exact ⟨_,I',q⟩)
theorem vJ (lo hi:Option Int) (n:Nat):(sliceBounds lo hi none n).1=((HT.bD n 0 lo:Nat):Int)∧(sliceBounds lo hi none n).2.1=((HT.bD n n hi:Nat):Int)∧(sliceBounds lo hi none n).2.2=1:=by
 refine ⟨?_,?_,rfl⟩
 · cases lo with
   | none=>simp [sliceBounds,HT.bD]
   | some i =>
     simp only [sliceBounds,HT.bD,Option.getD_none,show (1:Int) > 0 by decide,if_true];by_cases h:i<0
     · simp only [h,if_true] <;> omega
     · simp only [h,if_false] <;> omega
 · cases hi with
   | none=>simp [sliceBounds,HT.bD]
   | some i =>
     simp only [sliceBounds,HT.bD,Option.getD_none,show (1:Int) > 0 by decide,if_true];by_cases h:i<0
     · simp only [h,if_true] <;> omega
     · simp only [h,if_false] <;> omega
theorem sR (its:List Value) (lo hi:Option Int):slicePick its.toArray lo hi none=((its.drop (HT.bD its.length 0 lo)).take (HT.bD its.length its.length hi - HT.bD its.length 0 lo)).toArray:=by
 obtain ⟨h1,h2,h3⟩:=vJ lo hi its.toArray.size;unfold slicePick;rw [h1,h2,h3];simp only [sliceRange_one,pick_run,List.size_toArray] <;> rfl
def GO (K:W.Frag):V→Option Int→Option Int→Hp→VK→Prop:=fun x lo hi H Q=>∃ a xs,x=.ref a∧aA K H a xs∧∀ p,H p=none→Q (.ref p) (upd H p (.lst (ip xs lo hi)))
theorem ET:pD X (GO X.K):=by
 intro pins s σ H x v vl vu lo hi sl Q I rx hs pl pu h;obtain ⟨a,xs,rfl,hx,q⟩:=h;cases rx
 obtain ⟨its,r,ht,hz⟩:=I.list hx;have hlen:=r.length;refine ⟨"list",_,slot_list_getitem.lookup,ht.isList.typeIs,?_⟩;refine wpAny_getItem_list_slice ht.isList hs pl pu .none (by simp) ?_ (by rw [List.size_toArray] <;> omega);rw [sR,← hlen];refine ⟨.ref s.heap.objs.size,_,I.laid (t':=s.toks) (o:=.lst (ip xs lo hi)) (fun b ob q=>Heap.get?_push_of_some _ q) (Nat.le_refl _) ?_,rfl,q _ (I.aG.fresh (Nat.le_refl _))⟩;exact ⟨Nat.le_trans (nA xs lo hi) hz,_,0,(r.drop (HT.bD xs.length 0 lo)).take (HT.bD xs.length xs.length hi - HT.bD xs.length 0 lo),Heap.get?_push_size _ rfl⟩
def eI : V → Bool
 | .aR=>true
 | .bl _=>true
 | .int _=>true
 | .str _=>true
 | _=>false
def k8 : V → V → Bool
 | .aR,.aR=>true
 | .bl a,.bl b=>a == b
 | .bl a,.int b=>(if a then 1 else 0) == b
 | .int a,.bl b=>a == (if b then 1 else 0)
 | .int a,.int b=>a == b
 | .str a,.str b=>a == b
 | _,_=>false
theorem Hg {A:Around} {s:Shared} {y x:V} {u v:Value} (ry:RelV y u) (rx:RelV x v) (fy:eI y=true) (fx:eI x=true):SeqAt.EqAt A s u v (k8 y x):=by
 cases y with
 | aR =>
   cases ry
   cases x with
   | aR=>cases rx;exact SeqAt.EqAt.same _
   | bl b=>cases rx;exact SeqAt.EqAt.none_bool b
   | int b=>obtain ⟨t,rfl⟩:=rx;exact SeqAt.EqAt.none_int b t
   | str b=>obtain ⟨t,rfl⟩:=rx;exact SeqAt.EqAt.none_str b t
   | _=>exact absurd (show false=true from fx) Bool.false_ne_true
 | bl a =>
   cases ry
   cases x with
   | aR=>cases rx;exact SeqAt.EqAt.bool_none a
   | bl b=>cases rx;exact SeqAt.EqAt.bool_bool a b
   | int b=>obtain ⟨t,rfl⟩:=rx;exact SeqAt.EqAt.bool_int a b t
   | str b=>obtain ⟨t,rfl⟩:=rx;exact SeqAt.EqAt.bool_str a b t
   | _=>exact absurd (show false=true from fx) Bool.false_ne_true
 | int a =>
   obtain ⟨t',rfl⟩:=ry;cases x with
   | aR=>cases rx;exact SeqAt.EqAt.int_none a t'
   | bl b=>cases rx;exact SeqAt.EqAt.int_bool a t' b
   | int b=>obtain ⟨t,rfl⟩:=rx;exact SeqAt.EqAt.int_int a t' b t
   | str b=>obtain ⟨t,rfl⟩:=rx;exact SeqAt.EqAt.int_str a t' b t
   | _=>exact absurd (show false=true from fx) Bool.false_ne_true
 | str a =>
   obtain ⟨t',rfl⟩:=ry;cases x with
   | aR=>cases rx;exact SeqAt.EqAt.str_none a t'
   | bl b=>cases rx;exact SeqAt.EqAt.str_bool a t' b
   | int b=>obtain ⟨t,rfl⟩:=rx;exact SeqAt.EqAt.str_int a t' b t
   | str b=>obtain ⟨t,rfl⟩:=rx;exact SeqAt.EqAt.str_str a t' b t
   | _=>exact absurd (show false=true from fx) Bool.false_ne_true
 | _=>exact absurd (show false=true from fy) Bool.false_ne_true
def iW (x:V) (u:Value):Bool:=match u with
 | .none=>k8 .aR x
 | .bool b=>k8 (.bl b) x
 | .int i _=>k8 (.int i) x
 | .str z _=>k8 (.str z) x
 | _=>false
theorem AU {x y:V} {u:Value} (r:RelV y u) (f:eI y=true):iW x u=k8 y x:=by
 cases y with
 | aR=>cases r;rfl
 | bl b=>cases r;rfl
 | int i=>obtain ⟨t,rfl⟩:=r;rfl
 | str z=>obtain ⟨t,rfl⟩:=r;rfl
 | _=>exact absurd (show false=true from f) Bool.false_ne_true
theorem kf {x : V} : ∀ {xs : List V} {us : List Value}, a_ xs us → xs.all eI = true → us.any (iW x) = xs.any fun y => k8 y x
 | _,_,.nil,_=>rfl
 | y :: xs, u :: us, .cons r t, f => by
   rw [List.all_cons,Bool.and_eq_true] at f;rw [List.any_cons,List.any_cons,AU r f.1,kf t f.2]
theorem iT {A : Around} {s : Shared} {x : V} {v : Value} (rx : RelV x v) (fx : eI x = true) : ∀ {xs : List V} {us : List Value}, a_ xs us → xs.all eI = true → ∀ u ∈ us, SeqAt.EqAt A s u v (iW x u)
 | _,_,.nil,_=>fun u hu=>by cases hu
 | y :: xs, u :: us, .cons r t, f => fun u' hu => by
   rw [List.all_cons,Bool.and_eq_true] at f;rcases List.mem_cons.mp hu with rfl | hu
   · rw [AU r f.1];exact Hg r rx f.1 fx
   · exact iT rx fx t f.2 u' hu
def fE (x:V) (xs:List V):Bool:=xs.any fun y=>k8 y x
def vW (K:W.Frag) (neg:Bool):R2:=fun x y H Q=>∃ p xs,y=.ref p∧(aA K H p xs∨aZ K H p xs)∧eI x=true∧xs.all eI=true∧Q (.bl (if neg then !fE x xs else fE x xs)) H
theorem AS:cb X (compareOp .In) (vW X.K false):=by
 intro pins s σ H x y v u Q I rx ry h;obtain ⟨p,xs,rfl,hq,fx,fs,q⟩:=h;cases ry
 rcases hq with hq | hq
 · obtain ⟨its, r, pl, hz⟩ := I.list hq;refine SeqAt.in_listAt (iW x) pl.isList (fun w hw=>iT rx fx r fs w (by simpa using hw)) ⟨.bl _,H,I,rfl,?_⟩;rw [show its.toArray.any (iW x)=its.any (iW x) by simp,kf r fs];exact q
 · obtain ⟨its, r, pl, hz⟩ := I.tuple hq;refine SeqAt.in_tupleAt (iW x) pl (fun w hw=>iT rx fx r fs w (by simpa using hw)) ⟨.bl _,H,I,rfl,?_⟩;rw [show its.toArray.any (iW x)=its.any (iW x) by simp,kf r fs];exact q
theorem vt:cb X (compareOp .NotIn) (vW X.K true):=by
 intro pins s σ H x y v u Q I rx ry h;obtain ⟨p,xs,rfl,hq,fx,fs,q⟩:=h;cases ry
 rcases hq with hq | hq
 · obtain ⟨its, r, pl, hz⟩ := I.list hq;refine SeqAt.notIn_listAt (iW x) pl.isList (fun w hw=>iT rx fx r fs w (by simpa using hw)) ⟨.bl _,H,I,rfl,?_⟩;rw [show its.toArray.any (iW x)=its.any (iW x) by simp,kf r fs];exact q
 · obtain ⟨its, r, pl, hz⟩ := I.tuple hq;refine SeqAt.notIn_tupleAt (iW x) pl (fun w hw=>iT rx fx r fs w (by simpa using hw)) ⟨.bl _,H,I,rfl,?_⟩;rw [show its.toArray.any (iW x)=its.any (iW x) by simp,kf r fs];exact q
theorem wc:cR X (.type "list") (fun xs H Q=>∃ p ys,xs=[.ref p]∧(aA X.K H p ys∨aZ X.K H p ys)∧∀ l,H l=none→Q (.ref l) (upd H l (.lst ys))):=by
 intro pins s σ H xs us Q I r h;obtain ⟨p,ys,rfl,hq,q⟩:=h;obtain ⟨u,rfl,rx⟩:=vals1 r;cases rx
 have fin : ∀ (its : List Value), a_ ys its → ys.length ≤ sizeLine → ∀ (h' : Heap) (c' : Nat), (∀ b o', s.heap.get? b = some o' → h'.get? b = some o') →
     h'.get? s.heap.objs.size=some { cls:=.type "list",dict:=none,data:=.seq its.toArray c',slots:=#[] }→EP X pins σ Q (.ref s.heap.objs.size) { s with heap:=h' }:=fun its r' hz h' c' kp e =>
   ⟨.ref s.heap.objs.size,_,I.laid (t':=s.toks) kp (Nat.le_refl _) (show cu X.prog X.w _ h' _ (.lst ys) from ⟨hz,its,c',r',e⟩),rfl,q _ (I.aG.fresh (Nat.le_refl _))⟩
 rcases hq with hq | hq
 · obtain ⟨its, r', pl, hz⟩ := I.list hq;have hlen:=r'.length;obtain ⟨o,ho,hc,n,hd⟩:=pl.isList;exact call_list_seq p (.inl rfl) ho hc hd (fun h' c' kp e=>fin its r' hz h' c' kp e) (by simp only [List.size_toArray] <;> omega)
 · obtain ⟨its, r', pl, hz⟩ := I.tuple hq;have hlen:=r'.length;obtain ⟨o,ho,hc,n,hd⟩:=pl;exact call_list_seq p (.inr rfl) ho hc hd (fun h' c' kp e=>fin its r' hz h' c' kp e) (by simp only [List.size_toArray] <;> omega)
def vy (K:W.Frag) (T:String) (x:V) (H:Hp):Prop:=match x with
 | .str _=>T = "str"
 | .int _=>T = "int"
 | .ref p => (T = "list" ∧ ∃ xs, aA K H p xs) ∨ (T = "tuple" ∧ ∃ o, K.lookup p = some o ∧ o.cls = .type "tuple" ∧ o.dict = none) ∨
     (T = "dict"∧((∃ kvs,H p=some (.dK kvs))∨∃ kvs,H p=some (.dT kvs)))∨(T = "set"∧∃ S n,H p=some (.set S n))
 | _=>False
theorem AD {pins : List (Addr × Obj)} {σ : St} {H : Hp} {s : Shared} {T : String} {x : V} {v : Value} (I : Inv X pins σ H s) (r : RelV x v) (ty : vy X.K T x H) :
   s.TypeIs v T∧∀ a,v=.ref a→∃ ob,s.heap.get? a=some ob∧ob.dict=none:=by
 cases x with
 | str z =>
   obtain ⟨t,rfl⟩:=r;cases (show T = "str" from ty)
   exact ⟨typeIs_str s z t,fun _ e=>nomatch e⟩
 | int i =>
   obtain ⟨t,rfl⟩:=r;cases (show T = "int" from ty)
   exact ⟨typeIs_int s i t,fun _ e=>nomatch e⟩
 | ref p =>
   cases r
   rcases ty with ⟨rfl,xs,hq⟩ | ⟨rfl,o,hk,hc,hd⟩ | ⟨rfl,hk⟩ | ⟨rfl,S,n,hk⟩
   · obtain ⟨its, _, pl, _⟩ := I.list hq;refine ⟨pl.isList.typeIs,fun a e=>?_⟩;cases e
     obtain ⟨o,n,e,c,hd,_⟩:=pl;exact ⟨o,e,hd⟩
   · refine ⟨⟨o, I.el p o hk, hc⟩, fun a e => ?_⟩;cases e
     exact ⟨o,I.el _ o hk,hd⟩
   · have z : ∃ o, s.heap.get? p = some o ∧ o.ExactDict := by
       rcases hk with ⟨kvs,hk⟩ | ⟨kvs,hk⟩
       · obtain ⟨_, _, _, _, o, _, _, e, ex, _⟩ := I.aG p _ hk;exact ⟨o,e,ex⟩
       · obtain ⟨_, _, _, _, o, _, _, e, ex, _⟩ := I.aG p _ hk;exact ⟨o,e,ex⟩
     obtain ⟨o,e,ex⟩:=z;refine ⟨⟨o,e,ex.1⟩,fun a e2=>?_⟩;cases e2
     exact ⟨o,e,ex.2.1⟩
   · obtain ⟨o, _, _, _, e, ex, _⟩ := I.aG p _ hk;refine ⟨⟨o,e,ex.1⟩,fun a e2=>?_⟩;cases e2
     exact ⟨o,e,ex.2.1⟩
 | _=>exact False.elim ty
def By (K:W.Frag) (T:String) (r:V→List V→Hp→VK→Prop) (to:TE):TE:=fun σ H Q=>to σ H fun x H1=>vy K T x H1∧r x [] H1 Q
def FE (K:W.Frag) (T:String) (r:V→List V→Hp→VK→Prop) (to:TE) (t:TA):TE:=fun σ H Q=>to σ H fun x H1=>vy K T x H1∧t σ H1 fun xs H2=>r x xs H2 Q
variable {o e:Expr} {es:List Expr} {to:TE} {t:TA} {name:Str} {apos cpos:Pos} {T id:String} {r:V→List V→Hp→VK→Prop}
theorem G9 (pa : PlainAttrs T) (slot : Slot T name id) (hty : typeOf (.builtin id) = pure (.type "method_descriptor")) (hm : Du X id r) (ho : PE X o to)
   (hbase:attributeBase o name X.env (eval o X.env)=eval o X.env:=by rfl) (hline:(apos.endLine == cpos.line)=true:=by rfl):PE X (.Call (.Attribute o name apos) [] [] cpos) (By X.K T r to):=by
 intro pins s σ H Q I h;refine wpAny_Call_method0_late hbase hline (br (ho pins s σ H _ I h) fun v s1 ⟨x,H1,I1,r1,ty,q1⟩=>?_);obtain ⟨h1,h2⟩:=AD I1 r1 ty;exact ⟨T,id,pa,slot,hty,h1,h2,Calls.callWith_builtin rfl (PySem.evalArgs_none (hm pins s1 σ H1 x [] v [] Q I1 r1 .nil q1))⟩
theorem L8 (pa : PlainAttrs T) (slot : Slot T name id) (hty : typeOf (.builtin id) = pure (.type "method_descriptor")) (hm : Du X id r) (ho : PE X o to) (ha : PA X (e :: es) t)
   (hbase:attributeBase o name X.env (eval o X.env)=eval o X.env:=by rfl)
   (hfew : ((backTo cpos (starEach (e :: es) X.env)).all (fun x => !x.1) && (backToKw cpos (keywordEach [] X.env)).all (fun x => x.1.isSome)
     && decide ((e::es).length+([]:List Keyword).length+(if ([]:List Keyword).isEmpty then 0 else 1)<30))=true:=by rfl)
   (hline:(apos.endLine == cpos.line)=true:=by rfl) (hs:starEach (e::es) X.env=(false,eval e X.env)::starEach es X.env:=by rfl) (hplain:(backTo cpos (starEach es X.env)).any (·.1)=false:=by rfl) :
   PE X (.Call (.Attribute o name apos) (e::es) [] cpos) (FE X.K T r to t):=by
 intro pins s σ H Q I h;refine wpAny_Call_method_late hbase hfew hline rfl (br (ho pins s σ H _ I h) fun v s1 ⟨x,H1,I1,r1,ty,q1⟩=>?_);obtain ⟨h1,h2⟩:=AD I1 r1 ty;refine ⟨T,id,pa,slot,hty,h1,h2,?_⟩;have hA:=ha cpos pins s1 σ H1 _ I1 q1;rw [hs] at hA ⊢;refine Calls.callWith_builtin (by show (false || (backTo cpos (starEach es X.env)).any (·.1))=false;rw [hplain] <;> rfl) (Calls.evalArgs_plain ?_);exact br hA fun us s2 ⟨vs,H2,I2,r2,q2⟩=>hm pins s2 σ H2 x vs v us Q I2 r1 r2 q2
end
end L2
namespace L2
open PySem PySem.Spec PyProof.Rows
def Fo (X:Cx) (id:String) (r:V→List V→Hp→VK→Prop):Prop :=
 ∀ (pins : List (Addr × Obj)) (s : Shared) (σ : St) (H : Hp) (x : V) (xs : List V) (v : Value) (us : List Value) (Q : VK), Inv X pins σ H s → RelV x v → a_ xs us → r x xs H Q →
   wpAny (model X.prog X.w) X.A (call (.builtin id) (v::us)) (EP X pins σ Q) X.xe s
theorem a_.one : ∀ {x : V} {us : List Value}, a_ [x] us → ∃ u, us = [u] ∧ RelV x u
 | _,_,.cons r .nil=>⟨_,rfl,r⟩
theorem a_.zero : ∀ {us : List Value}, a_ [] us → us = []
 | _,.nil=>rfl
theorem a_.dropLast {xs:List V} {us:List Value} (h:a_ xs us):a_ xs.dropLast us.dropLast:=by
 induction h with
 | nil=>exact .nil
 | cons r t ih =>
   cases t with
   | nil=>exact .nil
   | cons q t'=>exact .cons r ih
theorem a_.rep {xs : List V} {us : List Value} (h : a_ xs us) : ∀ k : Nat, a_ (List.replicate k xs).flatten (List.replicate k us).flatten
 | 0=>.nil
 | k + 1 => by
   rw [List.replicate_succ,List.replicate_succ,List.flatten_cons,List.flatten_cons];exact a_.append h (a_.rep h k)
theorem zd {α : Type} (l:List α):l.eraseIdx (l.length - 1)=l.dropLast:=by
 induction l with
 | nil=>rfl
 | cons a r ih =>
   cases r with
   | nil=>rfl
   | cons b r =>
     have e:(a::b::r).length - 1=((b::r).length - 1)+1:=by
       have h1:(a::b::r).length=r.length+2:=rfl;have h2:(b::r).length=r.length+1:=rfl;omega
     rw [e,List.eraseIdx_cons_succ,ih];all_goals rfl
theorem foldl_rep (its : List Value) : ∀ (k : Nat) (acc : List Value),
   List.foldl (fun x1 x2=>x1++x2) acc.toArray (List.replicate k its.toArray)=(acc++(List.replicate k its).flatten).toArray
 | 0,acc=>by simp
 | k + 1, acc => by
   have e:acc.toArray++its.toArray=(acc++its).toArray:=by simp
   have e2:(acc++its)++(List.replicate k its).flatten=acc++(List.replicate (k+1) its).flatten:=by
     rw [List.replicate_succ,List.flatten_cons,List.append_assoc]
   rw [← e2,← foldl_rep its k (acc++its),← e,List.replicate_succ,List.foldl_cons]
section
variable {X:Cx} {pins:List (Addr×Obj)} {σ : St} {H:Hp} {s:Shared} {l b:Addr} {xs ys zs:List V}
theorem Inv.Cr {its its' : List Value} {n : Nat} {f : Array Value → Array Value} {t' : Nat} (I : Inv X pins σ H s) (hH : H l = some (.lst xs))
   (e:s.heap.get? l=some { cls:=.type "list",data:=.seq its.toArray n }) (hf:f its.toArray=its'.toArray) (hv:a_ ys its') (hz:ys.length≤sizeLine) :
   Inv X pins σ (upd H l (.lst ys)) { s with heap:=s.heap.update l (Obj.mapSeq f),toks:=t' }:=by
 have q:=PySem.IsL.update e f;rw [hf] at q;refine I.write (x:=l) (e:=l) (by rw [hH];exact trivial) (.inl rfl) (fun b' u hb hu=>(Heap.get?_update_other s.heap (Obj.mapSeq f) (Ne.symm hb)).trans hu) ⟨_,q⟩ ?_;exact ⟨hz,its',_,hv,q⟩
theorem Inv.G8 {its : List Value} {t' : Nat} (I : Inv X pins σ H s) (hv : a_ ys its) (hz : ys.length ≤ sizeLine) :
   Inv X pins σ (upd H s.heap.objs.size (.lst ys)) { s with heap:=s.heap.push { cls:=.type "list",data:=.seq its.toArray },toks:=t' } :=
 I.laid (fun _ _ q=>Heap.get?_push_of_some _ q) (Nat.le_refl _) ⟨hz,its,0,hv,Heap.get?_push_size _ rfl⟩
theorem Inv.fresh (I:Inv X pins σ H s):H s.heap.objs.size=none:=I.aG.fresh (Nat.le_refl _)
theorem Inv.oA (I:Inv X pins σ H s) (hH:H l=some (.lst xs)):xs.length≤sizeLine∧∃ (its:List Value) (n:Nat),a_ xs its∧xs.length=its.length∧s.heap.get? l=some { cls:=.type "list",data:=.seq its.toArray n }:=by
 obtain ⟨z,its,n,r,e⟩:=I.aG l _ hH;exact ⟨z,its,n,r,r.length,e⟩
theorem ue {n:Nat} (h:n≤sizeLine):Builtin.List.listTooLong n=false:=by
 unfold Builtin.List.listTooLong;exact decide_eq_false (by omega)
end
section
variable {X:Cx}
def xb:V→List V→Hp→VK→Prop:=fun x vs H Q=>∃ l xs y,x=.ref l∧vs=[y]∧H l=some (.lst xs)∧xs.length<sizeLine∧Q .aR (upd H l (.lst (xs++[y])))
theorem bM:Fo X "list.append" xb:=by
 intro pins s σ H x vs v us Q I rx rv h;obtain ⟨l,xs,y,rfl,rfl,hH,hz,q⟩:=h;cases rx
 obtain ⟨u,rfl,ru⟩:=rv.one;obtain ⟨z,its,n,r,hl,e⟩:=I.oA hH;refine call_meets F.slot_list_append ⟨_,e,rfl⟩ F.entry_list_append (F.args_list_append_2 _ _) (PySem.list_append l its.toArray n u (by rw [List.size_toArray];omega)) ⟨e,?_⟩;refine ⟨.aR,_,I.Cr (its':=its++[u]) hH e (by simp) (r.append (.cons ru .nil)) ?_,rfl,q⟩;rw [List.length_append,List.length_singleton];omega
def xU:V→List V→Hp→VK→Prop:=fun x vs H Q=>∃ l b xs zs,x=.ref l∧vs=[.ref b]∧H l=some (.lst xs)∧H b=some (.lst zs)∧xs.length+zs.length≤sizeLine∧Q .aR (upd H l (.lst (xs++zs)))
theorem Ac:Fo X "list.extend" xU:=by
 intro pins s σ H x vs v us Q I rx rv h;obtain ⟨l,b,xs,zs,rfl,rfl,hH,hB,hz,q⟩:=h;cases rx
 obtain ⟨u,rfl,ru⟩:=rv.one;cases ru
 obtain ⟨z,its,n,r,hl,e⟩:=I.oA hH;obtain ⟨z2,its2,n2,r2,hl2,e2⟩:=I.oA hB;have hsz:its.toArray.size+its2.toArray.size≤sizeLine:=by rw [List.size_toArray,List.size_toArray];omega
 have hlong : ¬ (!its.toArray.isEmpty && Builtin.List.listTooLong (its.toArray.size+its2.toArray.size))=true:=by
   rw [ue hsz,Bool.and_false];exact Bool.false_ne_true
 refine call_meets F.slot_list_extend ⟨_, e, rfl⟩ F.entry_list_extend (F.args_list_extend_2 _ _)
   (AutoSeq1.list_extend_list_list_0 l its.toArray n b its2.toArray n2 hlong (by rw [List.size_toArray];omega) (by omega)) ⟨e,e2,?_⟩
 refine ⟨.aR,_,I.Cr (its':=its++its2) hH e (by simp) (r.append r2) ?_,rfl,q⟩;rw [List.length_append];omega
def Gp:V→List V→Hp→VK→Prop:=fun x vs H Q=>∃ l xs y,x=.ref l∧vs=[]∧H l=some (.lst xs)∧xs[xs.length - 1]? = some y∧Q y (upd H l (.lst xs.dropLast))
theorem EY:Fo X "list.pop" Gp:=by
 intro pins s σ H x vs v us Q I rx rv h;obtain ⟨l,xs,y,rfl,rfl,hH,hy,q⟩:=h;cases rx
 have hus:=rv.zero;subst hus;obtain ⟨z,its,n,r,hl,e⟩:=I.oA hH;obtain ⟨u,hu,ru⟩:=r.get hy;have hy':its.toArray[its.toArray.size - 1]? = some u:=by
   show its.toArray[its.length - 1]? = some u;rw [← Array.getElem?_toList,← hl];exact hu
 refine call_meets F.slot_list_pop ⟨_,e,rfl⟩ F.entry_list_pop (F.args_list_pop_1 _) (MeetsSeq.list_pop_last l its.toArray n u hy' (by rw [List.size_toArray];omega)) ⟨e,?_⟩;refine ⟨y,_,I.Cr (its':=its.dropLast) hH e ?_ r.dropLast ?_,ru,q⟩
 · show its.toArray.eraseIdxIfInBounds (its.toArray.size - 1) = its.dropLast.toArray;rw [List.size_toArray,List.eraseIdxIfInBounds_toArray,zd]
 · rw [List.length_dropLast];omega
def Gj:R2:=fun x y H Q=>∃ l b xs zs,x=.ref l∧y=.ref b∧H l=some (.lst xs)∧H b=some (.lst zs)∧xs.length+zs.length≤sizeLine∧∀ p,H p=none→Q (.ref p) (upd H p (.lst (xs++zs)))
theorem GJ:cb X (binaryOp .Add) Gj:=by
 intro pins s σ H x y v u Q I rx ry h;obtain ⟨l,b,xs,zs,rfl,rfl,hH,hB,hz,q⟩:=h;cases rx
 cases ry
 obtain ⟨z,its,n,r,hl,e⟩:=I.oA hH;obtain ⟨z2,its2,n2,r2,hl2,e2⟩:=I.oA hB;refine PySem.P.add_list e e2 ?_ (by rw [List.size_toArray,List.size_toArray];omega);have ea:its.toArray++its2.toArray=(its++its2).toArray:=by simp
 rw [ea];exact ⟨.ref _,_,I.G8 (t':=s.toks) (r.append r2) (by rw [List.length_append];omega),rfl,q _ I.fresh⟩
def Fc : R2 := fun x y H Q => ∃ l k xs, x = .ref l ∧ y = .int k ∧ H l = some (.lst xs) ∧ -(2 ^ 63) ≤ k ∧ k < 2 ^ 63 ∧ xs.length * k.toNat ≤ sizeLine ∧
 ∀ p,H p=none→Q (.ref p) (upd H p (.lst (List.replicate k.toNat xs).flatten))
theorem len_rep {α : Type} (xs:List α) (k:Nat):(List.replicate k xs).flatten.length=k*xs.length:=by
 induction k with
 | zero=>simp
 | succ k ih=>rw [List.replicate_succ,List.flatten_cons,List.length_append,ih,Nat.succ_mul,Nat.add_comm]
theorem FK:cb X (binaryOp .Mult) Fc:=by
 intro pins s σ H x y v u Q I rx ry h;obtain ⟨l,k,xs,rfl,rfl,hH,h1,h2,hz,q⟩:=h;cases rx
 obtain ⟨t,rfl⟩:=ry;obtain ⟨z,its,n,r,hl,e⟩:=I.oA hH;have hlen:its.toArray.size*k.toNat≤sizeLine:=by rw [List.size_toArray,← hl];exact hz
 have hcap : ¬ its.toArray.size*k.toNat > (2 ^ 63 - 1)/8:=by
   have:(sizeLine:Nat)≤(2 ^ 63 - 1)/8:=by decide
   omega
 have hfit : ¬ (!Builtin.List.listFitsIndex k)=true:=by
   rw [fitsIndex_both h1 h2];exact Bool.false_ne_true
 have hlong : ¬ Builtin.List.listTooLong (its.toArray.size*k.toNat)=true:=by
   rw [ue hlen];exact Bool.false_ne_true
 have hnew:List.foldl (fun x1 x2=>x1++x2) #[] (List.replicate (if its.toArray.isEmpty=true then 0 else k.toNat) its.toArray)=(List.replicate k.toNat its).flatten.toArray:=by
   have f0:∀ m:Nat,List.foldl (fun x1 x2=>x1++x2) #[] (List.replicate m its.toArray)=(List.replicate m its).flatten.toArray:=fun m=>by
     have:=foldl_rep its m []
     rw [List.nil_append] at this;exact this
   rw [f0];cases its with
   | nil=>simp
   | cons a r'=>rw [if_neg (by simp)]
 refine wpAny_binaryOp_repeat_ref (T := "list") (U := "int") (by decide) ⟨_, e, rfl⟩ (fun s' => typeIs_int s' k t) noFill_list_mul F.fills_int_mul F.slot_int_rmul repeat_list F.slot_int_index.lookup
   (call_meets F.slot_int_rmul (typeIs_int s k t) F.entry_int_rmul (F.args_int_rmul_2 _ _) (int___rmul___int_list k t l its.toArray n)
     ⟨e,rfl,⟨_,e,rfl⟩,call_meets F.slot_list_mul ⟨_,e,rfl⟩ F.entry_list_mul (F.args_list_mul_2 _ _) (AutoListH.list___mul___list_int_3 l its.toArray n k t hfit hcap hlong) ⟨e,?_⟩⟩)
 rw [hnew];exact ⟨.ref _,_,I.G8 (t':=s.toks) (r.rep k.toNat) (by rw [len_rep,Nat.mul_comm];exact hz),rfl,q _ I.fresh⟩
end
end L2
namespace L2
open PySem PySem.Spec PyProof.Rows
section
variable {κ : Type} [DecidableEq κ]
def dU (kvs:List (κ×V)) (k : κ):Option V:=(kvs.find? fun kv=>decide (kv.1=k)).map (·.2)
def putK (kvs:List (κ×V)) (k : κ) (v:V):List (κ×V) :=
 if (kvs.any fun kv=>decide (kv.1=k))=true then kvs.map (fun kv=>if kv.1=k then (kv.1,v) else kv) else kvs++[(k,v)]
theorem kl {p : κ×V} {r:List (κ×V)} {k : κ} (e:p.1=k):dU (p::r) k=some p.2:=by simp [dU,List.find?_cons,e]
theorem iR {p : κ×V} {r:List (κ×V)} {k : κ} (e : ¬ p.1=k):dU (p::r) k=dU r k:=by simp [dU,List.find?_cons,e]
theorem je (k : κ) : ∀ kvs : List (κ × V), (kvs.any fun kv => decide (kv.1 = k)) = (dU kvs k).isSome
 | []=>rfl
 | p :: r => by
   rw [List.any_cons];by_cases e:p.1=k
   · simp only [kl e,decide_eq_true e,Bool.true_or,Option.isSome_some]
   · rw [iR e,decide_eq_false e,Bool.false_or];exact je k r
theorem ny (kvs:List (κ×V)) (k : κ) (v:V):(putK kvs k v).length≤kvs.length+1:=by
 unfold putK;split
 · rw [List.length_map];omega
 · rw [List.length_append,List.length_cons,List.length_nil];omega
theorem BF {kvs:List (κ×V)} {k : κ} (v:V) (h:dU kvs k=none):putK kvs k v=kvs++[(k,v)]:=by
 unfold putK;rw [je,h];exact if_neg (by decide)
theorem fg.lN {o:Option V} {u:Option Value} (r:fg o u):o.isSome=u.isSome:=by
 cases o with
 | none => cases u with
   | none=>rfl
   | some _=>exact (show False from r).elim
 | some _ => cases u with
   | none=>exact (show False from r).elim
   | some _=>rfl
theorem KV.val {kvs:List (κ×V)} {vs:List (κ×Value)} (r:KV kvs vs) (k : κ):fg (dU kvs k) (valueAt vs k):=by
 unfold KV at r
 induction r with
 | nil=>exact True.intro
 | @cons p q ps qs h t ih =>
   obtain ⟨h1,h2⟩:=h;by_cases e:p.1=k
   · have e' : q.1 = k := h1.symm.trans e;have b:valueAt (q::qs) k=some q.2:=by simp [valueAt,List.find?_cons,e']
     rw [kl e,b];exact h2
   · have e' : ¬ q.1 = k := fun z => e (h1.trans z);have b:valueAt (q::qs) k=valueAt qs k:=by simp [valueAt,List.find?_cons,e']
     rw [iR e,b];exact ih
theorem KV.any {kvs:List (κ×V)} {vs:List (κ×Value)} (r:KV kvs vs) (k : κ):(kvs.any fun kv=>decide (kv.1=k))=vs.any fun kv=>decide (kv.1=k):=by
 unfold KV at r
 induction r with
 | nil=>rfl
 | cons h t ih=>rw [List.any_cons,List.any_cons,ih,h.1]
theorem KV.BY {kvs : List (κ × V)} {vs : List (κ × Value)} (r : KV kvs vs) (k : κ) {y : V} {u : Value} (ry : RelV y u) :
   KV (kvs.map fun kv=>if kv.1=k then (kv.1,y) else kv) (vs.map fun kv=>if kv.1=k then (kv.1,u) else kv):=by
 unfold KV at r ⊢
 induction r with
 | nil=>exact .nil
 | @cons p q ps qs h t ih =>
   rw [List.map_cons,List.map_cons];refine .cons ?_ ih;obtain ⟨h1,h2⟩:=h;by_cases e:p.1=k
   · rw [if_pos e,if_pos (h1.symm.trans e)];exact ⟨h1,ry⟩
   · rw [if_neg e,if_neg (fun z=>e (h1.trans z))];exact ⟨h1,h2⟩
theorem KV.put {kvs:List (κ×V)} {vs:List (κ×Value)} (r:KV kvs vs) (k : κ) {y:V} {u:Value} (ry:RelV y u):KV (putK kvs k y) (stored vs k u):=by
 unfold putK stored;rw [r.any k];by_cases e:(vs.any fun kv=>decide (kv.1=k))=true
 · rw [if_pos e,if_pos e];exact r.BY k ry
 · rw [if_neg e,if_neg e];exact Paired.snoc r ⟨rfl,ry⟩
theorem KV.length {kvs:List (κ×V)} {vs:List (κ×Value)} (r:KV kvs vs):kvs.length=vs.length:=Paired.length r
end
theorem tQ {P:Program} {w:World} {k:Key} {u:Value} (r:RelV (kV k) u):(cX P w).is k u=true:=by
 cases k with
 | inl i=>obtain ⟨t,e⟩:=(show ∃ t,u=Value.int i t from r);subst e;exact wV P w i t
 | inr x=>obtain ⟨t,e⟩:=(show ∃ t,u=Value.str x t from r);subst e;exact wH P w x t
theorem rM {P : Program} {w : World} : ∀ {ks : List Key} {us : List Value}, a_ (ks.map kV) us → ItemsAre (cX P w) ks us
 | [],_,r=>by rw [List.map_nil] at r;cases r;exact .nil
 | k :: ks, _, r => by
   rw [List.map_cons] at r;cases r with
   | cons h t=>exact .cons (tQ h) (rM t)
abbrev KT (H:Hp):List (List Key×V)→List (List Key×Addr×Value)→Prop:=Paired fun p q=>p.1=q.1∧H q.2.1=some (.tup (p.1.map kV))∧RelV p.2 q.2.2
theorem KT.val {H:Hp} {kvs:List (List Key×V)} {xs:List (List Key×Addr×Value)} (r:KT H kvs xs) (k:List Key):fg (dU kvs k) ((atKey xs k).map (·.2)):=by
 induction r with
 | nil=>exact True.intro
 | @cons p q ps qs h t ih =>
   obtain ⟨h1,_,h2⟩:=h;by_cases e:p.1=k
   · have e' : q.1 = k := h1.symm.trans e;have b:atKey (q::qs) k=some q.2:=by simp [atKey,List.find?_cons,e']
     rw [kl e,b];exact h2
   · have e' : ¬ q.1 = k := fun z => e (h1.trans z);have b:atKey (q::qs) k=atKey qs k:=by simp [atKey,List.find?_cons,e']
     rw [iR e,b];exact ih
theorem KT.BY {H : Hp} {kvs : List (List Key × V)} {xs : List (List Key × Addr × Value)} (r : KT H kvs xs) (k : List Key) {y : V} {u : Value} (ry : RelV y u) :
   KT H (kvs.map fun kv=>if kv.1=k then (kv.1,y) else kv) (xs.map (putAt k u)):=by
 induction r with
 | nil=>exact .nil
 | @cons p q ps qs h t ih =>
   rw [List.map_cons,List.map_cons];refine .cons ?_ ih;obtain ⟨h1,h2,h3⟩:=h;unfold putAt;by_cases e:p.1=k
   · rw [if_pos e,if_pos (h1.symm.trans e)];exact ⟨h1,h2,ry⟩
   · rw [if_neg e,if_neg (fun z=>e (h1.trans z))];exact ⟨h1,h2,h3⟩
theorem KT.put {H : Hp} {kvs : List (List Key × V)} {xs : List (List Key × Addr × Value)} (r : KT H kvs xs) (k : List Key) {b : Addr} {y : V} {u : Value} (hb : H b = some (.tup (k.map kV))) (ry : RelV y u) :
   KT H (putK kvs k y) (storedH xs k b u):=by
 have e:(kvs.any fun kv=>decide (kv.1=k))=(atKey xs k).isSome:=by
   rw [je,(r.val k).lN,Option.isSome_map]
 unfold putK storedH;rw [e];by_cases q:(atKey xs k).isSome=true
 · rw [if_pos q,if_pos q];exact r.BY k ry
 · rw [if_neg q,if_neg q];exact Paired.snoc r ⟨rfl,hb,ry⟩
theorem KT.keeps {H H':Hp} {kvs:List (List Key×V)} {xs:List (List Key×Addr×Value)} (r:KT H kvs xs) (ht:∀ b ys,H b=some (.tup ys)→H' b=some (.tup ys)):KT H' kvs xs :=
 Paired.Co r fun _ _ z=>⟨z.1,ht _ _ z.2.1,z.2.2⟩
section
variable {P:Program} {w:World} {H:Hp} {h:Heap} {a:Addr}
theorem C8 {u:HO} (ok:dA P w H h) (e:Rd H a u):cu P w H h a u:=e.ok ok
theorem gS {kvs:List (Key×V)} (ok:dA P w H h) (e:Rd H a (.dK kvs)):kvs.length≤sizeLine∧(a == sysModules)=false∧∃ vs,KV kvs vs∧h.DictOf (cX P w) a vs :=
 show cu P w H h a (.dK kvs) from C8 ok e
theorem Qs {kvs:List (Key×V)} (ok:dA P w H h) (e:H a=some (.dK kvs)):kvs.length≤sizeLine∧(a == sysModules)=false∧∃ vs,KV kvs vs∧h.DictOf (cX P w) a vs:=gS ok (.inl e)
theorem pR {ks:List Key} (ok:dA P w H h) (e:H a=some (.tup (ks.map kV))):(tupleKind (cX P w)).is h ks a:=by
 obtain ⟨_,its,r,o,h1,h2,n,h3⟩:=(show cu P w H h a (.tup (ks.map kV)) from ok a _ e)
 exact ⟨o,its.toArray,n,h1,h2,h3,by simpa using rM r⟩
theorem tO {kvs : List (List Key × V)} (ok : dA P w H h) (e : Rd H a (.dT kvs)) : kvs.length ≤ sizeLine ∧ (a == sysModules) = false ∧
   ∃ xs,KT H kvs xs∧h.DictOfH (tupleKind (cX P w)) a xs:=by
 obtain ⟨z,y,xs,r,o,es,ep,h1,h2,h3,h4,h5⟩:=(show cu P w H h a (.dT kvs) from C8 ok e)
 refine ⟨z,y,xs,r,o,es,ep,h1,h2,h3,h4,fun x hx=>?_,h5⟩;have all:∀ {l:List (List Key×V)} {m:List (List Key×Addr×Value)},KT H l m→∀ x∈m,(tupleKind (cX P w)).is h x.1 x.2.1:=by
   intro l m q
   induction q with
   | nil=>intro x hx;exact nomatch hx
   | @cons p q ps qs hq t ih =>
     intro x hx;rcases List.mem_cons.mp hx with e | hx
     · subst e;exact pR ok (by rw [← hq.1];exact hq.2.1)
     · exact ih x hx
 exact all r x hx
theorem PV {kvs : List (List Key × V)} (ok : dA P w H h) (e : H a = some (.dT kvs)) : kvs.length ≤ sizeLine ∧ (a == sysModules) = false ∧
   ∃ xs,KT H kvs xs∧h.DictOfH (tupleKind (cX P w)) a xs:=tO ok (.inl e)
end
def gh (H:Hp) (a:Addr) (y:V) (r:Option V):Prop :=
 (∃ kvs k,Rd H a (.dK kvs)∧y=kV k∧r=dU kvs k)∨∃ kvs k b,Rd H a (.dT kvs)∧y=.ref b∧H b=some (.tup (k.map kV))∧r=dU kvs k
def oB (H:Hp) (a:Addr) (y v:V) (H':Hp):Prop :=
 (∃ kvs k,H a=some (.dK kvs)∧y=kV k∧kvs.length<sizeLine∧H'=upd H a (.dK (putK kvs k v))) ∨
 ∃ kvs k b,H a=some (.dT kvs)∧y=.ref b∧H b=some (.tup (k.map kV))∧kvs.length<sizeLine∧H'=upd H a (.dT (putK kvs k v))
theorem gh.k {H:Hp} {a:Addr} {kvs:List (Key×V)} {k:Key} (e:H a=some (.dK kvs)):gh H a (kV k) (dU kvs k):=.inl ⟨kvs,k,.inl e,rfl,rfl⟩
theorem oB.k {H:Hp} {a:Addr} {kvs:List (Key×V)} {k:Key} {v:V} (e:H a=some (.dK kvs)) (hl:kvs.length<sizeLine):oB H a (kV k) v (upd H a (.dK (putK kvs k v))):=.inl ⟨kvs,k,e,rfl,hl,rfl⟩
section
variable {X:Cx} {pins:List (Addr×Obj)} {σ : St} {H:Hp} {s:Shared} {a:Addr} {y v:V} {u r:Value} {o:Option V} {A:Around} {E:Value→Shared→Prop}
theorem Inv.ml (I:Inv X pins σ H s):sysModules<s.heap.objs.size:=by
 have h:mainGlobals<s.heap.objs.size:=(I.mod.glob.keeps I.bk).lt;exact Nat.lt_trans (by decide) h
theorem zA {Q : Value → Shared → Prop} (hu : A.units + 1 < cLine) (I : Inv X pins σ H s) (g : gh H a y (some v)) (ry : RelV y u) (h : ∀ w' s', Inv X pins σ H s' → RelV v w' → Q w' s') :
   wpAny (model X.prog X.w) A (getItem (.ref a) u) Q E s:=by
 rcases g with ⟨kvs,k,e,ey,l⟩ | ⟨kvs,k,b,e,ey,eb,l⟩
 · subst ey;obtain ⟨z,hd,vs,rel,dd⟩:=gS I.aG e;obtain ⟨w',hw,rw'⟩:=fg.some_of (v:=v) (o:=valueAt vs k) (by rw [l];exact rel.val k);exact wpAny_getItem_of (tQ ry) dd.mapOf hw (h w' _ (I.tok _) rw')
 · subst ey;cases (show u=Value.ref b from ry)
   obtain ⟨z,hd,xs,rel,dd⟩:=tO I.aG e;obtain ⟨w',hw,rw'⟩:=fg.some_of (v:=v) (o:=(atKey xs k).map (·.2)) (by rw [l];exact rel.val k);obtain ⟨p,hp,hp2⟩:=Option.map_eq_some_iff.mp hw;refine wpAny_getItem_heap (tupleKind_room_in1 hu) (pR I.aG eb) dd hp ?_;rw [hp2];exact h w' _ (I.tok _) rw'
theorem Vp {Q : Value → Shared → Prop} (hu : A.units + 1 < cLine) (I : Inv X pins σ H s) (g : gh H a y o) (ry : RelV y u) (h : ∀ s', Inv X pins σ H s' → Q (.bool o.isSome) s') :
   wpAny (model X.prog X.w) A (compareOp .In u (.ref a)) Q E s:=by
 rcases g with ⟨kvs,k,e,ey,l⟩ | ⟨kvs,k,b,e,ey,eb,l⟩
 · subst ey;obtain ⟨z,hd,vs,rel,dd⟩:=gS I.aG e;refine wpAny_in_of (tQ ry) hd dd.mapOf ?_;rw [← (rel.val k).lN,← l];exact h _ (I.tok _)
 · subst ey;cases (show u=Value.ref b from ry)
   obtain ⟨z,hd,xs,rel,dd⟩:=tO I.aG e;refine wpAny_in_heap (tupleKind_room_in1 hu) (pR I.aG eb) hd dd ?_;have q:=(rel.val k).lN;rw [Option.isSome_map] at q;rw [← q,← l];exact h _ (I.tok _)
theorem xg {h' : Heap} {t' : Nat} {ob : HO} (I : Inv X pins σ H s) (mu : AN (H a)) (hs : Heap.SameBut a s.heap h') (he : ∃ q, h'.get? a = some q) (new : cu X.prog X.w (upd H a ob) h' a ob) :
   Inv X pins σ (upd H a ob) { s with heap:=h',toks:=t' } :=
 I.write (x:=a) (e:=a) mu (.inl rfl) (fun b q hb z=>(hs.2 b hb).trans z) he new
theorem AF {P : Program} {w : World} {H' : Hp} {h' : Heap} {kvs : List (Key × V)} {vs : List (Key × Value)} (z : kvs.length ≤ sizeLine) (hd : (a == sysModules) = false) (rel : KV kvs vs) (dd : h'.DictOf (cX P w) a vs) :
   cu P w H' h' a (.dK kvs):=⟨z,hd,vs,rel,dd⟩
theorem zX {H' : Hp} {Q : Unit → Shared → Prop} (hu : A.units + 1 < cLine) (I : Inv X pins σ H s) (g : oB H a y v H') (ry : RelV y u) (rv : RelV v r) (h : ∀ s', Inv X pins σ H' s' → Q () s') :
   wpAny (model X.prog X.w) A (setItem (.ref a) u r) Q E s:=by
 rcases g with ⟨kvs,k,e,ey,l,eH⟩ | ⟨kvs,k,b,e,ey,eb,l,eH⟩
 · subst ey eH;obtain ⟨z,hd,vs,rel,dd⟩:=Qs I.aG e;have hz:vs.length≤sizeLine:=by rw [← rel.length];exact z
   have hl:(putK kvs k v).length≤sizeLine:=by have:=ny kvs k v;omega
   refine wpAny_setItem_pairs (hsz:=hz) (tQ ry) dd fun h' dd' hs=>h _ ?_;have he:∃ q,h'.get? a=some q:=let ⟨q,_,_,hq,_⟩:=dd';⟨q,hq⟩;exact xg I (by rw [e];exact True.intro) hs he (AF hl hd (rel.put k rv) dd')
 · subst ey eH;cases (show u=Value.ref b from ry)
   obtain ⟨z,hd,xs,rel,dd⟩:=PV I.aG e;have hz:xs.length≤sizeLine:=by rw [← Paired.length rel];exact z
   have hl:(putK kvs k v).length≤sizeLine:=by have:=ny kvs k v;omega
   refine wpAny_setItem_heap (hsz:=hz) (tupleKind_room_in1 hu) (pR I.aG eb) dd fun h' dd' hs=>h _ ?_;obtain ⟨q,es,ep,hq,h2,h3,h4,_,h5⟩:=dd';refine xg I (by rw [e];exact True.intro) hs ⟨q,hq⟩ ⟨hl,hd,_,(rel.put k eb rv).keeps fun c ys ec=>?_,q,es,ep,hq,h2,h3,h4,h5⟩;rw [aw (DJ ec e (fun z=>nomatch z))];exact ec
end
section
variable {X:Cx} {pins:List (Addr×Obj)} {σ : St} {H:Hp} {s:Shared} {a:Addr} {kvs:List (Key×V)} {k:Key} {u:Value} {A:Around} {E:Value→Shared→Prop}
theorem HL {Q:Value→Shared→Prop} (I:Inv X pins σ H s) (e:Rd H a (.dK kvs)) (h:∀ t s',Inv X pins σ H s'→Q (.int kvs.length t) s'):wpAny (model X.prog X.w) A (call (.builtin "len") [.ref a]) Q E s:=by
 obtain ⟨z,hd,vs,rel,dd⟩:=gS I.aG e;refine call_len_dict hd dd (by rw [← rel.length];rw [sizeLine_eq] at z;omega) ?_;rw [← rel.length];exact h _ _ (I.tok _)
end
def F7 (i:Expr):Prop:=∀ ov iv,subscripted i false ov iv=operate [ov,iv] (getItem ov iv)
theorem EE {prog : Program} {w : World} {A : Around} {E : Value → Shared → Prop} {s : Shared} {env : Env} {value slice : Expr} {pos : Pos} {T id : String} {Q : Value → Shared → Prop}
   (hl:typeLookup (.type T) "__getitem__" = pure (some (.builtin id))) (hs:F7 slice)
   (h:wpAny (model prog w) A (eval value env) (fun o s₁=>wpAny (model prog w) A (eval slice env) (fun i s₂=>s₂.TypeIs o T∧wpAny (model prog w) A (getItem o i) Q E s₂) E s₁) E s) :
   wpAny (model prog w) A (eval (.Subscript value slice pos) env) Q E s:=by
 refine Subscript_ (wpAny_mono h (fun o s₁ h₁=>wpAny_mono h₁ (fun i s₂ h₂=>?_) fun _ _ x=>x) fun _ _ x=>x);obtain ⟨hT,h₂⟩:=h₂;unfold subscriptTail;refine wpAny_bind ?_;rw [getitemInPython_of_ne hT.not_modules];refine wpAny_bind (wpAny_specialOf hT hl ?_);have fin:wpAny (model prog w) A (subscripted slice false o i) (fun r s₃=>wpAny (model prog w) A (letTemporaryGo value o r >>= fun _=>pure r) Q E s₃) E s₂:=by
   rw [hs o i];exact wpAny_operating (wpAny_mono h₂ (fun r s₃ h₃=>wpAny_bind (wpAny_letTemporaryGo (wpAny_pure h₃))) fun _ _ x=>x)
 first
   | exact wpAny_pure (wpAny_bind fin)
   | exact wpAny_bind (wpAny_pure (wpAny_bind fin))
   | exact wpAny_bind fin
theorem wm {X:Cx} {pins:List (Addr×Obj)} {σ : St} {H:Hp} {s:Shared} {a:Addr} {y:V} {o:Option V} (I:Inv X pins σ H s) (g:gh H a y o):s.TypeIs (.ref a) "dict":=by
 rcases g with ⟨kvs,k,e,_,_⟩ | ⟨kvs,k,b,e,_,_,_⟩
 · obtain ⟨_, _, vs, _, dd⟩ := gS I.aG e;exact dd.typeIs
 · obtain ⟨_, _, xs, _, dd⟩ := tO I.aG e;exact dd.typeIs
def C6 (td ty:TE):TE:=fun σ H Q=>td σ H fun x H1=>ty σ H1 fun y H2=>∃ a v,x=.ref a∧gh H2 a y (some v)∧Q v H2
def GR (ty td:TE):TE:=fun σ H Q=>ty σ H fun y H1=>td σ H1 fun x H2=>∃ a o,x=.ref a∧gh H2 a y o∧Q (.bl o.isSome) H2
def De (td ty tv:TE):TS:=fun D σ H=>tv σ H fun v H1=>td σ H1 fun x H2=>ty σ H2 fun y H3=>∃ a H4,x=.ref a∧oB H3 a y v H4∧D.nx σ H4
section
variable {X:Cx} {o i e value:Expr} {pos pos' tpos:Pos} {td ty tv:TE}
theorem xT (hu:X.A.units+1<cLine) (ho:PE X o td) (hi:PE X i ty) (hs:F7 i):PE X (.Subscript o i pos) (C6 td ty):=by
 intro pins s σ H Q I h;refine EE PySem.F.slot_dict_getitem.lookup hs (br (ho pins s σ H _ I h) fun u s1 ⟨x,H1,I1,rx,q1⟩=>br (hi pins s1 σ H1 _ I1 q1) fun iv s2 ⟨y,H2,I2,ry,a,v,ex,g,q2⟩=>?_);subst ex;obtain rfl:u=Value.ref a:=rx;exact ⟨wm I2 g,zA hu I2 g ry fun w' s3 I3 rw'=>⟨v,H2,I3,rw',q2⟩⟩
theorem Fe (hu:X.A.units+1<cLine) (hi:PE X i ty) (ho:PE X o td):PC X .In i o (GR ty td):=by
 intro pins s σ H Q I h;refine br (hi pins s σ H _ I h) fun iv s1 ⟨y,H1,I1,ry,q1⟩=>br (ho pins s1 σ H1 _ I1 q1) fun u s2 ⟨x,H2,I2,rx,a,ov,ex,g,q2⟩=>?_;subst ex;obtain rfl:u=Value.ref a:=rx;exact Vp hu I2 g ry fun s3 I3=>⟨.bl ov.isSome,H2,I3,rfl,q2⟩
theorem qI (hu : X.A.units + 1 < cLine) (ho : PE X o td) (hi : PE X i ty) (hv : PE X value tv) (hs : swapsWith value (some (.Subscript o i pos')) pos.line X.env = pure false) :
   PS X (.Assign [.Subscript o i pos'] value pos) (De td ty tv):=by
 intro pins s σ H D I h;refine wpAny_Assign_Subscript (br (hv pins s σ H _ I h) fun r s1 ⟨v,H1,I1,rv,q1⟩=>br (ho pins s1 σ H1 _ I1 q1) fun u s2 ⟨x,H2,I2,rx,q2⟩=>br (hi pins s2 σ H2 _ I2 q2) fun iv s3 ⟨y,H3,I3,ry,a,H4,ex,g,q3⟩=>?_) hs;subst ex;obtain rfl:u=Value.ref a:=rx;exact zX hu I3 g ry rv fun s4 I4=>⟨σ,H4,I4,q3⟩
end
theorem B1 {P:Program} {w:World} {H:Hp} (h:Heap) (hb:sysModules<h.objs.size):cu P w H (h.push { cls:=.type "dict",data:=.dict #[] }) h.objs.size (.dK []) :=
 ⟨Nat.zero_le _,beq_eq_false_iff_ne.mpr (Ne.symm (Nat.ne_of_lt hb)),[],.nil,Heap.DictOf.new h⟩
def AG:TE:=fun _ H Q=>∀ p,H p=none→Q (.ref p) (upd H p (.dK []))
section
variable {X:Cx} {pos:Pos}
theorem gM:PE X (.Dict [] [] pos) AG:=fun pins s σ H Q I h =>
 wpAny_Dict_empty ⟨.ref s.heap.objs.size,_,I.laid (a:=s.heap.objs.size) (o:=.dK []) (t':=s.toks) (fun _ _ q=>Heap.get?_push_of_some _ q) (Nat.le_refl _) (B1 s.heap I.ml),rfl,h _ (I.aG.fresh (Nat.le_refl _))⟩
end
section
variable {X:Cx} {pins:List (Addr×Obj)} {σ : St} {H:Hp} {s:Shared} {a:Addr} {kvs:List (Key×V)} {A:Around} {E:Value→Shared→Prop}
theorem CI {Q:Value→Shared→Prop} (I:Inv X pins σ H s) (e:Rd H a (.dK kvs)) (h:∀ p s',H p=none→Inv X pins σ (upd H p (.dK kvs)) s'→Q (.ref p) s'):wpAny (model X.prog X.w) A (call (.type "dict") [.ref a]) Q E s:=by
 obtain ⟨z,hd,vs,rel,dd⟩:=gS I.aG e;refine kt_call_dict hd dd (by rw [← rel.length];exact z) fun h' dd' hs=>?_;refine h _ _ (I.aG.fresh (Nat.le_refl _)) (I.laid (a:=s.heap.objs.size) (o:=.dK kvs) (t':=s.toks) (fun b q hq=>?_) (Nat.le_refl _) (AF z (beq_eq_false_iff_ne.mpr (Ne.symm (Nat.ne_of_lt I.ml))) rel dd'));exact (hs.2 b (Nat.ne_of_lt (Heap.lt_size hq))).trans (Heap.get?_push_of_some _ hq)
end
end L2
namespace Att
open PySem PySem.W PySem.Calls PyProof.Rows
theorem qh {P:Params} {h:Heap}:∀ (ns:List Int) (vs:List Value),WellAll P h vs (ns.map WData.int)→IntsAre vs ns:=by
 intro ns
 induction ns with
 | nil =>
   intro vs w;rw [List.map_nil] at w;cases w
   exact .nil
 | cons n ns ih =>
   intro vs w;rw [List.map_cons] at w;cases w with
   | cons a b =>
     cases a
     exact .cons _ _ (ih _ b)
theorem Bg {l : OpenLaw} {n : Nat} (hn : l.most = some n) {P : Params} {h : Heap} {args : List WData} {vals : List Value}
   (hpre:l.row.toRowW.claim.pre args=true) (hwl:WellAll P h vals args) :
   ∃ a vs ns,vals=[Value.ref a]∧args=[WData.list (ns.map WData.int)]∧h.get? a=some { cls:=.type "list",data:=.seq vs.toArray }∧IntsAre vs ns∧ns.length≤n:=by
 have hsh:WShape.hasAll [] args [.list .int]=true:=(pre_splitW hpre).1;have hc:l.pre.holds [] { args:=args }=true:=(pre_splitW hpre).2;obtain ⟨d,r,rfl,h1,h2⟩:=hasAllW_cons hsh;obtain rfl:=hasAllW_nil h2;obtain ⟨xs,rfl,h3⟩:=hasW_list h1;obtain ⟨ns,rfl⟩:=items_int h3;have hlen:ns.length≤n:=by
   unfold OpenLaw.pre at hc;have h4:(WTm.not (.lt (.lit (.int (n:Int))) (.len (.arg 0)))).holds [] { args:=[.list (ns.map .int)] }=true:=by
     have h4:=(holds_andW hc).1;rw [hn] at h4;exact h4
   have h5:=condW_of h4 (w_not (w_lt w_lit (w_len_list (w_arg rfl))));rw [List.length_map] at h5;refine Nat.le_of_not_lt fun q=>?_;have q':(n:Int)<((ns.length:Nat):Int):=by omega
   first
     | (rw [decide_eq_true q'] at h5;exact absurd h5 (by decide))
     | (simp at h5;omega)
 cases hwl with
 | cons w1 w2 =>
   cases w2
   cases w1 with
   | list ho hall=>exact ⟨_,_,ns,rfl,rfl,ho,qh ns _ hall,hlen⟩
theorem Bo (l:OpenLaw) (args:List WData):l.row.toRowW.claim.post args (.bool true) args=true :=
 postW_of (r := l.row.toRowW) (X := (true == true))
   (show WShape.has [] (.bool true) .bool=true by first | rfl | decide | simp [WShape.has,WShape.arms,WShape.armsAll])
   (show (WTm.eq .res (.lit (.bool true))).value [] { args:=args,res:=some (.bool true),after:=args }=some (.bool (true == true)) from w_eq_bool (w_res rfl) w_lit) rfl
theorem wk {l : OpenLaw} {n : Nat} {q : Program} {loose : List Str} {XP : (Str → Option Value) → Heap → Prop} {YP : World → Heap → Prop} {d : DefRec}
   (hn:l.most=some n) (hdf:d.params.defaults=[])
   (call : ∀ (w : World) (s₀ s₁ : Shared) (mg mb : Str → Option Value) (fa : Addr) (o : Obj) (pm cd doc : Value) (a : Addr) (vs : List Value) (ns : List Int),
     Ground q loose [] XP w s₀ mg mb s₁.heap→YP w s₁.heap →
     s₁.heap.get? fa=some o→o.data=.func (docDef d.name d.params d.body d.scope pm cd doc)→s₁.heap.CodeRec cd d.name→mg d.name=some (.ref fa) →
     s₁.heap.get? a=some { cls:=.type "list",data:=.seq vs.toArray }→IntsAre vs ns→ns.length≤n→s₁.gens = #[] →
     codeAny (model l.prog w) callerA (.call (.ref fa) ⟨[.ref a],[]⟩) (fun r s'=>r=.ok (.ret (.bool true))∧OldK s₁.heap s'.heap∧s'.os=s₁.os∧AllBare s'.gens) s₁) :
   WalkO q loose XP YP l.row.toRowW d [] (fun f vs=>PySem.call f vs):=by
 intro w s₀ s₁ mg mb G Y fa o pm cd doc dV kV ho hd hcd hD hmg hg args vals as hpre hlay hrd hwl hlo;obtain rfl:dV=.none:=Dflts.none hD hdf;obtain rfl:kV=.none:=Dflts.noKw hD;obtain ⟨a,vs,ns,rfl,rfl,hobj,hints,hlen⟩:=Bg hn hpre hwl;refine enter_call (codeAny_mono (call w s₀ s₁ mg mb fa o pm cd doc a vs ns G Y ho (fd_plain hd) hcd hmg hobj hints hlen hg) fun r s' hq=>?_);obtain ⟨rfl,h2,h3,h4⟩:=hq;exact ⟨.inl ⟨.bool true,.bool true,[],rfl,fun _=>rfl,.bool true,Bo l _,fun _=>⟨List.Pairwise.nil,fun _ hm=>(nomatch hm)⟩⟩,h2,h3,h4⟩
end Att
namespace L2
open PySem PySem.Spec PyProof.Rows
theorem rE : ∀ {vs : List Value} {ns : List Int}, IntsAre vs ns → a_ (ns.map V.int) vs
 | _,_,.nil=>.nil
 | _,_,.cons n t h=>.cons ⟨t,rfl⟩ (rE h)
def Cg (H:Hp):Prop:=∀ b,H b=none∨∃ o xs,H b=some (.jm o (.lst xs))
theorem BV {P : Program} {w : World} {K : W.Frag} {mg mb : Str → Option Value} {CX : eh} {k : Nat} {fa a : Addr} {fd : FuncData} {x : Str} {sp : Sp} {s₁ : Shared} {vs : List Value} {ns : List Int}
   (KX:K.In s₁.heap) (hns:s₁.heap.Ns mainGlobals mg) (hb:s₁.heap.Ns builtinsNs mb) (hbb:∀ x:Str,x ≠ "__name__"→mb x=bootBuiltins x) (hlim:s₁.heap.NoLimit) (hg:s₁.gens = #[])
   (ha:s₁.heap.get? a=some { cls:=.type "list",data:=.seq vs.toArray }) (hi:IntsAre vs ns) (hl:ns.length≤sizeLine) (hr:cF k callerA)
   (F:∀ base:Heap,K.In base→base.Ns mainGlobals mg→eg P w K mg base CX k fa fd [x] sp) (hbind:∀ (s:Shared) (u:Value),BindsTo s fd ⟨[u],[]⟩ [(x,u)])
   (hsp:∀ H:Hp,Cg H→aA K H a (ns.map V.int)→sp [.ref a] H (fun v _=>v=.bl true) fun _ _ _=>False)
   (hCX:∀ H e s',CX [] H s₁ (fun _ _ _=>False) e s'→False) :
   codeAny (model P w) callerA (.call (.ref fa) ⟨[.ref a],[]⟩) (fun r s'=>r=.ok (.ret (.bool true))∧OldK s₁.heap s'.heap∧s'.os=s₁.os∧AllBare s'.gens) s₁:=by
 have rv:=rE hi;have lenV:=hi.length
 -- from an abstract heap in which nothing but the script may be tracked
 have core : ∀ H : Hp, Cg H → aA K H a (ns.map V.int) → dA P w H s₁.heap → (∀ b, H b ≠ none → b = a) → (H a ≠ none → K.lookup a = none) →
     codeAny (model P w) callerA (.call (.ref fa) ⟨[.ref a],[]⟩) (fun r s'=>r=.ok (.ret (.bool true))∧OldK s₁.heap s'.heap∧s'.os=s₁.os∧AllBare s'.gens) s₁:=by
   intro H hO hS aG hA hK;have base_of:∀ {b:Addr} {o:Obj},s₁.heap.get? b=some o→H b=none→(kB s₁.heap H).get? b=some o:=fun e n=>CS e n;have noA:∀ {b:Addr} {o:Obj} {es:Array DictEntry} {ep:Nat},s₁.heap.get? b=some o→o.data=.dict es ep→H b=none:=fun {b o es ep} e d=>by
     cases q:H b with
     | none=>rfl
     | some u =>
       have e':b=a:=hA b (by rw [q];simp);subst e';rw [ha] at e;cases e;have d':Data.seq vs.toArray _=Data.dict es ep:=d;cases d'
   have nsK:∀ {b:Addr} {m:Str→Option Value},s₁.heap.Ns b m→(kB s₁.heap H).Ns b m:=fun {b m} ⟨o,es,ep,e,d,r⟩=>⟨o,es,ep,base_of e (noA e d),d,r⟩;have hKb:K.In (kB s₁.heap H):=fun b o e=>base_of (KX b o e) (by
     cases q:H b with
     | none=>rfl
     | some u =>
       have e':b=a:=hA b (by rw [q];simp);subst e';rw [hK (by rw [q];simp)] at e;cases e)
   have hM:Mod K mg (kB s₁.heap H):=⟨hKb,nsK hns,⟨mb,nsK hb,hbb⟩,let ⟨mc,h1,h2⟩:=hlim;⟨mc,nsK h1,h2⟩⟩
   have e0:oJ P w K mg (kB s₁.heap H) callerA [] s₁ H:=⟨rfl,hM,fun b o e=>DU e,Nat.le_of_eq (zN _ _),trivial,fun b hb=>absurd (show b∈([]:List Addr) from hb) (by simp),aG,.of_eq hg⟩
   refine codeAny_mono ((F _ hKb (nsK hns)).run callerA [] s₁ H ⟨[.ref a],[]⟩ [.ref a] [.ref a] _ _ hr e0 (hbind s₁ (.ref a)) (.cons rfl .nil) (hsp H hO hS)) fun r s' h=>?_;cases r with
   | error e=>exact (hCX H e s' h).elim
   | ok fl =>
     cases fl with
     | next=>exact False.elim h
     | brk=>exact False.elim h
     | cont=>exact False.elim h
     | ret u =>
       obtain ⟨v,H',os,bare,un,hok',r',q⟩:=h;have q':v=.bl true:=q;subst q';obtain rfl:u=Value.bool true:=r';refine ⟨rfl,OldK.of_keep fun b o e=>?_,os,bare⟩;cases q:H b with
       | none=>exact un.keep b o e q (by intro z;exact absurd (show b∈([]:List Addr) from z) (by simp)) (by simp)
       | some u =>
         rcases hO b with z | ⟨ob,xs,z⟩
         · rw [q] at z;cases z
         · have z2 := un.iL b ob _ z;obtain ⟨e1,_⟩:=aG b _ z;obtain ⟨e2,_⟩:=hok' b _ z2;rw [e] at e1;cases e1;exact e2
 cases hk:K.lookup a with
 | some o =>
   -- the script is one of the module's own objects
   have e:=KX a o hk;rw [ha] at e;cases e
   refine core (fun _=>none) (fun _=>.inl rfl) (.inr ⟨_,vs.toArray,_,hk,rfl,rfl,rfl,by rw [List.size_toArray,lenV];exact hl,by simpa using rv⟩) (fun b u z=>by have z':(none:Option HO)=some u:=z;cases z') (fun b z=>absurd rfl z) fun z=>absurd rfl z
 | none =>
   refine core (fun b=>if b=a then some (.jm { cls:=.type "list",data:=.seq vs.toArray } (.lst (ns.map V.int))) else none) (fun b=>?_) (.inl (.inr ⟨{ cls:=.type "list",data:=.seq vs.toArray },if_pos rfl⟩)) (fun b u z=>?_) (fun b z=>?_) fun _=>hk
   · by_cases hb : b = a
     · exact .inr ⟨_,_,if_pos hb⟩
     · exact .inl (if_neg hb)
   · by_cases hb : b = a
     · have z' := (if_pos hb).symm.trans z;cases z'
       subst hb;exact ⟨ha,by rw [List.length_map];exact hl,vs,_,rv,ha⟩
     · have z' := (if_neg hb).symm.trans z;cases z'
   · by_cases hb : b = a
     · exact hb
     · exact absurd (if_neg hb) z
end L2
namespace L2
open PySem PySem.Spec PyProof.Rows
abbrev C1 {K:W.Frag} {h:Heap} (_:K.In h):W.Frag:=K
theorem D5 {l : W.OpenLaw} {n k : Nat} {q : Program} {loose : List Str} {XP : (Str → Option Value) → Heap → Prop} {YP : World → Heap → Prop} {d : DefRec} {K : Params → W.Frag} {CX : World → eh} {sp : World → Sp} {x : Str}
   (hn:l.most=some n) (hn2:n≤sizeLine) (hdf:d.params.defaults=[]) (hr:cF k callerA)
   (hY:∀ (w:World) (h:Heap),YP w h→(K w.params).In h)
   (F : ∀ (w : World) (mg : Str → Option Value) (fa : Addr) (h : Heap), (K w.params).In h → h.Ns mainGlobals mg → mg d.name = some (.ref fa) →
     ∃ fd : FuncData, (∀ (s : Shared) (u : Value), BindsTo s fd ⟨[u], []⟩ [(x, u)]) ∧
       ∀ base:Heap,(K w.params).In base→base.Ns mainGlobals mg→eg l.prog w (K w.params) mg base (CX w) k fa fd [x] (sp w))
   (hsp:∀ (w:World) (H:Hp) (a:Addr) (ns:List Int),ns.length≤n→Cg H→aA (K w.params) H a (ns.map V.int)→sp w [.ref a] H (fun v _=>v=.bl true) fun _ _ _=>False)
   (hCX:∀ (w:World) (H:Hp) (s:Shared) (e:Value) (s':Shared),CX w [] H s (fun _ _ _=>False) e s'→False) :
   W.WalkO q loose XP YP l.row.toRowW d [] (fun f vs=>PySem.call f vs):=by
 refine Att.wk hn hdf fun w s₀ s₁ mg mb fa o pm cd doc a vs ns G Y ho hd hcd hmg hobj hints hlen hg=>?_;have KX:=hY w _ Y;obtain ⟨fd,hb,hF⟩:=F w mg fa _ KX G.T.g hmg;exact BV KX G.T.g G.T.b G.T.builtins G.T.nolimit hg hobj hints (Nat.le_trans hlen hn2) hr hF hb (fun H hO hS=>hsp w H a ns hlen hO hS) fun H e s'=>hCX w H s₁ e s'
end L2
namespace L2
open PySem PySem.Spec PyProof.Rows
def inClass (s:Stmt) (j:Nat):Stmt:=match s with
 | .ClassDef _ _ _ body _ _ _ _ _ _ _=>body.getD j (.Pass ⟨0,0,0,0⟩)
 | _=>.Pass ⟨0,0,0,0⟩
def bW (s:Stmt):Arguments:=match s with
 | .FunctionDef _ a _ _ _ _ _ _ _ _=>a
 | _=>{ posonlyargs:=[],args:=[],vararg:=none,kwonlyargs:=[],kw_defaults:=[],kwarg:=none,defaults:=[] }
def bH (s:Stmt):List Stmt:=match s with
 | .FunctionDef _ _ b _ _ _ _ _ _ _=>b
 | _=>[]
def av (s:Stmt):Scope:=match s with
 | .FunctionDef _ _ _ _ _ _ sc _ _ _=>sc
 | _=>{ kind:=.function,names:=[],isGenerator:=false,isCoroutine:=false }
abbrev be:eh:=fun _ _ _ _ _ _=>False
abbrev E0:XK:=fun _ _ _=>False
theorem aC {X:Cx}:fM be X E0:=fun _ _ _ _ _ _ _ h=>h.elim
structure fL (K:W.Frag) (x qual:Str) (st:Stmt) (f:Addr) (fd:FuncData):Prop where
 ex : ∃ (oc : Value) (od : Option Addr) (kV doc pm : Value) (an : Option Addr) (cdv ct : Value) (osl : Array (Option Value)),
   fd=W.fnOf x qual (bW st) (bH st) (av st) .none kV doc pm an cdv ct∧K.lookup f=some ⟨oc,od,.func fd,osl⟩∧W.codeIn K cdv qual=true
 kp:W.keepIn K (.ref f)=true
section
variable {P:Program} {w:World} {K:W.Frag} {mg:Str→Option Value} {base:Heap}
theorem fL.ok {x qual : Str} {st : Stmt} {f : Addr} {fd : FuncData} {N ps : List Str} {k : Nat} {sp : Sp} (F : fL K x qual st f fd) (S : aE N ps (av st)) (len : ∀ vs H Q E, sp vs H Q E → vs.length = ps.length)
   (hbody : ∀ (cdv : Value) (A : Around) (outer : List Env) (s : Shared) (H : Hp) (vs : List V) (Q : VK) (E : XK), cF k (A.deeper (envOfC qual (av st) s.heap.objs.size f cdv)) → sp vs H Q E →
     ∃ t,hU (eX be P w K mg base N qual (av st) f cdv A outer s H E).cO (bH st) t∧t { nx:=fun _ H'=>Q .aR H',rt:=Q } (start N vs) H):eg P w K mg base be (k+1) f fd ps sp:=by
 obtain ⟨oc,od,kV,doc,pm,an,cdv,ct,osl,rfl,lk,hcd⟩:=F.ex;refine tU lk hcd S len fun A outer s H vs Q E hr hsp=>?_;obtain ⟨t,h,q⟩:=hbody cdv A outer s H vs Q E hr hsp;exact ⟨t,h.cO,q⟩
theorem fL.binds {x qual : Str} {st : Stmt} {f : Addr} {fd : FuncData} {ps : List Str} (F : fL K x qual st f fd)
   (h:∀ (kV doc pm:Value) (an:Option Addr) (cdv ct:Value) (us:List Value),us.length=ps.length→bindArgs (W.fnOf x qual (bW st) (bH st) (av st) .none kV doc pm an cdv ct) ⟨us,[]⟩=pure (ps.zip us)):Binds K fd ps []:=by
 obtain ⟨oc,od,kV,doc,pm,an,cdv,ct,osl,rfl,lk,hcd⟩:=F.ex;exact .all (h kV doc pm an cdv ct)
theorem iM {x qual : Str} {st : Stmt} {f : Addr} {oc : Value} {od an : Option Addr} {osl : Array (Option Value)} {kV doc pm cdv ct : Value} (l : K.lookup f = some ⟨oc, od, .func (W.fnOf x qual (bW st) (bH st) (av st) .none kV doc pm an cdv ct), osl⟩)
   (c:W.codeIn K cdv qual=true) (k:W.keepIn K (.ref f)=true):fL K x qual st f (W.fnOf x qual (bW st) (bH st) (av st) .none kV doc pm an cdv ct):=⟨⟨oc,od,kV,doc,pm,an,cdv,ct,osl,rfl,l,c⟩,k⟩
end
theorem mM {A:Around} {k:Nat} (hr:cF k A):A.units+1<cLine:=Nat.lt_of_le_of_lt (Nat.add_le_add_left (by decide : 1≤64) _) hr.units
section
variable {X:Cx}
theorem pv (i : Nat) {x : Str} {pos : Pos} (hN : X.N[i]? = some x := by rfl) (hv : GP X.env.scope x := by first | exact Or.inl rfl | exact Or.inr (Or.inl rfl) | exact Or.inr (Or.inr rfl)) (hd : (x == ("__debug__" : Str)) = false := by decide)
   (hcd:(x == ("__classdict__" : Str))=false:=by decide):PE X (.Name x pos) (bF i):=Gu hN hv hd hcd
theorem Bk:cR X (.builtin "len") (fun xs H Q=>∃ a kvs,xs=[V.ref a]∧H a=some (.dK kvs)∧Q (.int kvs.length) H):=by
 intro pins s σ H xs us Q I r h;obtain ⟨a,kvs,rfl,ha,q⟩:=h;obtain ⟨u,rfl,ru⟩:=vals1 r;cases ru
 exact HL I (.inl ha) fun t s' I'=>⟨.int kvs.length,H,I',⟨t,rfl⟩,q⟩
end
theorem VB {A B:Prop} (h:B):if false=true then A else B:=by
 rw [if_neg Bool.false_ne_true];exact h
theorem VN {A B:Prop} (h:A):if true=true then A else B:=by
 rw [if_pos rfl];exact h
def au (H H':Hp):Prop:=∀ b o,H b=some o→H' b=some o
theorem au.refl (H:Hp):au H H:=fun _ _ h=>h
theorem au.trans {H H1 H2:Hp} (a:au H H1) (b:au H1 H2):au H H2:=fun c o h=>b c o (a c o h)
theorem au.seq {K:W.Frag} {H H':Hp} {a:Addr} {xs:List V} (e:au H H') (h:aA K H a xs):aA K H' a xs:=by
 rcases h with (h | ⟨o,h⟩) | h
 · exact .inl (.inl (e _ _ h))
 · exact .inl (.inr ⟨o,e _ _ h⟩)
 · exact .inr h
end L2
namespace Bt
theorem F6 (a b:Nat) (h:a &&& b=0):a+b=a ||| b:=by
 have ha:a<2 ^ (a+b+1):=Nat.lt_of_lt_of_le Nat.lt_two_pow_self (Nat.pow_le_pow_right (by decide) (by omega));have hb:b<2 ^ (a+b+1):=Nat.lt_of_lt_of_le Nat.lt_two_pow_self (Nat.pow_le_pow_right (by decide) (by omega));have hab:a+b<2 ^ (a+b+1):=Nat.lt_of_lt_of_le Nat.lt_two_pow_self (Nat.pow_le_pow_right (by decide) (by omega));have e:=BitVec.add_eq_or_of_and_eq_zero (BitVec.ofNat (a+b+1) a) (BitVec.ofNat (a+b+1) b) (by
   apply BitVec.eq_of_toNat_eq;rw [BitVec.toNat_and,BitVec.toNat_ofNat,BitVec.toNat_ofNat,Nat.mod_eq_of_lt ha,Nat.mod_eq_of_lt hb,h]
   simp)
 have e2:=congrArg BitVec.toNat e;rw [BitVec.toNat_or,BitVec.toNat_add,BitVec.toNat_ofNat,BitVec.toNat_ofNat,Nat.mod_eq_of_lt ha,Nat.mod_eq_of_lt hb,Nat.mod_eq_of_lt hab] at e2;exact e2
def wo (s p:Nat):Nat:=s - (s &&& p)
theorem PM (s p:Nat):wo s p=s ^^^ (s &&& p):=by
 unfold wo;have h:(s ^^^ (s &&& p))+(s &&& p)=s:=by
   have e:(s ^^^ (s &&& p)) &&& (s &&& p)=0:=by
     apply Nat.eq_of_testBit_eq;intro i;simp only [Nat.testBit_and,Nat.testBit_xor,Nat.zero_testBit];cases s.testBit i <;> cases p.testBit i <;> rfl
   rw [F6 _ _ e];apply Nat.eq_of_testBit_eq;intro i;simp only [Nat.testBit_or,Nat.testBit_and,Nat.testBit_xor];cases s.testBit i <;> cases p.testBit i <;> rfl
 omega
theorem p9 (s p i:Nat):(wo s p).testBit i=(s.testBit i && !p.testBit i):=by
 rw [PM];simp only [Nat.testBit_and,Nat.testBit_xor];cases s.testBit i <;> cases p.testBit i <;> rfl
end Bt
namespace L3
open PySem PySem.Spec PyProof.Rows L2
abbrev St:=L2.St
def gA (its:List Value):Obj:={ cls:=.type "list",data:=.seq its.toArray its.length }
theorem zw (its:List Value) (y:Value):({ cls:=.type "list",data:=.seq (its.toArray.push y) (its.length+1) }:Obj)=gA (its++[y]):=by
 show ({ cls:=.type "list",data:=.seq (its.toArray.push y) (its.length+1) }:Obj)={ cls:=.type "list",data:=.seq (its++[y]).toArray (its++[y]).length }
 rw [List.length_append,List.length_singleton,List.push_toArray]
section
variable {prog:Program} {w:World} {A:Around} {R:Result→Shared→Prop} {s:Shared}
theorem wt {elt target iter : Expr} {ifs : List Expr} {scope : Scope} {pos : Pos} {it acc : Value} {env : Env} (I : Nat → Shared → Prop)
   (turn : ∀ n s, I n s → wpAny (model prog w) A (pyNext it) (fun r s1 => match r with
     | none=>R (.ok .next) s1
     | some v => wpAny (model prog w) A (letOwnedTupleGo target it v) (fun _ s2 => wpAny (model prog w) A (assign target env v) (fun _ s3 =>
         wpAny (model prog w) A (forIn ifs true fun c r=>if r=true then do let ok ← isTrue c env (eval c env);pure (ForInStep.yield ok) else pure (ForInStep.yield r)) (fun ok s4 =>
           if ok=true then wpAny (model prog w) A (eval elt env) (fun x s5 =>
             wpAny (model prog w) A (call (.builtin "list.append") [acc,x]) (fun _ s6=>∃ m,m<n∧I m s6) (notedBy (model prog w) A env fun e s'=>R (.error e) s') s5) (notedBy (model prog w) A env fun e s'=>R (.error e) s') s4
           else ∃ m,m<n∧I m s4) (notedBy (model prog w) A env fun e s'=>R (.error e) s') s3) (notedBy (model prog w) A env fun e s'=>R (.error e) s') s2)
         (notedBy (model prog w) A env fun e s'=>R (.error e) s') s1) (notedBy (model prog w) A env fun e s'=>R (.error e) s') s)
   (n:Nat) (h:I n s) :
   codeAny (model prog w) A (.compLoop (.ListComp elt [⟨target,iter,ifs,0⟩] scope pos) 0 it acc env) R s:=by
 refine codeAny_loop rfl I (fun n s hI=>?_) n h;show wpAny _ A ((compTurn (.ListComp elt [⟨target,iter,ifs,0⟩] scope pos) 0 it acc env).onRaise (fun x=>do noteFrame x env;theTreesLotGoes x)) _ _ s;refine wpAny_noted ?_;rw [compTurn_list];refine wpAny_bind (wpAny_standAt (wpAny_bind (wpAny_mono (turn n s hI) (fun r s1 h1=>?_) fun _ _ h'=>h')));cases r with
 | none=>exact wpAny_pure h1
 | some v =>
   refine wpAny_bind (wpAny_mono h1 (fun _ s2 h2=>?_) fun _ _ h'=>h');refine wpAny_bind (wpAny_mono h2 (fun _ s3 h3=>wpAny_bind (wpAny_mono h3 (fun ok s4 h4=>?_) fun _ _ h'=>h')) fun _ _ h'=>h');cases ok with
   | false=>exact wpAny_pure ⟨rfl,h4⟩
   | true =>
     exact wpAny_bind (wpAny_bind (wpAny_mono h4 (fun x s5 h5=>wpAny_bind (wpAny_mono h5 (fun _ s6 h6=>wpAny_pure (wpAny_pure ⟨rfl,h6⟩)) fun _ _ h'=>h')) fun _ _ h'=>h'))
end
def cy (X:Cx) (scope:Scope) (cl:List (Str×Addr)) (own:List Str) (fr:List (Str×Nat)) (C:Addr) (s2:Shared) (H2:Hp) (fp:List Addr):Cx :=
 { prog := X.prog, w := X.w, K := X.K, mg := X.mg, base := X.base, A := X.A, N := own ++ fr.map (·.1), s₀ := s2, H₀ := H2, env := compEnvC scope cl C X.env, outer := X.stack, stack := X.stack,
   ex:=fp,fn:=fun _=>false,calm:=X.calm,pn:=[],xe:=fun _ _=>False }
def j0 (own:List Str) (fr:List (Str×Nat)) (σ : St):St:=own.map (fun _=>none)++fr.map fun p=>(σ[p.2]?).join
def vD (env : Env) : List (Str × Addr) → Prop
 | []=>True
 | (n,c)::r=>env.cells.lookup n=some c∧vD env r
theorem vD.get {env : Env} : ∀ {cl : List (Str × Addr)} {x : Str} {c : Addr}, vD env cl → cl.lookup x = some c → env.cells.lookup x = some c
 | [],_,_,_,h=>by simp at h
 | (n, d) :: r, x, c, ok, h => by
   rw [List.lookup_cons] at h;cases e:x == n with
   | true =>
     rw [e] at h;have e':x=n:=by simpa using e
     cases h
     rw [e'];exact ok.1
   | false =>
     rw [e] at h;exact vD.get ok.2 h
def tP (sc:Scope) (x:Str):Prop:=sc.names.lookup x=some .cell∨sc.names.lookup x=some .free
def vd (X : Cx) (scope : Scope) (cl : List (Str × Addr)) : List (Str × Nat) → Prop
 | []=>True
 | (x,j)::r=>(X.N[j]? = some x∧tP X.env.scope x∧tP (relabel scope X.env) x∧(cl.lookup x).isSome=true)∧vd X scope cl r
theorem vd.get {X : Cx} {scope : Scope} {cl : List (Str × Addr)} : ∀ {fr : List (Str × Nat)} {i : Nat} {p : Str × Nat}, vd X scope cl fr → fr[i]? = some p →
   X.N[p.2]? = some p.1∧tP X.env.scope p.1∧tP (relabel scope X.env) p.1∧(cl.lookup p.1).isSome=true
 | [],_,_,_,h=>by simp at h
 | (x, j) :: r, 0, p, ok, h => by
   simp at h;subst h;exact ok.1
 | (x,j)::r,i+1,p,ok,h=>vd.get (i:=i) ok.2 (by simpa using h)
structure uY (X:Cx) (scope:Scope) (cl:List (Str×Addr)) (own:List Str) (fr:List (Str×Nat)):Prop where
 E6:closureFor scope X.env=pure cl
 cells:vD X.env cl
 d0:vd X scope cl fr
 kind:scope.kind=.function
 Bm:∀ y∈scope.names,y.2≠.cell
 names:∀ y∈scope.names,y.2=.local→scope.names.lookup y.1=some .local
 has:(scope.names.all fun y=>y.2 != .free || (cl.lookup y.1).isSome)=true
theorem hX {env : Env} {cl : List (Str × Addr)} : ∀ {names : List (Str × NameKind)} {x : Str}, (∀ y ∈ names, y.2 ≠ .cell) → (names.all fun y => y.2 != .free || (cl.lookup y.1).isSome) = true →
   ((names.map fun (n, k) => if (k == NameKind.free && env.scope.kind == .function && env.kindOf n == some .cell) then (n, NameKind.cell) else (n, k)).lookup x = some .cell ∨
    (names.map fun (n,k)=>if (k == NameKind.free && env.scope.kind == .function && env.kindOf n == some .cell) then (n,NameKind.cell) else (n,k)).lookup x=some .free)→∃ c,cl.lookup x=some c
 | [],_,_,_,h=>by rcases h with h | h <;> simp at h
 | (n, k) :: r, x, nc, ha, h => by
   rw [List.all_cons,Bool.and_eq_true] at ha;have ih:=@hX env cl r x (fun y hy=>nc y (List.mem_cons_of_mem _ hy)) ha.2;have nk:k≠.cell:=nc (n,k) List.mem_cons_self;have hk:=ha.1;cases hx:x == n with
   | true =>
     have ex:x=n:=by simpa using hx
     subst ex;by_cases hf:k=.free
     · subst hf;have z:(cl.lookup x).isSome=true:=by simpa using hk
       exact Option.isSome_iff_exists.mp z
     · exfalso
       have hb:(k == NameKind.free)=false:=by simpa using hf
       rcases h with h | h
       · rw [List.map_cons] at h;simp only [hb,Bool.false_and,Bool.false_eq_true,if_false,List.lookup_cons,beq_self_eq_true] at h;exact nk (Option.some.inj h)
       · rw [List.map_cons] at h;simp only [hb,Bool.false_and,Bool.false_eq_true,if_false,List.lookup_cons,beq_self_eq_true] at h;exact hf (Option.some.inj h)
   | false =>
     refine ih ?_;rcases h with h | h
     · left
       rw [List.map_cons] at h;by_cases hc:(k == NameKind.free && env.scope.kind == .function && env.kindOf n == some .cell)=true
       · simp only [hc,if_true,List.lookup_cons,hx] at h;exact h
       · simp only [hc,Bool.false_eq_true,if_false,List.lookup_cons,hx] at h;exact h
     · right
       rw [List.map_cons] at h;by_cases hc:(k == NameKind.free && env.scope.kind == .function && env.kindOf n == some .cell)=true
       · simp only [hc,if_true,List.lookup_cons,hx] at h;exact h
       · simp only [hc,Bool.false_eq_true,if_false,List.lookup_cons,hx] at h;exact h
def A_ (Y:Cx) (ifs:List Expr) (t:TT):Prop :=
 ∀ (pins : List (Addr × Obj)) (s : Shared) (σ : St) (H : Hp) (Q : Bool → Hp → Prop), Inv Y pins σ H s → t σ H Q →
   wpAny (model Y.prog Y.w) Y.A (forIn ifs true fun c r=>if r=true then do let ok ← isTrue c Y.env (eval c Y.env);pure (ForInStep.yield ok) else pure (ForInStep.yield r)) (TP Y pins σ Q) Y.xe s
def yg:TT:=fun _ H Q=>Q true H
theorem cW {Y:Cx}:A_ Y [] yg:=fun _ _ _ H _ I h=>wpAny_tests_nil ⟨H,I,h⟩
theorem mV {Y:Cx} {c:Expr} {t:TT} (h:PT Y c t):A_ Y [c] t:=fun pins s σ H Q I hw=>wpAny_tests_one (h pins s σ H Q I hw)
def yR (own:List Str) (fr:List (Str×Nat)) (wi:TI) (g:TG) (tc:TT) (te:TE) (fin:List V→Hp→Prop):St→Hp→Prop:=fun σ H=>wi σ H fun J H1 =>
 ∃ W : Nat → Nat → List V → St → Hp → Prop, (∃ m, W 0 m [] (j0 own fr σ) H1) ∧ ∀ i m ys σ' H', W i m ys σ' H' →
   (J.stop i H'∧ys.length≤sizeLine∧fin ys H') ∨
   (J.go i H' ∧ ∃ N : List V → St → Hp → Prop, (∀ ys2 σ2 H2, N ys2 σ2 H2 → ys2.length ≤ sizeLine ∧ ∃ m', m' < m ∧ W (i + 1) m' ys2 σ2 H2) ∧
     ∀ x H2,J.uB i H' x H2→g x σ' H2 fun σ3 H3=>tc σ3 H3 fun b H4=>if b=true then te σ3 H4 fun y H5=>N (ys++[y]) σ3 H5 else N ys σ3 H4)
structure Off (X:Cx) (pins:List (Addr×Obj)) (H:Hp) (C:Addr):Prop where
 none:H C=none
 loc:C≠X.env.locals
 above:X.s₀.heap.objs.size≤C
 cell:∀ x c,X.env.cells.lookup x=some c→c≠C
 pin:∀ p∈X.pn++pins,p.1≠C
section
variable {X:Cx} {tg elt iter:Expr} {ifs:List Expr} {scope:Scope} {cl:List (Str×Addr)} {own:List Str} {fr:List (Str×Nat)} {wi:TI} {g:TG} {tc:TT} {te:TE} {pos:Pos}
theorem rJ (hc : X.calm = true) (S : uY X scope cl own fr) (hi : PI X tg iter wi) (hg : ∀ C s2 H2 fp, PG (cy X scope cl own fr C s2 H2 fp) tg g)
   (ht:∀ C s2 H2 fp,A_ (cy X scope cl own fr C s2 H2 fp) ifs tc) (he:∀ C s2 H2 fp,PE (cy X scope cl own fr C s2 H2 fp) elt te)
   {pins:List (Addr×Obj)} {s:Shared} {σ : St} {H:Hp} {fin:List V→Hp→Prop} (I:Inv X pins σ H s) (h:yR own fr wi g tc te fin σ H)
   {RR:Value→Addr→Result→Shared→Prop}
   (hR:∀ (D C:Addr) (s4:Shared) (H3:Hp) (ys:List V) (m:Str→Option Value),H3 D=none→Inv X pins σ (upd H3 D (.lst ys)) s4→s4.heap.Ns C m→Off X pins (upd H3 D (.lst ys)) C→fin ys H3→RR (.ref D) C (.ok .next) s4) :
   wpAny (model X.prog X.w) X.A (eval iter X.env) (fun x s1=>wpAny (model X.prog X.w) X.A (pyIter x) (fun itv s2=>wpAny (model X.prog X.w) X.A (newList []) (fun acc s3 =>
     wpAny (model X.prog X.w) X.A (newFunctionEnv scope X.env.globals cl [] X.env.qual none .none (some X.env)) (fun cenv s4 =>
       codeAny (model X.prog X.w) X.A (.compStart (.ListComp elt [⟨tg,iter,ifs,0⟩] scope pos) 0 itv acc { cenv with scope:=relabel scope X.env }) (RR acc cenv.locals) s4) X.xe s3) X.xe s2) X.xe s1) X.xe s:=by
 refine br (hi pins s σ H _ I h) fun v s1 h1=>br h1 fun itv s2 h2=>?_;obtain ⟨it,fp,tn,J,H2,rfl,I2,T,st2,f2,W,⟨m0,w0⟩,turn⟩:=h2;refine wpAny_newObj_type (wpAny_newFunctionEnv S.Bm (by intro y hy;simp at hy) (fun h1 hns1 hsb1=>?_) S.kind);dsimp only at hns1 hsb1 ⊢;generalize hHP:s2.heap.push { cls:=.type "list",dict:=none,data:=.seq ([]:List Value).toArray }=HP at hns1 hsb1 ⊢;have hC:HP.objs.size=s2.heap.objs.size+1:=by rw [← hHP,Heap.size_push]
 have hDC:s2.heap.objs.size≠HP.objs.size:=by rw [hC];exact Nat.ne_of_lt (Nat.lt_succ_self _)
 have below:∀ b,b<s2.heap.objs.size→b≠HP.objs.size∧b≠s2.heap.objs.size:=fun b hb=>⟨by rw [hC];exact Nat.ne_of_lt (Nat.lt_succ_of_lt hb),Nat.ne_of_lt hb⟩;have old:∀ b o,s2.heap.get? b=some o→h1.get? b=some o:=fun b o e=>hsb1.extBut b o (below b (Heap.lt_size e)).1 (Heap.get?_push_of_some _ (hHP ▸ Heap.get?_push_of_some _ e));have hacc:h1.get? s2.heap.objs.size=some (gA []):=hsb1.extBut _ _ hDC (Heap.get?_push_of_some _ (hHP ▸ Heap.get?_push_size _ rfl));have hfpo:∀ b∈fp,b<s2.heap.objs.size:=fun b hb=>by obtain ⟨o,e,_⟩:=T.obj 0 _ st2 b hb;exact Heap.lt_size e
 have hcells:∀ x c,cl.lookup x=some c→X.env.cells.lookup x=some c:=fun x c e=>S.cells.get e;have hcD:∀ x c,X.env.cells.lookup x=some c→c<s2.heap.objs.size:=fun x c e=>by obtain ⟨v,q⟩:=I2.cell x c e;exact q.lt
 have st1:tn 0 h1:=T.keep _ _ _ st2 fun b _ o e=>old b o e;have hDfree:H2 s2.heap.objs.size=none:=I2.aG.fresh (Nat.le_refl _);have hCfree:H2 HP.objs.size=none:=I2.aG.fresh (by rw [hC];exact Nat.le_succ _);have nostk:∀ b,s2.heap.objs.size≤b→b ∉ L2.d0 X.stack:=fun b hb hm=>by
   rcases List.mem_cons.mp (I2.mr b hm) with e | e
   · exact absurd I2.lt (by rw [← e];exact Nat.not_lt.mpr hb)
   · exact I2.F2 hb e
 have hDlt:s2.heap.objs.size<h1.objs.size:=Heap.lt_size hacc
 -- the block's context
 have YOk:(cy X scope cl own fr HP.objs.size s2 H2 fp).Ok:=by
   refine ⟨I2.ok.mod, S.kind, I2.ok.glob, I2.ok.blt, ?_, fun x y c e1 e2 => I2.ok.inj x y c (hcells _ _ e1) (hcells _ _ e2), fun x hx => ?_, fun x c hf => ?_, I2.ok.hd, I2.ok.frames, .inl rfl, fun b hb => ⟨?_, fun x c e => ?_⟩,
     I2.bs,Nat.le_trans I2.ok.nS I2.sz,fun b o e hb=>?_,fun b hb hm=>?_,I2.stack,I2.mS⟩
   · show s2.heap.objs.size ≤ HP.objs.size;rw [hC];exact Nat.le_succ _
   · exact hX (env:=X.env) S.Bm S.has hx
   · cases hf
   · exact (below b (hfpo b hb)).1
   · exact (f2 b hb).2.2.2.2.1 x c (hcells _ _ e)
   · rcases (f2 b hb).2.2.2.1 with z | z
     · exact I2.ok.oE b o e z
     · exact absurd (Heap.lt_size (I2.ok.bs b o e).1) (Nat.not_lt.mpr z)
   · rcases List.mem_cons.mp (I2.mr b hm) with e | e
     · exact (f2 b hb).2.1 e
     · exact (f2 b hb).2.2.1 e
 have hpinD : ∀ {h' : Heap} {its : List Value} {H' : Hp}, h'.get? s2.heap.objs.size = some (gA its) → H' s2.heap.objs.size = none → ∀ p ∈ ([(s2.heap.objs.size, gA its)] : List (Addr × Obj)),
     h'.get? p.1=some p.2∧H' p.1=none∧p.1≠HP.objs.size∧p.1 ∉ L2.d0 X.stack∧∀ v,p.2.data≠.cell v:=fun {h' its H'} e n p hp=>by
   have e1:p=(s2.heap.objs.size,gA its):=by simpa using hp
   subst e1;exact ⟨e,n,hDC,nostk _ (Nat.le_refl _),fun v z=>by cases z⟩
 have IY:Inv (cy X scope cl own fr HP.objs.size s2 H2 fp) [(s2.heap.objs.size,gA [])] (j0 own fr σ) H2 { s2 with heap:=h1,toks:=s2.toks+([]:List (Str×Value)).length }:=by
   refine ⟨YOk,rfl,I2.bare,Un.kept old,⟨_,hns1,fun i x v e1 e2 e3=>?_⟩,fun x c e=>?_,hCfree,fun x c e=>I2.fS x c (hcells _ _ e),hpinD hacc hDfree,I2.aG.kept old,?_⟩
   · have e1' : (own ++ fr.map (·.1))[i]? = some x := e1;have e2':(own.map (fun _=>(none:Option V))++fr.map fun p=>(σ[p.2]?).join)[i]? = some (some v):=e2;by_cases hi':i<own.length
     · rw [List.getElem?_append_left (by simpa using hi'), List.getElem?_map] at e2';rw [List.getElem?_eq_getElem hi'] at e2';cases e2'
     · rw [List.getElem?_append_right (by simpa using hi'), List.getElem?_map] at e2';rw [List.getElem?_append_right (Nat.not_lt.mp hi'),List.getElem?_map] at e1';rw [List.length_map] at e2';cases ef:fr[i - own.length]? with
       | none=>rw [ef] at e1';cases e1'
       | some p =>
         rw [ef] at e1' e2';have ex:p.1=x:=Option.some.inj e1';have ev:(σ[p.2]?).join=some v:=Option.some.inj e2';obtain ⟨hN,hk,hk2,hs⟩:=S.d0.get ef;have eσ : σ[p.2]? = some (some v):=by
           cases q : σ[p.2]? with
           | none=>rw [q] at ev;cases ev
           | some o=>rw [q] at ev;exact congrArg some ev
         obtain ⟨m,hn,hl⟩:=I2.loc;obtain ⟨u,r,l⟩:=hl p.2 p.1 v hN eσ (by rcases hk with k | k;exact .inr (.inl k);exact .inr (.inr k));subst ex;obtain ⟨c,ec⟩:=Option.isSome_iff_exists.mp hs;refine ⟨u,r,.inr ⟨hk2,c,ec,?_⟩⟩;rcases l with ⟨hl1,_⟩ | ⟨_,c',ec',z⟩
         · have hl1' : X.env.scope.names.lookup p.1 = some .local := hl1;rcases hk with z | z
           · rw [z] at hl1';cases hl1'
           · rw [z] at hl1';cases hl1'
         · have := hcells _ _ ec;rw [ec'] at this;cases this
           exact z.keeps old
   · obtain ⟨v, z⟩ := I2.cell x c (hcells _ _ e);exact ⟨v,z.keeps old⟩
   · show (own.map (fun _ => (none : Option V)) ++ fr.map fun p => (σ[p.2]?).join).length = (own ++ fr.map (·.1)).length
     simp
 have stat:∀ {its:List Value} {H':Hp},(∀ b∈fp,H' b=none)→∀ b∈fp,lG (cy X scope cl own fr HP.objs.size s2 H2 fp) [(s2.heap.objs.size,gA its)] H' b:=fun {its H'} hn b hb =>
   ⟨hn b hb,(below b (hfpo b hb)).1,fun hm=>by
       rcases List.mem_cons.mp (I2.mr b hm) with e | e
       · exact (f2 b hb).2.1 e
       · exact (f2 b hb).2.2.1 e,.inl hb,fun x c e=>(f2 b hb).2.2.2.2.1 x c (hcells _ _ e),fun p hp=>by
       have e1:p=(s2.heap.objs.size,gA its):=by
         have hp':p∈([]:List (Addr×Obj))++[(s2.heap.objs.size,gA its)]:=hp
         simpa using hp'
       subst e1;exact (below b (hfpo b hb)).2.symm⟩
 have loop : ∀ s3 : Shared, s3 = { s2 with heap := h1, toks := s2.toks + ([] : List (Str × Value)).length } →
     codeAny (model X.prog X.w) X.A (.compLoop (.ListComp elt [⟨tg,iter,ifs,0⟩] scope pos) 0 (.ref it) (.ref s2.heap.objs.size) (compEnvC scope cl HP.objs.size X.env)) (RR (.ref s2.heap.objs.size) HP.objs.size) s3:=by
   rintro s3 rfl
   refine wt (fun n s' => ∃ i ys its σ' H', Inv (cy X scope cl own fr HP.objs.size s2 H2 fp) [(s2.heap.objs.size, gA its)] σ' H' s' ∧ a_ ys its ∧ tn i s'.heap ∧ (∀ b ∈ fp, H' b = none) ∧ W i n ys σ' H') ?_ m0
     ⟨0,[],[],j0 own fr σ,H2,IY,.nil,st1,fun b hb=>(f2 b hb).1,w0⟩
   rintro n s3 ⟨i,ys,its,σ3,H3,I3,rv,st3,fr3,w3⟩;rcases turn i n ys σ3 H3 w3 with ⟨stop,hz,qn⟩ | ⟨go,N,hN,step⟩
   · refine wpAny_mono (T.done (cy X scope cl own fr HP.objs.size s2 H2 fp) rfl rfl rfl hc i _ s3 σ3 H3 (fun _ _ => False) I3 (stat fr3) st3 stop) (fun r s4 h4 => ?_) fun _ _ f => f.elim;obtain ⟨hr,I4⟩:=h4;subst hr;obtain ⟨eD,nD,_⟩:=I4.pin (s2.heap.objs.size,gA its) (by simp [cy]);obtain ⟨m,hn,_⟩:=id I4.loc;have nC:H3 HP.objs.size=none:=I4.free;have bu:=I4.base;have J4:Inv X pins σ (upd H3 s2.heap.objs.size (.lst ys)) s4:=by
       refine I2.ko (ch:=fp) I4.os ⟨fun b o e n hb hx=>bu.keep b o e n hb hx,fun b o e n hb hx=>bu.slot b o e n hb hx,fun b o e n hx=>?_,fun b o e hx=>bu.there b o e hx,fun b xs e=>?_,fun b o u e=>?_,fun b ps e=>?_⟩ ?_ I4.bare ?_
       · rw [aw (below b (Heap.lt_size e)).2];exact bu.free b o e n hx
       · have z := bu.jL b xs e;rw [aw (aq z nD)];exact z
       · have z := bu.iL b o u e;rw [aw (aq z nD)];exact z
       · obtain ⟨more, z⟩ := bu.jD b ps e;exact ⟨more,by rw [aw (aq z nD)];exact z⟩
       · intro b o e;by_cases hb:b=s2.heap.objs.size
         · subst hb;rw [ae] at e;cases e
           exact ⟨hz,its,its.length,rv,eD⟩
         · rw [aw hb] at e;exact (I4.aG b o e).iq (fun c u _ q=>q) (fun c q=>by rw [aw (aq q nD)];exact q) fun c xs q=>by rw [aw (aq q nD)];exact q
       · intro b hb;exact ⟨(f2 b hb).2.2.2.1,(f2 b hb).2.1,(f2 b hb).2.2.2.2.1,(f2 b hb).2.2.2.2.2⟩
     refine hR _ _ s4 H3 ys m nD J4 hn ⟨?_,?_,?_,?_,?_⟩ qn
     · rw [aw hDC.symm];exact nC
     · exact Nat.ne_of_gt (Nat.lt_of_lt_of_le I2.lt (by rw [hC];exact Nat.le_succ _))
     · exact Nat.le_trans I2.sz (by rw [hC];exact Nat.le_succ _)
     · exact fun x c e=>(below c (hcD x c e)).1
     · exact fun p hp=>(below p.1 (Heap.lt_size (I2.pin p hp).1)).1
   · refine wpAny_mono (T.item (cy X scope cl own fr HP.objs.size s2 H2 fp) rfl rfl rfl hc i _ s3 σ3 H3 (fun _ _ => False) I3 (stat fr3) st3 go) (fun r s4 h4 => ?_) fun _ _ f => f.elim;obtain ⟨u,hr,h4⟩:=h4;subst hr;refine wpAny_mono h4 (fun _ s5 h5=>?_) fun _ _ f=>f.elim;obtain ⟨x,H5,I5,r5,y5,st5,fr5⟩:=h5;have I5':=I5.pinned (stat fr5) (T.obj _ _ st5);refine wpAny_mono (hg _ _ _ _ _ s5 σ3 H5 x u _ I5' r5 (step x H5 y5)) (fun _ s6 h6=>?_) fun _ _ f=>f.elim;obtain ⟨σ6,H6,I6,q6⟩:=h6;refine wpAny_mono (ht _ _ _ _ _ s6 σ6 H6 _ I6 q6) (fun ok s7 h7=>?_) fun _ _ f=>f.elim;obtain ⟨H7,I7,q7⟩:=h7;have keepT:∀ {σ8:St} {H8:Hp} {s8:Shared} {l:List (Addr×Obj)},Inv (cy X scope cl own fr HP.objs.size s2 H2 fp) (l++hZ fp s5.heap) σ8 H8 s8→tn (i+1) s8.heap∧∀ b∈fp,H8 b=none:=fun {σ8 H8 s8 l} I8=>by
       refine ⟨T.keep _ _ _ st5 fun b hb o e=>(I8.pin (b,o) (List.mem_append_right _ (List.mem_append_right _ (iA hb e)))).1,fun b hb=>?_⟩;obtain ⟨o,e,_⟩:=T.obj _ _ st5 b hb;exact (I8.pin (b,o) (List.mem_append_right _ (List.mem_append_right _ (iA hb e)))).2.1
     cases ok with
     | false =>
       rw [if_neg Bool.false_ne_true] at q7 ⊢;obtain ⟨_,m',hm,w7⟩:=hN _ _ _ q7;exact ⟨m',hm,i+1,ys,its,σ6,H7,I7.kC,rv,(keepT I7).1,(keepT I7).2,w7⟩
     | true =>
       rw [if_pos rfl] at q7 ⊢;refine wpAny_mono (he _ _ _ _ _ s7 σ6 H7 _ I7 q7) (fun y s8 h8=>?_) fun _ _ f=>f.elim;obtain ⟨yv,H8,I8,r8,n8⟩:=h8;obtain ⟨hlt',m',hm,w8⟩:=hN _ _ _ n8;have hlt:ys.length<sizeLine:=by rw [List.length_append] at hlt';exact hlt'
       obtain ⟨eD,nD,nL,_,_⟩:=I8.pin (s2.heap.objs.size,gA its) (by simp [cy]);refine append_at (its:=its.toArray) (n:=its.length) (hsz:=by rw [List.size_toArray,← rv.length];exact Nat.le_of_lt hlt) eD fun h9 sb9 eD9=>?_;have I8p:Inv (cy X scope cl own fr HP.objs.size s2 H2 fp) (hZ fp s5.heap) σ6 H8 s8:=I8.mR fun p hp=>I8.pin p (List.mem_append_right _ (List.mem_append_right _ hp));have I9p:Inv (cy X scope cl own fr HP.objs.size s2 H2 fp) (hZ fp s5.heap) σ6 H8 { s8 with heap:=h9 } :=
         I8p.turned (t':=s8.toks) (fun b o hb e=>(sb9.2 b hb).trans e) nD nL (.inr (Nat.le_refl _)) (fun x c e=>(below c (hcD x c (hcells _ _ e))).2) fun p hp=>by
           have hp':p∈hZ fp s5.heap:=by simpa [cy] using hp
           exact (below p.1 (hfpo _ (rG hp').1)).2
       have eD9':h9.get? s2.heap.objs.size=some (gA (its++[y])):=eD9.trans (congrArg some (zw its y));have I9:Inv (cy X scope cl own fr HP.objs.size s2 H2 fp) [(s2.heap.objs.size,gA (its++[y]))] σ6 H8 { s8 with heap:=h9 }:=I9p.mR (hpinD eD9' nD);have K9:=keepT (l:=[]) (by simpa using I9p);exact ⟨m',hm,i+1,ys++[yv],its++[y],σ6,H8,I9,rv.append (.cons r8 .nil),K9.1,K9.2,w8⟩
 exact codeAny_compStart_list (loop _ rfl) (T.self _ 0 _ _ _ st1 (loop _ rfl))
def zv (own:List Str) (fr:List (Str×Nat)) (wi:TI) (g:TG) (tc:TT) (te:TE):TE:=fun σ H Q=>yR own fr wi g tc te (fun ys H3=>∀ p,H3 p=none→Q (.ref p) (upd H3 p (.lst ys))) σ H
theorem dY (hc : X.calm = true) (S : uY X scope cl own fr) (hi : PI X tg iter wi) (hg : ∀ C s2 H2 fp, PG (cy X scope cl own fr C s2 H2 fp) tg g)
   (ht:∀ C s2 H2 fp,A_ (cy X scope cl own fr C s2 H2 fp) ifs tc) (he:∀ C s2 H2 fp,PE (cy X scope cl own fr C s2 H2 fp) elt te)
   (hs:∀ x,foldedSetIterable iter X.env x=pure x:=by intro _;rfl):PE X (.ListComp elt [⟨tg,iter,ifs,0⟩] scope pos) (zv own fr wi g tc te):=by
 intro pins s σ H Q I h;rw [eval_ListComp];refine wpAny_comprehension_free (use:=none) rfl hs S.E6 S.kind S.names ?_;refine rJ hc S hi hg ht he I h fun D C s4 H3 ys m nD J hn off q=>?_;refine ⟨m,hn,fun h' sb=>⟨.ref D,_,J.turned (t':=s4.toks) (fun b o hb e=>(sb.2 b hb).trans e) off.none off.loc (.inr off.above) off.cell off.pin,rfl,q D nD⟩⟩
def Aa (i:Nat) (own:List Str) (fr:List (Str×Nat)) (wi:TI) (g:TG) (tc:TT) (te:TE):TS:=fun D σ H=>yR own fr wi g tc te (fun ys H3=>∀ p,H3 p=none→D.nx (σ.set i (some (.ref p))) (upd H3 p (.lst ys))) σ H
theorem f9 {i : Nat} {y : Str} {py spos : Pos} (hN : X.N.Nodup) (hi' : X.N[i]? = some y) (hx : X.env.scope.names.lookup y = some .local) (hc : X.calm = true) (S : uY X scope cl own fr) (hi : PI X tg iter wi) (hg : ∀ C s2 H2 fp, PG (cy X scope cl own fr C s2 H2 fp) tg g)
   (ht:∀ C s2 H2 fp,A_ (cy X scope cl own fr C s2 H2 fp) ifs tc) (he:∀ C s2 H2 fp,PE (cy X scope cl own fr C s2 H2 fp) elt te)
   (hsw:swapsWith (.ListComp elt [⟨tg,iter,ifs,0⟩] scope pos) (some (.Name y py)) spos.line X.env=pure true:=by rfl)
   (hs:∀ x,foldedSetIterable iter X.env x=pure x:=by intro _;rfl):PS X (.Assign [.Name y py] (.ListComp elt [⟨tg,iter,ifs,0⟩] scope pos) spos) (Aa i own fr wi g tc te):=by
 intro pins s σ H D I h;rw [exec_Assign_Name_used _ _ _ _ hsw];refine wpAny_bind (wpAny_standAt (wpAny_bind ?_));show wpAny _ X.A (do let _ ← comprehension (.ListComp elt [⟨tg,iter,ifs,0⟩] scope pos) scope X.env _ (newList []) false (eval iter X.env) (some (assign (.Name y py) X.env))) _ _ s;refine wpAny_bind (wpAny_mono (wpAny_comprehension_free (use:=some (assign (.Name y py) X.env)) (Q:=fun _ s'=>SP X pins D .next s') rfl hs S.E6 S.kind S.names ?_) (fun _ s' hq=>wpAny_pure (wpAny_pure hq)) fun _ _ e=>e);refine rJ hc S hi hg ht he I h fun Da C s4 H3 ys m nD J hn off q=>?_;show wpAny _ X.A (assign (.Name y py) X.env (.ref Da)) _ _ _;refine wpAny_assign_Name (rB J hN hi' (.inl hx) (v:=.ref Da) rfl (fun s5 I5 hsb=>?_) (.inr hx));obtain ⟨a,sb,ha⟩:=hsb;have nCa:C≠a:=by
   rcases ha with z | z
   · rw [z];exact off.loc
   · exact (off.cell _ _ z).symm
 refine ⟨m,hn.sameBut sb nCa,fun h' sb'=>⟨_,_,I5.turned (t':=s5.toks) (fun b o hb e=>(sb'.2 b hb).trans e) off.none off.loc (.inr off.above) off.cell off.pin,q Da nD⟩⟩
end
section
variable {K:W.Frag} {a:Addr} {xs:List V} {own:List Str} {fr:List (Str×Nat)} {g:TG} {tc:TT} {te:TE} {fin:List V→Hp→Prop} {σ : St} {H:Hp}
def gT (J:It) (g:TG) (tc:TT) (te:TE) (fin:List V→Hp→Prop) (σ0:St) (H1:Hp):Prop :=
 ∃ W : Nat → Nat → List V → St → Hp → Prop, (∃ m, W 0 m [] σ0 H1) ∧ ∀ i m ys σ' H', W i m ys σ' H' →
   (J.stop i H'∧ys.length≤sizeLine∧fin ys H') ∨
   (J.go i H' ∧ ∃ N : List V → St → Hp → Prop, (∀ ys2 σ2 H2, N ys2 σ2 H2 → ys2.length ≤ sizeLine ∧ ∃ m', m' < m ∧ W (i + 1) m' ys2 σ2 H2) ∧
     ∀ x H2,J.uB i H' x H2→g x σ' H2 fun σ3 H3=>tc σ3 H3 fun b H4=>if b=true then te σ3 H4 fun y H5=>N (ys++[y]) σ3 H5 else N ys σ3 H4)
theorem ez {σ0 : St} (Pv : Nat → List V → St → Hp → Prop) (h0 : Pv 0 [] σ0 H) (hl : ∀ i ys σ H, i ≤ xs.length → Pv i ys σ H → aA K H a xs ∧ ys.length ≤ sizeLine)
   (hs:∀ i x ys σ H,xs[i]? = some x→Pv i ys σ H→g x σ H fun σ3 H3=>tc σ3 H3 fun b H4=>if b=true then te σ3 H4 fun y H5=>Pv (i+1) (ys++[y]) σ3 H5 else Pv (i+1) ys σ3 H4)
   (hd:∀ ys σ H,Pv xs.length ys σ H→fin ys H):gT (pV K a) g tc te fin σ0 H:=by
 refine ⟨fun i m ys σ H=>m=xs.length - i∧i≤xs.length∧Pv i ys σ H,⟨xs.length,by simp,Nat.zero_le _,h0⟩,?_⟩;rintro i m ys σ H ⟨rfl,hi,p⟩;obtain ⟨q,hz⟩:=hl i ys σ H hi p;by_cases hlt:i<xs.length
 · refine .inr ⟨⟨xs, xs[i], q, by simp [hlt]⟩, Pv (i + 1), fun ys2 σ2 H2 p' => ⟨(hl (i + 1) ys2 σ2 H2 hlt p').2, xs.length - (i + 1), by omega, rfl, hlt, p'⟩, fun x H2 y => ?_⟩;obtain ⟨e,y⟩:=y;subst e;exact hs i x ys σ _ (y xs q) p
 · have e : i = xs.length := by omega
   subst e;exact .inl ⟨⟨xs,q,Nat.le_refl _⟩,hz,hd ys σ H p⟩
theorem dZ {σ0 : St} {lo : Int} {n : Nat} (Pv : Nat → List V → St → Hp → Prop) (h0 : Pv 0 [] σ0 H) (hl : ∀ i ys σ H, i ≤ n → Pv i ys σ H → ys.length ≤ sizeLine)
   (hs:∀ i ys σ H,i<n→Pv i ys σ H→g (.int (lo+i)) σ H fun σ3 H3=>tc σ3 H3 fun b H4=>if b=true then te σ3 H4 fun y H5=>Pv (i+1) (ys++[y]) σ3 H5 else Pv (i+1) ys σ3 H4)
   (hd:∀ ys σ H,Pv n ys σ H→fin ys H):gT (nG lo n) g tc te fin σ0 H:=by
 refine ⟨fun i m ys σ H=>m=n - i∧i≤n∧Pv i ys σ H,⟨n,by simp,Nat.zero_le _,h0⟩,?_⟩;rintro i m ys σ H ⟨rfl,hi,p⟩;by_cases hlt:i<n
 · refine .inr ⟨hlt, Pv (i + 1), fun ys2 σ2 H2 p' => ⟨hl (i + 1) ys2 σ2 H2 hlt p', n - (i + 1), by omega, rfl, hlt, p'⟩, fun x H2 y => ?_⟩;obtain ⟨e,y⟩:=y;subst e y;exact hs i ys σ _ hlt p
 · have e : i = n := by omega
   subst e;exact .inl ⟨Nat.le_refl _,hl _ ys σ H hi p,hd ys σ H p⟩
end
end L3
namespace L3
open PySem PySem.Spec PyProof.Rows L2 PySem.SeqAt
theorem ay {H:Hp} {p q:Addr} {o u:HO} (hq:H q=some u) (hp:H p=none):upd H p o q=some u:=by
 rw [aw (aq hq hp)];exact hq
theorem q0 {H:Hp} {p q:Addr} {o:HO} {u:Option HO} (hne:q≠p) (hq:H q=u):upd H p o q=u:=by
 rw [aw hne];exact hq
theorem ff {H:Hp} {p q:Addr} {o:HO} (h:upd H p o q=none):H q=none∧q≠p:=by
 by_cases e:q=p
 · subst e;rw [ae] at h;cases h
 · rw [aw e] at h;exact ⟨h,e⟩
theorem ah {H:Hp} {p:Addr} {o:HO} (h:H p=none):au H (upd H p o):=fun b u q=>ay q h
theorem bz {H H1:Hp} {p:Addr} {o:HO} (s:au H H1) (h:H p=none):au H (upd H1 p o):=fun b u q=>by
 rw [aw (aq q h)];exact s b u q
theorem cI {K:W.Frag} {H H':Hp} {a:Addr} {xs:List V} (e:au H H') (h:aZ K H a xs):aZ K H' a xs:=by
 rcases h with (h | ⟨o,h⟩) | h
 · exact .inl (.inl (e _ _ h))
 · exact .inl (.inr ⟨o,e _ _ h⟩)
 · exact .inr h
mutual
def Dp (K : W.Frag) (H : Hp) : PyData → V → Prop
 | .none,v=>v=.aR
 | .bool b,v=>v=.bl b
 | .int i,v=>v=.int i
 | .str x,v=>v=.str x
 | .list ds,v=>∃ a xs,v=.ref a∧aA K H a xs∧ei K H ds xs
 | .tuple ds,v=>∃ a xs,v=.ref a∧aZ K H a xs∧ei K H ds xs
 | .dict _,_=>False
def ei (K : W.Frag) (H : Hp) : List PyData → List V → Prop
 | [],vs=>vs=[]
 | d::ds,vs=>∃ v r,vs=v::r∧Dp K H d v∧ei K H ds r
end
theorem pE {K : W.Frag} {H : Hp} : ∀ ns : List Int, ei K H (ns.map PyData.int) (ns.map V.int)
 | []=>by rw [List.map_nil,List.map_nil,ei]
 | n :: ns => by
   rw [List.map_cons,List.map_cons,ei];exact ⟨_,_,rfl,by rw [Dp],pE ns⟩
theorem xc {K:W.Frag} {H:Hp} {a:Addr} {ns:List Int} (h:aA K H a (ns.map V.int)):Dp K H (.list (ns.map PyData.int)) (.ref a):=by
 rw [Dp];exact ⟨a,_,rfl,h,pE ns⟩
theorem fb {K:W.Frag} {H:Hp} (i:Int):Dp K H (.int i) (.int i):=by rw [Dp]
theorem qk {K:W.Frag} {H:Hp} {a:Addr} {xs:List V} {ds:List PyData} (h:aA K H a xs) (q:ei K H ds xs):Dp K H (.list ds) (.ref a):=by
 rw [Dp];exact ⟨a,_,rfl,h,q⟩
theorem kX {K:W.Frag} {H:Hp} {a:Addr} {xs:List V} {ds:List PyData} (h:aZ K H a xs) (q:ei K H ds xs):Dp K H (.tuple ds) (.ref a):=by
 rw [Dp];exact ⟨a,_,rfl,h,q⟩
theorem eA {K:W.Frag} {H:Hp}:ei K H [] []:=by rw [ei]
theorem cx {K:W.Frag} {H:Hp} {d:PyData} {ds:List PyData} {v:V} {r:List V} (h:Dp K H d v) (q:ei K H ds r):ei K H (d::ds) (v::r):=by
 rw [ei];exact ⟨_,_,rfl,h,q⟩
theorem jz : ∀ ns : List Int, PyData.canLayAll0 (ns.map PyData.int) = true
 | []=>rfl
 | n :: ns => by
   rw [List.map_cons,PyData.canLayAll0,jz ns];rfl
theorem kz : ∀ ns : List Int, PyData.depthAll (ns.map PyData.int) = 0
 | []=>rfl
 | n :: ns => by
   rw [List.map_cons,PyData.depthAll,kz ns];rfl
theorem shaped_ints (ns:List Int):shaped (.list (ns.map PyData.int))=true:=by
 unfold shaped;rw [PyData.canLay0,jz,PyData.depth,kz];rfl
section
variable {X:Cx} {pins:List (Addr×Obj)} {σ : St} {H:Hp} {s:Shared}
mutual
theorem iU (I : Inv X pins σ H s) : ∀ (d : PyData) (v : V) (u : Value), Dp X.K H d v → RelV v u → ∃ as, Reads s.heap u d as
 | .none, v, u, h, r => by
   rw [Dp] at h;subst h;cases (show u=Value.none from r);exact ⟨_,.none⟩
 | .bool b, v, u, h, r => by
   rw [Dp] at h;subst h;cases (show u=Value.bool b from r);exact ⟨_,.bool b⟩
 | .int i, v, u, h, r => by
   rw [Dp] at h;subst h;obtain ⟨t,e⟩:=(show ∃ t,u=Value.int i t from r);subst e;exact ⟨_,.int i t⟩
 | .str x, v, u, h, r => by
   rw [Dp] at h;subst h;obtain ⟨t,e⟩:=(show ∃ t,u=Value.str x t from r);subst e;exact ⟨_,.str x t⟩
 | .list ds, v, u, h, r => by
   rw [Dp] at h;obtain ⟨a,xs,e,hq,ha⟩:=h;subst e;cases (show u=Value.ref a from r)
   obtain ⟨its,rv,pl,hz⟩:=I.list hq;obtain ⟨o,ho,hc,n,hd⟩:=pl.isList;obtain ⟨as,z⟩:=jB I ds xs its ha rv;exact ⟨_,.list ho hc hd (by simpa using z)⟩
 | .tuple ds, v, u, h, r => by
   rw [Dp] at h;obtain ⟨a,xs,e,hq,ha⟩:=h;subst e;cases (show u=Value.ref a from r)
   obtain ⟨its,rv,pl,hz⟩:=I.tuple hq;obtain ⟨o,ho,hc,n,hd⟩:=pl;obtain ⟨as,z⟩:=jB I ds xs its ha rv;exact ⟨_,.tuple ho hc hd (by simpa using z)⟩
 | .dict _,v,u,h,r=>by rw [Dp] at h;exact h.elim
theorem jB (I : Inv X pins σ H s) : ∀ (ds : List PyData) (vs : List V) (us : List Value), ei X.K H ds vs → a_ vs us → ∃ as, ReadsAll s.heap us ds as
 | [], vs, us, h, r => by
   rw [ei] at h;subst h;cases r;exact ⟨_,.nil⟩
 | d :: ds, vs, us, h, r => by
   rw [ei] at h;obtain ⟨v,rr,e,h1,h2⟩:=h;subst e;cases r with
   | cons r1 r2 =>
     obtain ⟨as,z1⟩:=iU I d _ _ h1 r1;obtain ⟨bs,z2⟩:=jB I ds _ _ h2 r2;exact ⟨_,.cons z1 z2⟩
end
end
def FT (K:W.Frag):R2:=fun x y H Q=>∃ dx dy,Dp K H dx x∧Dp K H dy y∧shaped dx=true∧shaped dy=true∧Q (.bl (PyData.eqv dx dy)) H
def FL (K:W.Frag):R2:=fun x y H Q=>∃ dx dy,Dp K H dx x∧Dp K H dy y∧shaped dx=true∧shaped dy=true∧Q (.bl (!PyData.eqv dx dy)) H
def uw (K:W.Frag):R2:=fun x y H Q=>Td x y H Q∨FT K x y H Q
def il (K:W.Frag):R2:=fun x y H Q=>Tq x y H Q∨FL K x y H Q
section
variable {X:Cx}
theorem F3 (hu:X.A.units+64<cLine):cb X (compareOp .Eq) (FT X.K):=by
 intro pins s σ H x y v u Q I rx ry h;obtain ⟨dx,dy,hx,hy,sx,sy,q⟩:=h;obtain ⟨as,ra⟩:=iU I dx x v hx rx;obtain ⟨bs,rb⟩:=iU I dy y u hy ry;exact eq_dataH ra rb sx sy hu ⟨.bl _,H,I,rfl,q⟩
theorem FQ (hu:X.A.units+64<cLine):cb X (compareOp .NotEq) (FL X.K):=by
 intro pins s σ H x y v u Q I rx ry h;obtain ⟨dx,dy,hx,hy,sx,sy,q⟩:=h;obtain ⟨as,ra⟩:=iU I dx x v hx rx;obtain ⟨bs,rb⟩:=iU I dy y u hy ry;exact ne_dataH ra rb sx sy hu ⟨.bl _,H,I,rfl,q⟩
theorem GL (hu:X.A.units+64<cLine):cb X (compareOp .Eq) (uw X.K):=O4.or (F3 hu)
theorem Ai (hu:X.A.units+64<cLine):cb X (compareOp .NotEq) (il X.K):=Ig.or (FQ hu)
end
theorem A9 (d:PyData) (h:shaped d=true):d.canLay0=true:=(Bool.and_eq_true_iff.mp h).1
theorem Dj {K:W.Frag} {x y:V} {H:Hp} {Q:VK} (h:za x y=true) (q:Q (.bl (decide (x=y))) H):uw K x y H Q:=.inl ⟨h,q⟩
theorem C2 {K:W.Frag} {x y:V} {H:Hp} {Q:VK} (h:za x y=true) (q:Q (.bl (!decide (x=y))) H):il K x y H Q:=.inl ⟨h,q⟩
theorem C5 {K:W.Frag} {x y:V} {H:Hp} {Q:VK} (d:PyData) (hx:Dp K H d x) (hy:Dp K H d y) (hs:shaped d=true) (q:Q (.bl false) H):il K x y H Q :=
 .inr ⟨d,d,hx,hy,hs,hs,by rw [eqv_refl d (A9 d hs)];exact q⟩
def mJ : V → Value
 | .ty n=>.type n
 | .ref a=>.ref a
 | _=>.none
theorem Bx {c:V} {u:Value} (r:RelV c u) (h:mJ c≠.none):u=mJ c:=by
 cases c <;> first | exact r | exact (h rfl).elim
def zq (K:W.Frag):List V→Hp→VK→Prop:=fun xs H Q=>∃ x c t b,xs=[x,c]∧mJ c≠.none∧ee K H x t∧W.kitOne K t (mJ c)=some b∧Q (.bl b) H
theorem BX {X:Cx}:cR X (.builtin "isinstance") (zq X.K):=by
 intro pins s σ H xs us Q I r h;obtain ⟨x,c,t,b,rfl,hc,ty,e,q⟩:=h;obtain ⟨u,w',rfl,rx,rc⟩:=vals2 r;cases Bx rc hc
 exact Bu I rx ty e fun tk=>⟨.bl b,H,I.tok _,rfl,q⟩
theorem iB {K:W.Frag} {x c:V} {H:Hp} {Q:VK} {t:Value} {b:Bool} (hc:mJ c≠.none) (ty:ee K H x t) (e:W.kitOne K t (mJ c)=some b) (q:Q (.bl b) H):zq K [x,c] H Q:=⟨x,c,t,b,rfl,hc,ty,e,q⟩
def Cp (K:W.Frag):List V→Hp→VK→Prop:=fun xs H Q=>∃ (p:Addr) (bs:List Bool),xs=[.ref p]∧aA K H p (bs.map V.bl)∧Q (.bl (bs.all id)) H
theorem all_range (bs:List Bool):(List.range bs.length).all (fun i=>bs.getD i false)=bs.all id:=by
 induction bs with
 | nil=>rfl
 | cons b r ih =>
   rw [List.length_cons,List.range_succ_eq_map,List.all_cons,List.all_cons,List.all_map];rw [← ih];rfl
theorem CG {X:Cx} (hc:X.calm=true):cR X (.builtin "all") (Cp X.K):=by
 intro pins s σ H xs us Q I r h;obtain ⟨p,bs,rfl,hq,q⟩:=h;obtain ⟨u,rfl,rx⟩:=vals1 r;cases rx
 obtain ⟨its,rv,pl,hz⟩:=I.list hq;have hlen:=rv.length;rw [List.length_map] at hlen;have hlt:p<s.heap.objs.size:=by obtain ⟨o,e,_⟩:=pl.isList;exact Heap.lt_size e
 refine call_all_walk (wpAny_pyIter_list pl.isList ?_);refine ⟨s.heap.objs.size,_,_,_,_,_,fun i=>bs.getD i false,rfl,Walks.list (by exact I.ok.hd hc) s.heap.objs.size p (Nat.ne_of_lt hlt) its.toArray,⟨⟨_,Heap.get?_push_size _ rfl,rfl,rfl⟩,pl.isList.push _⟩,?_,?_⟩
 · intro i v s' Q' E' hP hQ';have hP':its[i]? = some v:=by simpa using hP
   have hi:i<its.length:=(List.getElem?_eq_some_iff.mp hP').1;have hb:(bs.map V.bl)[i]? = some (V.bl (bs.getD i false)):=by
     rw [List.getElem?_map,List.getElem?_eq_getElem (by omega)];simp [List.getD,List.getElem?_eq_getElem (show i<bs.length by omega)]
   obtain ⟨u',hu',ru'⟩:=rv.get hb;rw [hP'] at hu';cases hu'
   cases (show v=Value.bool _ from ru')
   exact wpAny_truthy_bool hQ'
 · intro h' tk kk;have e:(List.range its.toArray.size).all (fun i=>bs.getD i false)=bs.all id:=by
     rw [List.size_toArray,← hlen];exact all_range bs
   rw [e];refine ⟨.bl _,H,?_,rfl,q⟩;have I1:Inv X pins σ H { s with heap:=s.heap.push { cls:=.type "list_iterator",data:=.fields #[.ref p,.int 0 0] } }:=I.kept (t':=s.toks) fun b o e=>Heap.get?_push_of_some _ e;have f:=I.jC (H':=H) (Nat.le_refl _) I.fresh;exact I1.turned (it:=s.heap.objs.size) (h':=h') (t':=tk) (fun b o hb e=>kk b o (by simpa using hb) e) f.1 f.2.1 f.2.2.2.1 f.2.2.2.2.1 f.2.2.2.2.2
theorem yx:typeLookup (.type "bool") "__index__" = pure (some (.builtin "int.__index__")):=by rw [typeLookup_type,builtinLookup_eq_fast];kernel_rfl
theorem lV {M : Model} {A : Around} {E : Value → Shared → Prop} {s : Shared} {b : Bool} {Q : Option Int → Shared → Prop} (h : Q (some (if b then 1 else 0)) s) :
   wpAny M A (Builtin.List.listSubscript? (.bool b)) Q E s:=by
 unfold Builtin.List.listSubscript?;refine wpAny_bind (wpAny_specialOf (T:="bool") (show s.TypeIs (.bool b) "bool" from rfl) yx ?_);show wpAny M A (asIndex (.bool b) >>= _) Q E s;refine wpAny_bind (wpAny_of_eq (a:=if b then 1 else 0) rfl ?_);show wpAny M A (if (!Builtin.List.listFitsIndex (if b then 1 else 0))=true then _ else _) Q E s;rw [if_neg (by cases b <;> decide)];exact wpAny_pure h
theorem ni {prog : Program} {w : World} {A : Around} {E : Value → Shared → Prop} {s : Shared} {l : Addr} {items : Array Value} {b : Bool} {x : Value} {Q : Value → Shared → Prop} (hl : s.heap.IsList l items)
   (hx:items[if b then 1 else 0]? = some x) (h:Q x s):wpAny (model prog w) A (getItem (.ref l) (.bool b)) Q E s:=by
 obtain ⟨o,ho,hc,ne,hd⟩:=id hl;unfold getItem
 try with_reducible refine wpAny_holding ?_
 first | refine wpAny_bind (wpAny_pure ?_) | skip
 refine wpAny_bind (wpAny_sequenceKey hl.typeIs (by decide) ?_)
 refine wpAny_bind (wpAny_callSpecial?_slot (name := Str.ofString "__getitem__") hl.typeIs slot_list_getitem
   (wpAny_call_entry slot_list_getitem hl.typeIs entry_list_getitem ?_ (args_list_getitem _ _)))
 show wpAny _ _ (Builtin.List.listSubscript? (.bool b) >>= _) _ _ s;refine wpAny_bind (lV ?_);cases b with
 | true =>
   have hx':items[1]? = some x:=hx;show wpAny _ _ ((seqItemAt l 1 >>= fun r=>pure (r.map (1,·))) >>= _) _ _ s;refine wpAny_bind (wpAny_bind (wpAny_seqItemAt ho hd (wpAny_pure ?_)));rw [hx']
   first
     | exact wpAny_bind (wpAny_pure (wpAny_pure ⟨x,rfl,wpAny_pure h⟩))
     | exact wpAny_pure ⟨x,rfl,wpAny_pure h⟩
 | false =>
   have hx':items[0]? = some x:=hx;show wpAny _ _ ((seqItemAt l 0 >>= fun r=>pure (r.map (0,·))) >>= _) _ _ s;refine wpAny_bind (wpAny_bind (wpAny_seqItemAt ho hd (wpAny_pure ?_)));rw [hx']
   first
     | exact wpAny_bind (wpAny_pure (wpAny_pure ⟨x,rfl,wpAny_pure h⟩))
     | exact wpAny_pure ⟨x,rfl,wpAny_pure h⟩
def G3 (K:W.Frag):R2:=fun x y H Q=>∃ p xs b v,x=.ref p∧y=.bl b∧aA K H p xs∧xs[if b then 1 else 0]? = some v∧Q v H
theorem Er {X:Cx}:kP X (G3 X.K):=by
 intro value slice pins s σ H x y v u Q I rx ry h hs;obtain ⟨p,xs,b,z,rfl,rfl,hq,he,q⟩:=h;cases rx
 cases ry
 obtain ⟨its,r,pl,hz⟩:=I.list hq;obtain ⟨w,ew,rw'⟩:=r.get he
 exact subscriptTail_builtinR (x := w) pl.isList.typeIs slot_list_getitem.lookup
   (ni (Q:=fun r s'=>r=w∧EP X pins σ Q r s') pl.isList (by simpa using ew) ⟨rfl,z,H,I,rw',q⟩) hs
def jF (K:W.Frag):R2:=fun x y H Q=>TC K x y H Q∨G3 K x y H Q
theorem E2 {X:Cx}:kP X (jF X.K):=Gn.or Er
theorem c6 {K:W.Frag} {p:Addr} {xs:List V} {i:Int} {v:V} {H:Hp} {Q:VK} (h:aA K H p xs) (e:dz xs i=some v) (q:Q v H):jF K (.ref p) (.int i) H Q:=.inl (.inl ⟨p,xs,i,v,rfl,rfl,h,e,q⟩)
theorem qc {K:W.Frag} {p:Addr} {xs:List V} {i:Int} {v:V} {H:Hp} {Q:VK} (h:aZ K H p xs) (e:dz xs i=some v) (q:Q v H):jF K (.ref p) (.int i) H Q:=.inl (.inr (.inl ⟨p,xs,i,v,rfl,rfl,h,e,q⟩))
def UB:R2:=fun x y H Q=>∃ i j,x=.str i∧y=.str j∧i.length+j.length≤sizeLine∧Q (.str (i++j)) H
def mE (K:W.Frag):R2:=fun x y H Q=>jo (fun i j=>.int (i+j)) x y H Q∨Gj x y H Q∨Di K x y H Q∨UB x y H Q
theorem EJ {X:Cx}:cb X (binaryOp .Add) (mE X.K):=Fg.or (GJ.or (DL.or y_))
theorem Eo {K:W.Frag} {i j:Int} {H:Hp} {Q:VK} (q:Q (.int (i+j)) H):mE K (.int i) (.int j) H Q:=.inl ⟨i,j,rfl,rfl,q⟩
theorem EA {K : W.Frag} {a b : Addr} {xs ys : List V} {H : Hp} {Q : VK} (ha : H a = some (.lst xs)) (hb : H b = some (.lst ys)) (hz : xs.length + ys.length ≤ sizeLine) (q : ∀ p, H p = none → Q (.ref p) (upd H p (.lst (xs ++ ys)))) :
   mE K (.ref a) (.ref b) H Q:=.inr (.inl ⟨a,b,xs,ys,rfl,rfl,ha,hb,hz,q⟩)
def zR:R2:=fun x y H Q=>rI vn (fun i j=>.int (i*j)) x y H Q∨Fc x y H Q
theorem gJ {X:Cx}:cb X (binaryOp .Mult) zR:=GN.or FK
theorem CW {i j:Int} {H:Hp} {Q:VK} (h:vn i j) (q:Q (.int (i*j)) H):zR (.int i) (.int j) H Q:=.inl ⟨i,j,rfl,rfl,h,q⟩
def oR (K:W.Frag):V→Option Int→Option Int→Hp→VK→Prop:=fun x lo hi H Q=>GO K x lo hi H Q∨GS K x lo hi H Q
theorem Gw {X:Cx}:pD X (oR X.K):=ET.or EU
structure cG (P:Program) (w:World) (K:W.Frag) (mg:Str→Option Value) (base:Heap) (CX:eh) (k:Nat) (x:Str) (sp:Sp):Prop where
 ex:∃ (f:Addr) (fd:FuncData) (ps:List Str),eg P w K mg base CX k f fd ps sp∧mg x=some (.ref f)∧W.keepIn K (.ref f)=true∧Binds K fd ps []
structure bw (P:Program) (w:World) (K:W.Frag) (mg:Str→Option Value) (base:Heap) (CX:eh) (k:Nat) (C:Addr) (m:Str) (sp:Sp):Prop where
 cl:eo K C
 ex:∃ (f:Addr) (fd:FuncData) (ps:List Str),vH K C m f∧eg P w K mg base CX k f fd ps sp∧Binds K fd ps []
structure ia (P:Program) (w:World) (K:W.Frag) (mg:Str→Option Value) (base:Heap) (CX:eh) (k:Nat) (x:Str) (C:Addr) (sp:Sp):Prop where
 ex:∃ (f:Addr) (fd:FuncData) (ps:List Str),Mk K C f∧eg P w K mg base CX k f fd ps sp∧mg x=some (.ref C)∧Binds K fd ps []
theorem bw.mono {P:Program} {w:World} {K:W.Frag} {mg:Str→Option Value} {base:Heap} {CX:eh} {j k:Nat} {C:Addr} {m:Str} {sp:Sp} (M:bw P w K mg base CX j C m sp) (h:j≤k):bw P w K mg base CX k C m sp:=by
 obtain ⟨f,fd,ps,a,b,c⟩:=M.ex;exact ⟨M.cl,f,fd,ps,a,b.mono h,c⟩
def dP (sp:Sp) (E:XK) (t:TA):TE:=fun σ H Q=>t σ H fun vs H1=>sp vs H1 Q E
def mj (C : Addr) (sp : Sp) (E : XK) (t : TA) : TE := fun σ H Q => t σ H fun vs H1 => ∀ x dx, H1 x = none → H1 dx = none → dx ≠ x →
 sp (.ref x::vs) (upd (upd H1 dx (.own x)) x (.ins C dx [])) (fun v H2=>v=.aR∧Q (.ref x) H2) E
def vM (P:Program) (w:World) (K:W.Frag) (mg:Str→Option Value) (base:Heap) (CX:eh) (k:Nat) (m:Str) (E:XK) (ta:TE) (t:TA):TE:=fun σ H Q=>ta σ H fun x H1 =>
 ∃ a C dx fs sp,x=.ref a∧H1 a=some (.ins C dx fs)∧fs.lookup m=none∧bw P w K mg base CX k C m sp∧t σ H1 fun vs H2=>sp (.ref a::vs) H2 Q E
section
variable {X:Cx} {CX:eh} {k:Nat} {C:Addr} {sp:Sp} {E:XK} {x m:Str} {p pos apos:Pos} {e o:Expr} {es:List Expr} {ta:TE} {t:TA}
theorem ax (G : cG X.prog X.w X.K X.mg X.base CX k x sp) (hr : cF k X.A) (hx : fM CX X E) (hg : Gl X x) (ha : PA X (e :: es) t) (hdb : (x == ("__debug__" : Str)) = false := by decide)
   (he:starEach (e::es) X.env=(false,eval e X.env)::starEach es X.env:=by rfl) (hpl:(backTo pos (starEach es X.env)).any (·.1)=false:=by rfl):PE X (.Call (.Name x p) (e::es) [] pos) (dP sp E t):=by
 obtain ⟨f,fd,ps,F,hm,hk,hb⟩:=G.ex;have z:=Ed (p:=p) (pos:=pos) F hr hg hm hk hb .nil hx ha hdb he hpl;intro pins s σ H Q I h;refine z pins s σ H Q I ?_;have e1:Dk sp [] E t=dP sp E t:=by
   funext σ H Q
   show t σ H (fun vs H1=>sp (vs++[]) H1 Q E)=t σ H (fun vs H1=>sp vs H1 Q E);simp only [List.append_nil]
 rw [e1];exact h
theorem cH (G : ia X.prog X.w X.K X.mg X.base CX k x C sp) (hr : cF (k + 1) X.A) (hx : fM CX X E) (hg : Gl X x) (ha : PA X (e :: es) t) (hdb : (x == ("__debug__" : Str)) = false := by decide)
   (he:starEach (e::es) X.env=(false,eval e X.env)::starEach es X.env:=by rfl) (hpl:(backTo pos (starEach es X.env)).any (·.1)=false:=by rfl):PE X (.Call (.Name x p) (e::es) [] pos) (mj C sp E t):=by
 obtain ⟨f,fd,ps,M,F,hm,hb⟩:=G.ex;have z:=Ek (p:=p) (pos:=pos) M F hr hg hm hb .nil hx ha hdb he hpl;intro pins s σ H Q I h;refine z pins s σ H Q I ?_;have e1:C0 C sp [] E t=mj C sp E t:=by
   funext σ H Q
   show t σ H (fun vs H1=>∀ x dx,H1 x=none→H1 dx=none→dx≠x→sp (.ref x::(vs++[])) _ _ E)=t σ H (fun vs H1=>∀ x dx,H1 x=none→H1 dx=none→dx≠x→sp (.ref x::vs) _ _ E);simp only [List.append_nil]
 rw [e1];exact h
theorem BM {pl : Sem Bool} (he : PE X o ta) (hr : cF k X.A) (hx : fM CX X E) (ha : PA X (e :: es) t)
   (hst:starEach (e::es) X.env=(false,eval e X.env)::starEach es X.env:=by rfl) (hpl:(backTo pos (starEach es X.env)).any (·.1)=false:=by rfl)
   (ht : eval (.Call (.Attribute o m apos) (e :: es) [] pos) X.env = (do
     let ov ← eval o X.env
     standAt apos.atName
     let (f,first) ← holding [ov] (getMethod ov m pl)
     callWith pos f first (backTo pos (starEach (e::es) X.env)) (backToKw pos (keywordEach [] X.env))):=by rfl) :
   PE X (.Call (.Attribute o m apos) (e::es) [] pos) (vM X.prog X.w X.K X.mg X.base CX k m E ta t):=by
 intro pins s σ H Q I h;refine W.methodCall_KW (pl:=pl) (br (he pins s σ H _ I h) fun u s1 ⟨x,H1,I1,rx,a,C,dx,fs,sp,ex,ea,l,M,q⟩=>?_) ht;subst ex;obtain rfl:u=Value.ref a:=rx;obtain ⟨f,fd,ps,hm,F,hb⟩:=M.ex;refine x8 I1 ea M.cl hm l ?_;refine W.callWith_K (first:=[.ref a]) (h₀:=X.base) I.ok.mod.vw hm.kp (br (ha pos pins s1 σ H1 _ I1 q) fun us s2 ⟨vs,H2,I2,r,q2⟩=>⟨I2.el,?_⟩) hst hpl;exact zG (us:=.ref a::us) (vs:=.ref a::vs) F hr hb .nil hx I2 (.cons rfl r) (by rw [List.append_nil];exact q2)
end
theorem bR:bootBuiltins "len" = some (.builtin "len"):=by decide +kernel
theorem DK:bootBuiltins "all" = some (.builtin "all"):=by decide +kernel
theorem dQ:bootBuiltins "isinstance" = some (.builtin "isinstance"):=by decide +kernel
theorem Ib:bootBuiltins "max" = some (.builtin "max"):=by decide +kernel
theorem tH:bootBuiltins "int" = some (.type "int"):=by decide +kernel
theorem px:bootBuiltins "list" = some (.type "list"):=by decide +kernel
def Ct (K:W.Frag) (f:Str):V→Hp→VK→Prop:=fun x H1 Q=>∃ a C dx fs v,x=.ref a∧H1 a=some (.ins C dx fs)∧eo K C∧bL K C f∧fs.lookup f=some v∧Q v H1
def Dl (P:Program) (w:World) (K:W.Frag) (mg:Str→Option Value) (base:Heap) (CX:eh) (k:Nat) (m:Str) (E:XK) (σ : St) (t:TA):V→Hp→VK→Prop:=fun x H1 Q =>
 ∃ a C dx fs sp,x=.ref a∧H1 a=some (.ins C dx fs)∧fs.lookup m=none∧bw P w K mg base CX k C m sp∧t σ H1 fun vs H2=>sp (.ref a::vs) H2 Q E
def Ds (K:W.Frag) (f:Str) (y:V) (D:Ends) (σ : St):V→Hp→Prop:=fun x H2=>∃ a C dx fs,x=.ref a∧H2 a=some (.ins C dx fs)∧eo K C∧bL K C f∧fs.length<1000∧D.nx σ (upd H2 a (.ins C dx (aL f y fs)))
def mB (K:W.Frag):List V→Hp→VK→Prop:=fun xs H Q=>∃ x n,xs=[x]∧Gg K x H n∧Q (.int n) H
theorem AM {X:Cx}:cR X (.builtin "len") (mB X.K):=BB
theorem fJ {K:W.Frag} {p:Addr} {xs:List V} {H:Hp} {Q:VK} (h:aA K H p xs) (q:Q (.int xs.length) H):mB K [.ref p] H Q:=⟨.ref p,xs.length,rfl,.inl ⟨xs,h,rfl⟩,q⟩
def vX (K:W.Frag):List V→Hp→VK→Prop:=fun xs H Q=>∃ p ys,xs=[.ref p]∧(aA K H p ys∨aZ K H p ys)∧∀ l,H l=none→Q (.ref l) (upd H l (.lst ys))
theorem zm {X:Cx}:cR X (.type "list") (vX X.K):=wc
theorem DN {K:W.Frag} {p:Addr} {xs:List V} {H:Hp} {Q:VK} (h:aA K H p xs) (q:∀ l,H l=none→Q (.ref l) (upd H l (.lst xs))):vX K [.ref p] H Q:=⟨p,xs,rfl,.inl h,q⟩
def FA (g:Int→Int→Int):List V→Hp→VK→Prop:=fun xs H Q=>∃ i j,xs=[.int i,.int j]∧Q (.int (g i j)) H
theorem Ak {X:Cx} (hc:X.calm=true):cR X (.builtin "max") (FA fun i j=>if j > i then j else i):=Ap hc
theorem Nc {g:Int→Int→Int} {i j:Int} {H:Hp} {Q:VK} (q:Q (.int (g i j)) H):FA g [.int i,.int j] H Q:=⟨i,j,rfl,q⟩
theorem Le {K:W.Frag} {p:Addr} {bs:List Bool} {H:Hp} {Q:VK} (h:aA K H p (bs.map V.bl)) (q:Q (.bl (bs.all id)) H):Cp K [.ref p] H Q:=⟨p,bs,rfl,h,q⟩
theorem C4 {K:W.Frag} {p:Addr} {xs:List V} {lo hi:Option Int} {H:Hp} {Q:VK} (h:aA K H p xs) (q:∀ l,H l=none→Q (.ref l) (upd H l (.lst (ip xs lo hi)))):oR K (.ref p) lo hi H Q:=.inl ⟨p,xs,rfl,h,q⟩
theorem tK {K : W.Frag} {p : Addr} {xs : List V} {lo hi : Option Int} {H : Hp} {Q : VK} (h : aZ K H p xs) (hn : ¬ (HT.bD xs.length 0 lo = 0 ∧ HT.bD xs.length xs.length hi = xs.length)) (q : ∀ l, H l = none → Q (.ref l) (upd H l (.tup (ip xs lo hi)))) :
   oR K (.ref p) lo hi H Q:=.inr ⟨p,xs,rfl,h,hn,q⟩
def yO (K:W.Frag) (x:V) (H:Hp) (Q:Bool→Hp→Prop):Prop:=∃ k,B9 K x H k∧Q k H
theorem Ft {K:W.Frag} {b:Bool} {H:Hp} {Q:Bool→Hp→Prop} (q:Q b H):yO K (.bl b) H Q:=⟨b,rfl,q⟩
theorem GZ {K:W.Frag} {i:Int} {H:Hp} {Q:Bool→Hp→Prop} (q:Q (i != 0) H):yO K (.int i) H Q:=⟨_,rfl,q⟩
theorem SO {A B:Prop} (h:B):if (!true)=true then A else B:=h
theorem Rq {A B:Prop} (h:A):if (!false)=true then A else B:=h
theorem xo {K:W.Frag} {H:Hp} {a p:Addr} {xs:List V} {o:HO} (h:aA K H a xs) (hp:H p=none):aA K (upd H p o) a xs:=au.seq (ah hp) h
theorem xK {K:W.Frag} {H:Hp} {a p:Addr} {xs:List V} {o:HO} (h:aZ K H a xs) (hp:H p=none):aZ K (upd H p o) a xs:=cI (ah hp) h
theorem Fw {to ti:TE} {t:yS} {v:V} {σ : St} {H:Hp} {Q:St→Hp→Prop} (q:to σ H fun o H1=>ti σ H1 fun i H2=>t o i v H2 fun H3=>Q σ H3):yj to ti t v σ H Q:=q
theorem iS {p:Addr} {xs:List V} {k:Int} {j:Nat} {v:V} {H:Hp} {Q:Hp→Prop} (h:H p=some (.lst xs)) (e:j_ xs.length k=some j) (q:Q (upd H p (.lst (xs.set j v)))):ql (.ref p) (.int k) v H Q:=⟨p,xs,k,j,rfl,rfl,h,e,q⟩
theorem oK {l:Addr} {xs:List V} {y:V} {H:Hp} {Q:VK} (h:H l=some (.lst xs)) (z:xs.length<sizeLine) (q:Q .aR (upd H l (.lst (xs++[y])))):xb (.ref l) [y] H Q:=⟨l,xs,y,rfl,rfl,h,z,q⟩
theorem ty_list {K:W.Frag} {H:Hp} {p:Addr} {xs:List V} (h:H p=some (.lst xs)):vy K "list" (.ref p) H:=.inl ⟨rfl,xs,aA.of h⟩
def BJ (J : It) (g : TG) (tb : TS) (D : Ends) (σ : St) (H1 : Hp) : Prop := ∃ W : Nat → Nat → St → Hp → Prop, (∃ m, W 0 m σ H1) ∧ ∀ i m σ H, W i m σ H →
 (J.stop i H∧D.nx σ H)∨(J.go i H∧∃ N:St→Hp→Prop,(∀ σ' H',N σ' H'→∃ m',m'<m∧W (i+1) m' σ' H')∧∀ x H',J.uB i H x H'→g x σ H' fun σ2 H2=>tb { D with nx:=N,ct:=N,bk:=D.nx } σ2 H2)
theorem IE {wi:TI} {g:TG} {tb:TS} {D:Ends} {σ : St} {H:Hp} (q:wi σ H fun J H1=>BJ J g tb D σ H1):qL wi g tb D σ H:=q
def vg (K:W.Frag) (tl:TE):TI:=fun σ H R=>tl σ H fun x H1=>∃ a,x=.ref a∧(((∃ xs,aA K H1 a xs)∧R (pV K a) H1)∨((∃ xs,aZ K H1 a xs)∧R (zB K a) H1))
theorem G5 {K:W.Frag} {tl:TE} {σ : St} {H:Hp} {R:It→Hp→Prop} (q:tl σ H fun x H1=>∃ a,x=.ref a∧(((∃ xs,aA K H1 a xs)∧R (pV K a) H1)∨((∃ xs,aZ K H1 a xs)∧R (zB K a) H1))):vg K tl σ H R:=q
theorem FC {ta:TA} {σ : St} {H:Hp} {R:It→Hp→Prop} (q:ta σ H fun vs H1=>∃ j:Int,vs=[.int j]∧-(2 ^ 62)≤j∧j<2 ^ 62∧R (nG 0 j.toNat) H1):tJ ta σ H R:=q
theorem GF {ta:TA} {σ : St} {H:Hp} {R:It→Hp→Prop} (q:ta σ H fun vs H1=>∃ i j:Int,vs=[.int i,.int j]∧(-(2 ^ 62)≤i∧i<2 ^ 62∧-(2 ^ 62)≤j∧j<2 ^ 62)∧R (nG i (j - i).toNat) H1):Dy ta σ H R:=q
theorem FI {X:Cx} {tg l:Expr} {tl:TE} (hl:PE X l tl):PI X tg l (vg X.K tl):=by
 intro pins s σ H R I h;refine br (hl pins s σ H _ I h) fun v s1 ⟨x,H1,I1,r1,q1⟩=>?_;obtain ⟨a,e,hq⟩:=q1;subst e;cases r1
 rcases hq with ⟨⟨xs,hq⟩,q⟩ | ⟨⟨xs,hq⟩,q⟩
 · obtain ⟨its, rv, p, hz⟩ := I1.list hq;refine wpAny_pyIter_list p.isList ?_;refine ⟨s1.heap.objs.size,[s1.heap.objs.size],_,_,H1,rfl,I1.kept (t':=s1.toks) fun b o e=>Heap.get?_push_of_some _ e,zU a _,⟨_,Heap.get?_push_size _ rfl,rfl,rfl⟩,fun b hb=>?_,q⟩;have e:b=s1.heap.objs.size:=by simpa using hb
   subst e;exact I1.jC (Nat.le_refl _) (I1.aG.fresh (Nat.le_refl _))
 · obtain ⟨its, rv, p, hz⟩ := I1.tuple hq;refine wpAny_pyIter_tuple (show s1.heap.IsTuple a its.toArray from p) ?_;refine ⟨s1.heap.objs.size,[s1.heap.objs.size],_,_,H1,rfl,I1.kept (t':=s1.toks) fun b o e=>Heap.get?_push_of_some _ e,yE a _,⟨_,Heap.get?_push_size _ rfl,rfl,rfl⟩,fun b hb=>?_,q⟩;have e:b=s1.heap.objs.size:=by simpa using hb
   subst e;exact I1.jC (Nat.le_refl _) (I1.aG.fresh (Nat.le_refl _))
section
variable {σ : St} {H:Hp} {Q:VK}
theorem ON {i:Nat} {v:V} (h : σ[i]? = some (some v)) (q:Q v H):bF i σ H Q:=⟨v,h,q⟩
theorem VY {v:V} (q:Q v H):tC v σ H Q:=q
theorem U8 {r:R2} {ta tb:TE} (q:ta σ H fun x H1=>tb σ H1 fun y H2=>r x y H2 Q):d7 r ta tb σ H Q:=q
theorem Uz {r:V→Hp→VK→Prop} {ta:TE} (q:ta σ H fun x H1=>r x H1 Q):Tx r ta σ H Q:=q
theorem V_ {g:Int→V} {i:Int} (q:Q (g i) H):rU g (.int i) H Q:=⟨i,rfl,q⟩
theorem Vx {g:Int→Int→V} {i j:Int} (q:Q (g i j) H):jo g (.int i) (.int j) H Q:=⟨i,j,rfl,rfl,q⟩
theorem A8 {C:Int→Int→Prop} {g:Int→Int→V} {i j:Int} (h:C i j) (q:Q (g i j) H):rI C g (.int i) (.int j) H Q:=⟨i,j,rfl,rfl,h,q⟩
theorem Uw {r:List V→Hp→VK→Prop} {t:TA} (q:t σ H fun vs H1=>r vs H1 Q):qr r t σ H Q:=q
theorem EF {sp:Sp} {E:XK} {t:TA} (q:t σ H fun vs H1=>sp vs H1 Q E):dP sp E t σ H Q:=q
theorem Ei {C:Addr} {sp:Sp} {E:XK} {t:TA} (q:t σ H fun vs H1=>∀ x dx,H1 x=none→H1 dx=none→dx≠x→sp (.ref x::vs) (upd (upd H1 dx (.own x)) x (.ins C dx [])) (fun v H2=>v=.aR∧Q (.ref x) H2) E):mj C sp E t σ H Q:=q
theorem D_ {P:Program} {w:World} {K:W.Frag} {mg:Str→Option Value} {base:Heap} {CX:eh} {k:Nat} {m:Str} {E:XK} {ta:TE} {t:TA} (q:ta σ H fun x H1=>Dl P w K mg base CX k m E σ t x H1 Q):vM P w K mg base CX k m E ta t σ H Q:=q
theorem eS {P : Program} {w : World} {K : W.Frag} {mg : Str → Option Value} {base : Heap} {CX : eh} {k : Nat} {m : Str} {E : XK} {t : TA} {p C dx : Addr} {fs : List (Str × V)} {sp : Sp} (h : H p = some (.ins C dx fs)) (l : fs.lookup m = none) (M : bw P w K mg base CX k C m sp)
   (q:t σ H fun vs H2=>sp (.ref p::vs) H2 Q E):Dl P w K mg base CX k m E σ t (.ref p) H Q:=⟨p,C,dx,fs,sp,rfl,h,l,M,q⟩
theorem MD {K:W.Frag} {ta:TE} {f:Str} (q:ta σ H fun x H1=>Ct K f x H1 Q):l6 K ta f σ H Q:=q
theorem zQ {K:W.Frag} {f:Str} {p C dx:Addr} {fs:List (Str×V)} {v:V} (h:H p=some (.ins C dx fs)) (c:eo K C) (n:bL K C f) (l:fs.lookup f=some v) (q:Q v H):Ct K f (.ref p) H Q:=⟨p,C,dx,fs,v,rfl,h,c,n,l,q⟩
theorem J6 {t:TA} (q:t σ H fun xs H1=>xs.length≤sizeLine∧∀ p,H1 p=none→Q (.ref p) (upd H1 p (.tup xs))):Gs t σ H Q:=q
theorem KP {t:TA} (q:t σ H fun xs H1=>xs.length≤sizeLine∧∀ p,H1 p=none→Q (.ref p) (upd H1 p (.lst xs))):uv t σ H Q:=q
theorem Iy {ta tb:TE} (q:ta σ H fun x H1=>∃ c,x=.bl c∧if c=true then Q (.bl true) H1 else tb σ H1 Q):FR ta tb σ H Q:=q
theorem VI {t:TT} {ta tb:TE} (q:t σ H fun c H1=>if c=true then ta σ H1 Q else tb σ H1 Q):Ti t ta tb σ H Q:=q
theorem Ur {r:V→Option Int→Option Int→Hp→VK→Prop} {te:TE} {tl th:TO} (q:te σ H fun x H1=>tl σ H1 fun l H2=>th σ H2 fun u H3=>r x l u H3 Q):DD r te tl th σ H Q:=q
theorem Vq {K:W.Frag} {T:String} {r:V→List V→Hp→VK→Prop} {to:TE} {t:TA} (q:to σ H fun x H1=>vy K T x H1∧t σ H1 fun xs H2=>r x xs H2 Q):FE K T r to t σ H Q:=q
theorem Q_ {K:W.Frag} {T:String} {r:V→List V→Hp→VK→Prop} {to:TE} (q:to σ H fun x H1=>vy K T x H1∧r x [] H1 Q):By K T r to σ H Q:=q
end
section
variable {σ : St} {H:Hp} {Q:List V→Hp→Prop}
theorem Ij (q:Q [] H):cZ σ H Q:=q
theorem FG {ta:TE} {tr:TA} (q:ta σ H fun x H1=>tr σ H1 fun xs H2=>Q (x::xs) H2):bO ta tr σ H Q:=q
end
section
variable {σ : St} {H:Hp} {Q:Option Int→Hp→Prop}
theorem B5 (q:Q none H):xm σ H Q:=q
theorem FU {t:TE} (q:t σ H fun x H1=>∃ i,x=.int i∧Q (some i) H1):mG t σ H Q:=q
end
section
variable {σ : St} {H:Hp} {Q:Bool→Hp→Prop}
theorem EV {t:TE} (q:t σ H fun x H'=>∃ k,x=.bl k∧Q k H'):fT t σ H Q:=q
theorem Mg {t u:TT} (q:t σ H fun c H1=>if c=true then u σ H1 Q else Q false H1):Hb t u σ H Q:=q
theorem UQ {t u:TT} (q:t σ H fun c H1=>if c=true then Q true H1 else u σ H1 Q):DA t u σ H Q:=q
theorem K0 {t:TT} (q:t σ H fun c H1=>Q (!c) H1):uN t σ H Q:=q
theorem G2 (q:Q true H):yg σ H Q:=q
def qR (K:W.Frag) (ta:TE):TT:=fun σ H Q=>ta σ H fun x H'=>yO K x H' Q
theorem GI {X:Cx} {a:Expr} {ta:TE} (ha:PE X a ta) (he:∀ whole,isTrue a X.env whole=(do let v ← whole;standAt a.pos;holding [v] (truthy v)):=by intro _;rfl):PT X a (qR X.K ta):=BN ha he
theorem LQ {K:W.Frag} {ta:TE} (q:ta σ H fun x H'=>yO K x H' Q):qR K ta σ H Q:=q
end
section
variable {D:Ends} {σ : St} {H:Hp}
theorem G6 (q:D.nx σ H):fU D σ H:=q
theorem RU {t u:TS} (q:t { D with nx:=u D } σ H):fX t u D σ H:=q
theorem IQ {te:TE} (q:te σ H D.rt):ik te D σ H:=q
theorem ND {c:TT} {t u:TS} (q:c σ H fun b H1=>if b=true then t D σ H1 else u D σ H1):ij c t u D σ H:=q
theorem Mf {te:TE} {g:TG} (q:te σ H fun x H1=>g x σ H1 D.nx):lF te g D σ H:=q
theorem Fx {te:TE} (q:te σ H fun _ H1=>D.nx σ H1):Dz te D σ H:=q
theorem F4 {K:W.Frag} {ta tv:TE} {f:Str} (q:tv σ H fun y H1=>ta σ H1 fun x H2=>Ds K f y D σ x H2):BS K ta tv f D σ H:=q
theorem En {K:W.Frag} {f:Str} {y:V} {p C dx:Addr} {fs:List (Str×V)} (h:H p=some (.ins C dx fs)) (c:eo K C) (n:bL K C f) (l:fs.length<1000) (q:D.nx σ (upd H p (.ins C dx (aL f y fs)))):Ds K f y D σ (.ref p) H:=⟨p,C,dx,fs,rfl,h,c,n,l,q⟩
end
theorem cS {c A B:Prop} [Decidable c] (h1:c→A) (h2 : ¬ c→B):if decide c=true then A else B:=by
 by_cases h:c
 · rw [if_pos (decide_eq_true h)];exact h1 h
 · rw [if_neg (by rw [decide_eq_false h];exact Bool.false_ne_true)];exact h2 h
theorem pS {c A B:Prop} [Decidable c] (h1 : ¬ c→A) (h2:c→B):if (!decide c)=true then A else B:=by
 by_cases h:c
 · rw [if_neg (by rw [decide_eq_true h];decide)];exact h2 h
 · rw [if_pos (by rw [decide_eq_false h];rfl)];exact h1 h
theorem fA {a b:Int} {A B:Prop} (h1:a=b→A) (h2:a≠b→B):if decide (V.int a=V.int b)=true then A else B :=
 cS (fun e=>h1 (by cases e;rfl)) fun e=>h2 fun z=>e (by rw [z])
theorem er {a b:Int} {A B:Prop} (h1:a≠b→A) (h2:a=b→B):if (!decide (V.int a=V.int b))=true then A else B :=
 pS (fun e=>h1 fun z=>e (by rw [z])) fun e=>h2 (by cases e;rfl)
end L3
namespace L3
open PySem PySem.Spec PyProof.Rows L2
section
variable {P:Program} {w:World} {K:W.Frag} {mg:Str→Option Value} {base:Heap} {x qual:Str} {st:Stmt} {N ps:List Str} {sp:Sp} {C:Addr}
def BodyOk (P:Program) (w:World) (K:W.Frag) (mg:Str→Option Value) (base:Heap) (k:Nat) (qual:Str) (st:Stmt) (N:List Str) (sp:Sp):Prop :=
 ∀ (f : Addr) (cdv : Value) (A : Around) (outer : List Env) (s : Shared) (H : Hp) (vs : List V) (Q : VK) (E : XK), cF k (A.deeper (envOfC qual (av st) s.heap.objs.size f cdv)) → sp vs H Q E →
   ∃ t,hU (eX be P w K mg base N qual (av st) f cdv A outer s H E).cO (bH st) t∧t { nx:=fun _ H'=>Q .aR H',rt:=Q } (start N vs) H
theorem bJ (k : Nat) (h : ∃ f fd, fL K x qual st f fd ∧ mg x = some (.ref f) ∧ Binds K fd ps []) (S : aE N ps (av st)) (len : ∀ vs H Q E, sp vs H Q E → vs.length = ps.length)
   (hbody:BodyOk P w K mg base k qual st N sp):cG P w K mg base be (k+1) x sp:=by
 obtain ⟨f,fd,F,hm,hb⟩:=h;exact ⟨f,fd,ps,F.ok S len (hbody f),hm,F.kp,hb⟩
theorem bh (k : Nat) (c : eo K C) (h : ∃ f fd, fL K x qual st f fd ∧ vH K C x f ∧ Binds K fd ps []) (S : aE N ps (av st)) (len : ∀ vs H Q E, sp vs H Q E → vs.length = ps.length)
   (hbody:BodyOk P w K mg base k qual st N sp):bw P w K mg base be (k+1) C x sp:=by
 obtain ⟨f,fd,F,hm,hb⟩:=h;exact ⟨c,f,fd,ps,hm,F.ok S len (hbody f),hb⟩
theorem eO {y : Str} (k : Nat) (hy : mg y = some (.ref C)) (h : ∃ f fd, fL K "__init__" qual st f fd ∧ Mk K C f ∧ Binds K fd ps []) (S : aE N ps (av st)) (len : ∀ vs H Q E, sp vs H Q E → vs.length = ps.length)
   (hbody:BodyOk P w K mg base k qual st N sp):ia P w K mg base be (k+1) y C sp:=by
 obtain ⟨f,fd,F,hm,hb⟩:=h;exact ⟨f,fd,ps,hm,F.ok S len (hbody f),hy,hb⟩
end
end L3
namespace L3
open PySem PySem.Spec PyProof.Rows L2 PySem.SeqAt
section
variable {X:Cx} {K:W.Frag}
theorem aT (h:X.K=K):cb X (binaryOp .Add) (mE K):=by subst h;exact EJ
theorem cp (h:X.K=K) (hu:X.A.units+64<cLine):cb X (compareOp .Eq) (uw K):=by subst h;exact GL hu
theorem eN (h:X.K=K) (hu:X.A.units+64<cLine):cb X (compareOp .NotEq) (il K):=by subst h;exact Ai hu
theorem jQ (h:X.K=K):cb X (compareOp .In) (vW K false):=by subst h;exact AS
theorem zy (h:X.K=K):cb X (compareOp .NotIn) (vW K true):=by subst h;exact vt
theorem aJ (h:X.K=K):kP X (jF K):=by subst h;exact E2
theorem oU (h:X.K=K):pD X (oR K):=by subst h;exact Gw
theorem cw {tg l:Expr} {tl:TE} (h:X.K=K) (hl:PE X l tl):PI X tg l (vg K tl):=by subst h;exact FI hl
theorem a8 (h:X.K=K):cR X (.builtin "len") (mB K):=by subst h;exact AM
theorem pN (h:X.K=K):cR X (.type "list") (vX K):=by subst h;exact zm
theorem e_ (h:X.K=K):cR X (.builtin "isinstance") (zq K):=by subst h;exact BX
theorem Av (h:X.K=K) (hc:X.calm=true):cR X (.builtin "all") (Cp K):=by subst h;exact CG hc
theorem bA {e:Expr} {f:Str} {pos:Pos} {ta:TE} (h:X.K=K) (he:PE X e ta) (hb:attributeBase e f X.env (eval e X.env)=eval e X.env:=by rfl):PE X (.Attribute e f pos) (l6 K ta f):=by subst h;exact Gh he hb
theorem ck {o value : Expr} {f : Str} {pos pos' : Pos} {ta tv : TE} (h : X.K = K) (ha : PE X o ta) (hv : PE X value tv) (hs : swapsWith value (some (.Attribute o f pos')) pos.line X.env = pure false := by rfl) :
   PS X (.Assign [.Attribute o f pos'] value pos) (BS K ta tv f):=by subst h;exact Gm ha hv hs
theorem cV {a:Expr} {ta:TE} (h:X.K=K) (ha:PE X a ta) (he:∀ whole,isTrue a X.env whole=(do let v ← whole;standAt a.pos;holding [v] (truthy v)):=by intro _;rfl):PT X a (qR K ta):=by subst h;exact GI ha he
theorem fD {es : List Expr} {k : Nat} {t : om} {n : Nat} {pos : Pos} (hK : X.K = K) (hc : X.calm = true) (h : AJ X es t)
   (hn:(assignEach es X.env).length=n:=by rfl) (hst:(assignEach es X.env).findIdx? (·.1)=none:=by rfl):PG X (.Tuple es k pos) (Cj K n t):=by subst hK;exact GX hc h hn hst
theorem Eu {o : Expr} {to : TE} {name : Str} {apos cpos : Pos} {T id : String} {r : V → List V → Hp → VK → Prop} (h : X.K = K) (pa : PlainAttrs T) (slot : Slot T name id) (hty : typeOf (.builtin id) = pure (.type "method_descriptor")) (hm : Du X id r) (ho : PE X o to)
   (hbase:attributeBase o name X.env (eval o X.env)=eval o X.env:=by rfl) (hline:(apos.endLine == cpos.line)=true:=by rfl):PE X (.Call (.Attribute o name apos) [] [] cpos) (By K T r to):=by subst h;exact G9 pa slot hty hm ho hbase hline
theorem cA {o e : Expr} {es : List Expr} {to : TE} {t : TA} {name : Str} {apos cpos : Pos} {T id : String} {r : V → List V → Hp → VK → Prop} (h : X.K = K) (pa : PlainAttrs T) (slot : Slot T name id) (hty : typeOf (.builtin id) = pure (.type "method_descriptor")) (hm : Du X id r) (ho : PE X o to) (ha : PA X (e :: es) t)
   (hbase:attributeBase o name X.env (eval o X.env)=eval o X.env:=by rfl)
   (hfew : ((backTo cpos (starEach (e :: es) X.env)).all (fun x => !x.1) && (backToKw cpos (keywordEach [] X.env)).all (fun x => x.1.isSome)
     && decide ((e::es).length+([]:List Keyword).length+(if ([]:List Keyword).isEmpty then 0 else 1)<30))=true:=by rfl)
   (hline:(apos.endLine == cpos.line)=true:=by rfl) (hs:starEach (e::es) X.env=(false,eval e X.env)::starEach es X.env:=by rfl) (hplain:(backTo cpos (starEach es X.env)).any (·.1)=false:=by rfl) :
   PE X (.Call (.Attribute o name apos) (e::es) [] cpos) (FE K T r to t):=by subst h;exact L8 pa slot hty hm ho ha hbase hfew hline hs hplain
end
section
variable {X:Cx} {P:Program} {w:World} {K:W.Frag} {mg:Str→Option Value} {base:Heap} {CX:eh} {k:Nat} {E:XK} {m:Str} {pos apos:Pos} {e o:Expr} {es:List Expr} {ta:TE} {t:TA}
theorem fW {pl : Sem Bool} (hP : X.prog = P ∧ X.w = w ∧ X.K = K ∧ X.mg = mg ∧ X.base = base) (he : PE X o ta) (hr : cF k X.A) (hx : fM CX X E) (ha : PA X (e :: es) t)
   (hst:starEach (e::es) X.env=(false,eval e X.env)::starEach es X.env:=by rfl) (hpl:(backTo pos (starEach es X.env)).any (·.1)=false:=by rfl)
   (ht : eval (.Call (.Attribute o m apos) (e :: es) [] pos) X.env = (do
     let ov ← eval o X.env
     standAt apos.atName
     let (f,first) ← holding [ov] (getMethod ov m pl)
     callWith pos f first (backTo pos (starEach (e::es) X.env)) (backToKw pos (keywordEach [] X.env))):=by rfl) :
   PE X (.Call (.Attribute o m apos) (e::es) [] pos) (vM P w K mg base CX k m E ta t):=by
 obtain ⟨rfl,rfl,rfl,rfl,rfl⟩:=hP;exact BM (pl:=pl) he hr hx ha hst hpl ht
end
end L3
namespace L3
open PySem PySem.Spec PyProof.Rows L2 PySem.SeqAt
theorem DS {H:Hp} {R:Addr→Prop} (q:∀ p,H p=none→R p):∀ p,H p=none→R p:=q
theorem D1 {n:Nat} {R:Prop} (h:n≤sizeLine) (q:R):n≤sizeLine∧R:=⟨h,q⟩
theorem aQ {H H':Hp} {q:Addr} (s:au H H') (h:H' q=none):H q=none:=by
 cases e:H q with
 | none=>rfl
 | some u=>rw [s _ _ e] at h;cases h
theorem same_none {H H1:Hp} {p:Addr} {o:HO} (s:au H H1) (h:H1 p=none):au H (upd H1 p o):=s.trans (ah h)
def ig {α : Type} (xs:List α) (f : α→V) (Sg:St→Prop) (H:Hp) (i:Nat) (ys:List V) (σ : St) (H1:Hp):Prop:=au H H1∧Sg σ∧ys=(xs.take i).map f
theorem ig.next {α : Type} {xs:List α} {f : α→V} {Sg:St→Prop} {H H1 H5:Hp} {i:Nat} {ys:List V} {σ σ3:St} {x : α} {y:V} (c:ig xs f Sg H i ys σ H1) (hx:xs[i]? = some x) (e:y=f x) (s:au H H5) (sg:Sg σ3):ig xs f Sg H (i+1) (ys++[y]) σ3 H5:=by
 obtain ⟨_,_,rfl⟩:=c;refine ⟨s,sg,?_⟩;subst e;rw [List.take_add_one,hx,Option.toList_some,List.map_append];rfl
theorem C9 {b:Bool} {A B:Prop} (h1:b=true→A) (h2:b=false→B):if b=true then A else B:=by
 cases b with
 | true=>exact h1 rfl
 | false=>exact h2 rfl
theorem Vv {j:Int} {R:Prop} (h1 : -(2 ^ 62)≤j) (h2:j<2 ^ 62) (q:R) : -(2 ^ 62)≤j∧j<2 ^ 62∧R:=⟨h1,h2,q⟩
theorem SJ {K:W.Frag} {H:Hp} {a:Addr} {xs:List V} {A B:Prop} (h:aA K H a xs) (q:A):((∃ xs,aA K H a xs)∧A)∨((∃ xs,aZ K H a xs)∧B):=.inl ⟨⟨xs,h⟩,q⟩
theorem R3 {K:W.Frag} {H:Hp} {a:Addr} {xs:List V} {A B:Prop} (h:aZ K H a xs) (q:B):((∃ xs,aA K H a xs)∧A)∨((∃ xs,aZ K H a xs)∧B):=.inr ⟨⟨xs,h⟩,q⟩
theorem O_ {K:W.Frag} {H:Hp} {p:Addr} {xs:List V} {R:Prop} (h:H p=some (.lst xs)) (q:R):vy K "list" (.ref p) H∧R:=⟨ty_list h,q⟩
theorem xS {K:W.Frag} {H:Hp}:Dp K H .none .aR:=by rw [Dp]
theorem Fy {i:Nat} {v:V} {σ σ':St} {H:Hp} {Q:St→Hp→Prop} (h : σ.set i (some v) = σ') (q:Q σ' H):c8 i v σ H Q:=by subst h;exact q
theorem aX {N:List Str} {vs:List V} {σ':St} {t:TS} {D:Ends} {H:Hp} (h:start N vs = σ') (q:t D σ' H):t D (start N vs) H:=by subst h;exact q
theorem Ce {i:Nat} {own:List Str} {fr:List (Str×Nat)} {wi:TI} {g:TG} {tc:TT} {te:TE} {D:Ends} {σ σi:St} {H:Hp} (h:j0 own fr σ = σi) (q:wi σ H fun J H1=>gT J g tc te (fun ys H3=>∀ p,H3 p=none→c8 i (.ref p) σ (upd H3 p (.lst ys)) D.nx) σi H1):Aa i own fr wi g tc te D σ H:=by subst h;exact q
theorem Cs {own:List Str} {fr:List (Str×Nat)} {wi:TI} {g:TG} {tc:TT} {te:TE} {σ σi:St} {H:Hp} {Q:VK} (h:j0 own fr σ = σi) (q:wi σ H fun J H1=>gT J g tc te (fun ys H3=>∀ p,H3 p=none→Q (.ref p) (upd H3 p (.lst ys))) σi H1):zv own fr wi g tc te σ H Q:=by subst h;exact q
def kr:R2:=fun x y H Q=>y=.aR∧Q (.bl (decide (x=.aR))) H
def gW:R2:=fun x y H Q=>y=.aR∧Q (.bl (!decide (x=.aR))) H
theorem cU {X:Cx}:cb X (compareOp .Is) kr:=Fs
theorem i7 {X:Cx}:cb X (compareOp .IsNot) gW:=EG
theorem GG {p:Addr} {H:Hp} {Q:VK} (q:Q (.bl false) H):kr (.ref p) .aR H Q:=⟨rfl,q⟩
theorem EW {H:Hp} {Q:VK} (q:Q (.bl true) H):kr .aR .aR H Q:=⟨rfl,q⟩
theorem Fi {i:Int} {H:Hp} {Q:VK} (q:Q (.bl false) H):kr (.int i) .aR H Q:=⟨rfl,q⟩
theorem DQ {p:Addr} {H:Hp} {Q:VK} (q:Q (.bl true) H):gW (.ref p) .aR H Q:=⟨rfl,q⟩
theorem DT {H:Hp} {Q:VK} (q:Q (.bl false) H):gW .aR .aR H Q:=⟨rfl,q⟩
theorem DV {K:W.Frag} {H H1:Hp} {a p:Addr} {xs:List V} {o:HO} (s:au H H1) (h:H p=none) (q:aA K H a xs):aA K (upd H1 p o) a xs:=au.seq (bz s h) q
def uA (i j:Int):Prop:=0≤j∧j≤1000000∧∃ k:Nat,k≤1000000∧i.natAbs<2 ^ k
theorem iG {X:Cx}:cb X (binaryOp .LShift) (rI uA fun i j=>.int (i*2 ^ j.toNat)):=A6 fun i j _ _ _ _ _ hc q=>by
 obtain ⟨h0,h1,k,hk,hb⟩:=hc
 have:=PySem.intBits_le_iff.mpr hb
 exact lshift_int h0 (by have e:(2:Int) ^ 27=134217728:=rfl;rw [e];omega) q
theorem mX {j:Int} (h0 : 0≤j) (h1:j≤1000000):uA 1 j:=⟨h0,h1,1,by decide,by decide⟩
theorem mP (j:Nat):(1:Int)*2 ^ j=((2 ^ j:Nat):Int):=by rw [Int.one_mul];exact (Int.natCast_pow 2 j).symm
theorem gw (s t:Nat):Builtin.bitAnd (s:Int) (t:Int)=((s &&& t:Nat):Int):=by
 unfold Builtin.bitAnd;rw [decide_eq_true (Int.natCast_nonneg s),decide_eq_true (Int.natCast_nonneg t)];show ((((s:Int).toNat &&& (t:Int).toNat:Nat)):Int)=_;rw [Int.toNat_natCast,Int.toNat_natCast]
theorem g_ (s t:Nat):Builtin.bitAnd (s:Int) (Builtin.bitNot (t:Int))=((Bt.wo s t:Nat):Int):=by
 have hn : ¬ (0:Int)≤Builtin.bitNot (t:Int):=by unfold Builtin.bitNot;omega
 have e:(Builtin.bitNot (Builtin.bitNot (t:Int))).toNat=t:=by unfold Builtin.bitNot;omega
 unfold Builtin.bitAnd;rw [decide_eq_true (Int.natCast_nonneg s),decide_eq_false hn];show (s:Int) - (((s:Int).toNat &&& (Builtin.bitNot (Builtin.bitNot (t:Int))).toNat:Nat):Int)=_;rw [Int.toNat_natCast,e]
 have:(s &&& t)≤s:=Nat.and_le_left
 unfold Bt.wo;omega
theorem lX (s t:Nat):Builtin.bitOr (s:Int) (t:Int)=((s ||| t:Nat):Int):=by
 have hs : ¬ (0:Int)≤Builtin.bitNot (s:Int):=by unfold Builtin.bitNot;omega
 have ht : ¬ (0:Int)≤Builtin.bitNot (t:Int):=by unfold Builtin.bitNot;omega
 have es:(Builtin.bitNot (Builtin.bitNot (s:Int))).toNat=s:=by unfold Builtin.bitNot;omega
 have et:(Builtin.bitNot (Builtin.bitNot (t:Int))).toNat=t:=by unfold Builtin.bitNot;omega
 unfold Builtin.bitOr Builtin.bitAnd;rw [decide_eq_false hs,decide_eq_false ht];show Builtin.bitNot (Builtin.bitNot (((Builtin.bitNot (Builtin.bitNot (s:Int))).toNat ||| (Builtin.bitNot (Builtin.bitNot (t:Int))).toNat:Nat):Int))=_;rw [es,et];unfold Builtin.bitNot;omega
theorem eB {K:W.Frag} {p:Addr} {xs:List V} {x:V} {H:Hp} {Q:VK} (h:aA K H p xs) (f1:eI x=true) (f2:xs.all eI=true) (q:Q (.bl (fE x xs)) H):vW K false x (.ref p) H Q:=⟨p,xs,rfl,.inl h,f1,f2,q⟩
end L3
namespace L3
open PySem PySem.Spec PyProof.Rows L2 PySem.SeqAt
def DH:List V→Hp→VK→Prop:=fun xs H Q=>∃ a kvs,xs=[.ref a]∧Rd H a (.dK kvs)∧∀ p,H p=none→Q (.ref p) (upd H p (.dK kvs))
theorem yq {X:Cx}:cR X (.type "dict") DH:=by
 intro pins s σ H xs us Q I r h;obtain ⟨a,kvs,rfl,e,q⟩:=h;obtain ⟨u,rfl,rx⟩:=vals1 r;cases rx
 exact CI I e fun p s' hp I'=>⟨.ref p,_,I',rfl,q p hp⟩
def yw (kvs:List (Key×V)):Prop:=∀ p∈kvs,∃ i:Int,p.2=.int i∧dU kvs p.1=some (.int i)
theorem EN {A:Around} {s:Shared} {kvs:List (Key×V)} {vs':List (Key×Value)} (r':KV kvs vs'):∀ {part:List (Key×V)} {us:List (Key×Value)},KV part us→(∀ p∈part,∃ i:Int,p.2=.int i∧dU kvs p.1=some (.int i))→W.KeqHits A s vs' us true:=by
 intro part us r;unfold KV at r
 induction r with
 | nil=>intro _;exact .nil
 | @cons p q part us r1 r2 ih =>
   intro h;obtain ⟨k,v⟩:=p;obtain ⟨k2,u⟩:=q;obtain ⟨e1,e2⟩:=r1;have e1:k=k2:=e1;subst e1;obtain ⟨i,e3,e4⟩:=h (k,v) List.mem_cons_self;have e3:v=.int i:=e3;subst e3;obtain ⟨t,e5⟩:=(show ∃ t,u=Value.int i t from e2)
   subst e5;have r3:=r'.val k;rw [e4] at r3;obtain ⟨u',e6,e7⟩:=fg.some_of r3;obtain ⟨t',e8⟩:=(show ∃ t,u'=Value.int i t from e7)
   subst e8;have z:EqAt A s (Value.int i t) (Value.int i t') true:=by
     have:=EqAt.int_int (A:=A) (s:=s) i t i t'
     rw [beq_self_eq_true] at this;exact this
   exact W.KeqHits.hit (e:=true) (b:=true) e6 z (ih fun p hp=>h p (List.mem_cons_of_mem _ hp))
def vS:R2:=fun x y H Q=>∃ a b kvs,x=.ref a∧y=.ref b∧Rd H a (.dK kvs)∧Rd H b (.dK kvs)∧yw kvs∧Q (.bl false) H
theorem CB {X:Cx} (hu:X.A.units+64<cLine):cb X (compareOp .NotEq) vS:=by
 intro pins s σ H x y v u Q I rx ry h;obtain ⟨a,b,kvs,rfl,rfl,ha,hb,hs,q⟩:=h;cases rx
 cases ry
 obtain ⟨z,hd,vs,rel,dd⟩:=gS I.aG ha;obtain ⟨z',hd',vs',rel',dd'⟩:=gS I.aG hb;refine W.keq_ne (r:=true) hd hd' dd dd' (by omega) (fun _=>EN rel' rel hs) ?_;rw [← rel.length,← rel'.length,beq_self_eq_true];exact ⟨.bl _,H,I,rfl,q⟩
theorem F8 {a:Addr} {kvs:List (Key×V)} {H:Hp} {Q:VK} (h:H a=some (.dK kvs)) (q:∀ p,H p=none→Q (.ref p) (upd H p (.dK kvs))):DH [.ref a] H Q:=⟨a,kvs,rfl,.inl h,q⟩
theorem Ep {a b:Addr} {kvs:List (Key×V)} {H:Hp} {Q:VK} (ha:H a=some (.dK kvs)) (hb:H b=some (.dK kvs)) (hs:yw kvs) (q:Q (.bl false) H):vS (.ref a) (.ref b) H Q:=⟨a,b,kvs,rfl,rfl,.inl ha,.inl hb,hs,q⟩
theorem Fd {σ : St} {H:Hp} {Q:VK} (q:∀ p,H p=none→Q (.ref p) (upd H p (.dK []))):AG σ H Q:=q
theorem FD {td ty tv:TE} {D:Ends} {σ : St} {H:Hp} (q:tv σ H fun v H1=>td σ H1 fun x H2=>ty σ H2 fun y H3=>∃ a H4,x=.ref a∧oB H3 a y v H4∧D.nx σ H4):De td ty tv D σ H:=q
theorem j4 {p:Addr} {kvs:List (Key×V)} {k:Int} {v:V} {H:Hp} {R:Hp→Prop} (h:H p=some (.dK kvs)) (hl:kvs.length<sizeLine) (q:R (upd H p (.dK (putK kvs (.inl k) v)))):∃ a H4,V.ref p=.ref a∧oB H a (.int k) v H4∧R H4 :=
 ⟨p,_,rfl,oB.k (k:=.inl k) h hl,q⟩
theorem Ae {td ty:TE} {σ : St} {H:Hp} {Q:VK} (q:td σ H fun x H1=>ty σ H1 fun y H2=>∃ a v,x=.ref a∧gh H2 a y (some v)∧Q v H2):C6 td ty σ H Q:=q
theorem Eb {p:Addr} {kvs:List (Key×V)} {k:Int} {v:V} {H:Hp} {Q:VK} (h:H p=some (.dK kvs)) (e:dU kvs (.inl k)=some v) (q:Q v H):∃ a v,V.ref p=.ref a∧gh H a (.int k) (some v)∧Q v H :=
 ⟨p,v,rfl,e ▸ gh.k (k:=.inl k) h,q⟩
theorem Rn {td ty:TE} {σ : St} {H:Hp} {Q:VK} (q:ty σ H fun y H1=>td σ H1 fun x H2=>∃ a o,x=.ref a∧gh H2 a y o∧Q (.bl o.isSome) H2):GR ty td σ H Q:=q
theorem Gy {p:Addr} {kvs:List (Key×V)} {k:Int} {H:Hp} {R:Option V→Prop} (h:H p=some (.dK kvs)) (q:R (dU kvs (.inl k))):∃ a o,V.ref p=.ref a∧gh H a (.int k) o∧R o:=⟨p,_,rfl,gh.k (k:=.inl k) h,q⟩
theorem TR {t:TE} {σ : St} {H:Hp} {Q:Bool→Hp→Prop} (q:t σ H fun x H'=>∃ b,x=.bl b∧Q b H'):tB t σ H Q:=q
structure fm (K:W.Frag) (x qual:Str) (st:Stmt) (f:Addr) (fd:FuncData):Prop where
 ex : ∃ (oc : Value) (od : Option Addr) (da : Addr) (kV doc pm : Value) (an : Option Addr) (cdv ct : Value) (osl : Array (Option Value)) (o : Obj) (n : Nat),
   fd=W.fnOf x qual (bW st) (bH st) (av st) (.ref da) kV doc pm an cdv ct∧K.lookup f=some ⟨oc,od,.func fd,osl⟩∧W.codeIn K cdv qual=true∧K.lookup da=some o∧o.data=.seq #[.none] n
 kp:W.keepIn K (.ref f)=true
theorem Ef {K : W.Frag} {x qual : Str} {st : Stmt} {f da : Addr} {o : Obj} {oc : Value} {od an : Option Addr} {osl : Array (Option Value)} {kV doc pm cdv ct : Value} (l : K.lookup f = some ⟨oc, od, .func (W.fnOf x qual (bW st) (bH st) (av st) (.ref da) kV doc pm an cdv ct), osl⟩)
   (d:K.lookup da=some o∧∃ n,o.data=.seq #[.none] n) (c:W.codeIn K cdv qual=true) (k:W.keepIn K (.ref f)=true):fm K x qual st f (W.fnOf x qual (bW st) (bH st) (av st) (.ref da) kV doc pm an cdv ct) :=
 let ⟨n,e⟩:=d.2;⟨⟨oc,od,da,kV,doc,pm,an,cdv,ct,osl,o,n,rfl,l,c,d.1,e⟩,k⟩
section
variable {P:Program} {w:World} {K:W.Frag} {mg:Str→Option Value} {base:Heap}
theorem fm.ok {x qual : Str} {st : Stmt} {f : Addr} {fd : FuncData} {N ps : List Str} {k : Nat} {sp : Sp} (F : fm K x qual st f fd) (S : aE N ps (av st)) (len : ∀ vs H Q E, sp vs H Q E → vs.length = ps.length)
   (hbody : ∀ (cdv : Value) (A : Around) (outer : List Env) (s : Shared) (H : Hp) (vs : List V) (Q : VK) (E : XK), cF k (A.deeper (envOfC qual (av st) s.heap.objs.size f cdv)) → sp vs H Q E →
     ∃ t,hU (eX be P w K mg base N qual (av st) f cdv A outer s H E).cO (bH st) t∧t { nx:=fun _ H'=>Q .aR H',rt:=Q } (start N vs) H):eg P w K mg base be (k+1) f fd ps sp:=by
 obtain ⟨oc,od,da,kV,doc,pm,an,cdv,ct,osl,o,n,rfl,lk,hcd,_,_⟩:=F.ex;refine tU lk hcd S len fun A outer s H vs Q E hr hsp=>?_;obtain ⟨t,h,q⟩:=hbody cdv A outer s H vs Q E hr hsp;exact ⟨t,h.cO,q⟩
theorem fm.AH {x qual : Str} {st : Stmt} {f : Addr} {fd : FuncData} {ps : List Str} (F : fm K x qual st f fd)
   (h:∀ (da:Addr) (kV doc pm:Value) (an:Option Addr) (cdv ct:Value) (us:List Value),us.length+1=ps.length→∃ k:Option (Array Value)→Sem (List (Str×Value)),bindArgs (W.fnOf x qual (bW st) (bH st) (av st) (.ref da) kV doc pm an cdv ct) ⟨us,[]⟩=seqItems? (.ref da) >>= k∧k (some #[.none])=pure (ps.zip (us++[.none]))):Binds K fd ps [.none]:=by
 obtain ⟨oc,od,da,kV,doc,pm,an,cdv,ct,osl,o,n,rfl,lk,hcd,ld,ed⟩:=F.ex;intro s us KX hl;obtain ⟨k,h1,h2⟩:=h da kV doc pm an cdv ct us (by rw [List.length_append] at hl;exact hl);exact .of_defaults rfl (KX _ _ ld) ed h1 h2
end
structure To (P:Program) (w:World) (K:W.Frag) (mg:Str→Option Value) (base:Heap) (CX:eh) (k:Nat) (x:Str) (C:Addr) (sp:Sp):Prop where
 ex:∃ (f:Addr) (fd:FuncData) (ps:List Str),Mk K C f∧eg P w K mg base CX k f fd ps sp∧mg x=some (.ref C)∧Binds K fd ps [.none]
section
variable {P:Program} {w:World} {K:W.Frag} {mg:Str→Option Value} {base:Heap} {x qual:Str} {st:Stmt} {N ps:List Str} {sp:Sp} {C:Addr}
theorem Ec {y : Str} (k : Nat) (hy : mg y = some (.ref C)) (h : ∃ f fd, fm K "__init__" qual st f fd ∧ Mk K C f ∧ Binds K fd ps [] ∧ Binds K fd ps [.none]) (S : aE N ps (av st)) (len : ∀ vs H Q E, sp vs H Q E → vs.length = ps.length)
   (hbody:BodyOk P w K mg base k qual st N sp):ia P w K mg base be (k+1) y C sp∧To P w K mg base be (k+1) y C sp:=by
 obtain ⟨f,fd,F,hm,hb,hb2⟩:=h;exact ⟨⟨f,fd,ps,hm,F.ok S len (hbody f),hy,hb⟩,⟨f,fd,ps,hm,F.ok S len (hbody f),hy,hb2⟩⟩
end
theorem JV {K:W.Frag} {neg:Bool} {x:V} {p:Addr} {xs:List V} {H:Hp} {Q:VK} (h:aA K H p xs) (hx:eI x=true) (hs:xs.all eI=true) (q:Q (.bl (if neg then !fE x xs else fE x xs)) H):vW K neg x (.ref p) H Q:=⟨p,xs,rfl,.inl h,hx,hs,q⟩
section
variable {K:W.Frag} {a:Addr} {xs:List V} {g:TG} {tc:TT} {te:TE} {fin:List V→Hp→Prop} {H:Hp}
theorem we {σ0 : St} (Pv : Nat → List V → St → Hp → Prop) (h0 : Pv 0 [] σ0 H) (hl : ∀ i ys σ H, i ≤ xs.length → Pv i ys σ H → aZ K H a xs ∧ ys.length ≤ sizeLine)
   (hs:∀ i x ys σ H,xs[i]? = some x→Pv i ys σ H→g x σ H fun σ3 H3=>tc σ3 H3 fun b H4=>if b=true then te σ3 H4 fun y H5=>Pv (i+1) (ys++[y]) σ3 H5 else Pv (i+1) ys σ3 H4)
   (hd:∀ ys σ H,Pv xs.length ys σ H→fin ys H):gT (zB K a) g tc te fin σ0 H:=by
 refine ⟨fun i m ys σ H=>m=xs.length - i∧i≤xs.length∧Pv i ys σ H,⟨xs.length,by simp,Nat.zero_le _,h0⟩,?_⟩;rintro i m ys σ H ⟨rfl,hi,p⟩;obtain ⟨q,hz⟩:=hl i ys σ H hi p;by_cases hlt:i<xs.length
 · refine .inr ⟨⟨xs, xs[i], q, by simp [hlt]⟩, Pv (i + 1), fun ys2 σ2 H2 p' => ⟨(hl (i + 1) ys2 σ2 H2 hlt p').2, xs.length - (i + 1), by omega, rfl, hlt, p'⟩, fun x H2 y => ?_⟩;obtain ⟨e,y⟩:=y;subst e;exact hs i x ys σ _ (y xs q) p
 · have e : i = xs.length := by omega
   subst e;exact .inl ⟨⟨xs,q,Nat.le_refl _⟩,hz,hd ys σ H p⟩
theorem zz {α : Type} {xs : List α} {emb : α → V} {σ0 : St} (f : α → V) (Sg : St → Prop) (hl : aZ K H a (xs.map emb)) (hz : xs.length ≤ sizeLine) (h0 : Sg σ0)
   (hs : ∀ (i : Nat) (x : α) (ys : List V) (σ : St) (H1 : Hp), xs[i]? = some x → ig xs f Sg H i ys σ H1 → au H H1 → Sg σ →
     g (emb x) σ H1 fun σ3 H3=>tc σ3 H3 fun b H4=>if b=true then te σ3 H4 fun y H5=>ig xs f Sg H (i+1) (ys++[y]) σ3 H5 else ig xs f Sg H (i+1) ys σ3 H4)
   (hd:∀ H1,au H H1→fin (xs.map f) H1):gT (zB K a) g tc te fin σ0 H:=by
 refine we (xs:=xs.map emb) (ig xs f Sg H) ⟨au.refl _,h0,rfl⟩ ?_ ?_ ?_
 · rintro i ys σ H1 hi ⟨s, _, rfl⟩;refine ⟨cI s hl,?_⟩;rw [List.length_map,List.length_take];omega
 · intro i x ys σ H1 hx c;rw [List.getElem?_map] at hx;obtain ⟨z,hz,rfl⟩:=Option.map_eq_some_iff.mp hx;exact hs i z ys σ H1 hz c c.1 c.2.1
 · rintro ys σ H1 ⟨s, _, rfl⟩;rw [List.length_map,List.take_length];exact hd H1 s
end
theorem D2 (xs:List Int):PyData.eqv (.list (xs.map PyData.int)) (.list [])=xs.isEmpty:=by
 cases xs <;> simp [PyData.eqv,PyData.eqvAll]
theorem y8:shaped (.list [])=true:=shaped_ints []
theorem DZ {K:W.Frag} {a b:Addr} {xs:List Int} {H:Hp} {Q:VK} (ha:aA K H a (xs.map V.int)) (hb:aA K H b []) (q:Q (.bl xs.isEmpty) H):uw K (.ref a) (.ref b) H Q :=
 .inr ⟨_,.list [],xc ha,qk hb eA,shaped_ints xs,y8,by rw [D2];exact q⟩
end L3
namespace L3
open PySem PySem.Spec PyProof.Rows
section
variable {prog:Program} {w:World} {A:Around} {E:Value→Shared→Prop} {s:Shared}
theorem lD {it t : Addr} {i : Nat} {its : Array Value} {Q : Value → Shared → Prop} (hi : s.heap.IsTupleIter it t i) (ht : s.heap.IsTuple t its)
   (q1:∀ x,its[i]? = some x→∀ h',h'.IsTupleIter it t (i+1)→Heap.SameBut it s.heap h'→Q x { s with heap:=h' })
   (q2:its[i]? = none→A.handled=none∧∀ h' e,Heap.ExtBut it s.heap h'→(∃ o,h'.get? e=some o∧o.cls=.type "StopIteration")→E (.ref e) { s with heap:=h' }) :
   wpAny (model prog w) A (Builtin.SmallTypes.nextOf (.ref it)) Q E s:=by
 obtain ⟨o,ho,hc,hd⟩:=id hi;obtain ⟨ot,hot,_,nt,hdt⟩:=ht;unfold Builtin.SmallTypes.nextOf;refine wpAny_bind (wpAny_callSpecial?_slot (name:=Str.ofString "__next__") hi.typeIs F.slot_tuple_iterator_next (wpAny_call_entry F.slot_tuple_iterator_next hi.typeIs F.entry_tuple_iterator_next ?_ (F.args_tuple_iterator_next_1 _)));show wpAny _ _ (field (.ref it) 0 >>= _) _ _ _;refine wpAny_bind (wpAny_field ho hd (x:=.ref t) rfl ?_);show wpAny _ _ (if (Value.ref t == Value.none)=true then _ else _) _ _ _;rw [if_neg (show ¬ (Value.ref t == Value.none)=true from fun z=>Bool.false_ne_true z)];show wpAny _ _ (field (.ref it) 1 >>= _) _ _ _;refine wpAny_bind (wpAny_field ho hd (x:=.int i 0) rfl ?_);show wpAny _ _ (seqItems? (.ref t) >>= _) _ _ _;refine wpAny_bind (wpAny_seqItems hot hdt ?_);cases hx:its[i]? with
 | some x =>
   simp only [Int.toNat_natCast,hx];refine wpAny_bind (wpAny_setField ho hd (by simp) (wpAny_pure ⟨x,rfl,wpAny_pure (q1 x hx _ ?_ (Heap.SameBut.update ..))⟩));refine ⟨_,Heap.get?_update_self _ ho (Obj.isFreed_of_fields (Obj.data_mapFields hd _)),(Obj.cls_mapFields ..).trans hc,?_⟩;rw [Obj.data_mapFields hd];simp [rawInt]
 | none =>
   obtain ⟨hh,q2⟩:=q2 hx;simp only [Int.toNat_natCast,hx];refine wpAny_bind (wpAny_rule (wpAny_bind (wpAny_setField ho hd (by simp) ?_)));show wpAny _ _ (newExc (.type "StopIteration") [] >>= _) _ _ _;refine wpAny_bind ?_;simp only [newExc,newTuple];refine wpAny_bind (wpAny_newObj_type ?_ (by size_fits));refine wpAny_bind (m:=firstArgMember _ _) (wpAny_of_eq (a:=Value.none) (by first | rfl | (simp only [firstArgMember];rfl)) (wpAny_newObj_type ?_ (by size_fits)));simp only [raiseNew];refine wpAny_bind (wpAny_handled ?_);rw [show A.in1.handled=none from hh];refine wpAny_bind (wpAny_pure (wpAny_throw ?_));exact q2 _ _ (((Heap.SameBut.update ..).extBut.push _).push _) ⟨_,Heap.get?_push_size _ rfl,rfl⟩
theorem TF {z TI TO i1 i2 t1 t2 : Addr} {k : Nat} {xs ys : Array Value} {a b : Value} {Q : Fin → Shared → Prop} (D : ZipApart z TI TO i1 i2 t1 t2) (hz : IsZip s.heap z TI TO .none) (hTI : IsPair s.heap TI (.ref i1) (.ref i2)) (hTO : IsPair s.heap TO a b)
   (h1:s.heap.IsTupleIter i1 t1 k) (h2:s.heap.IsTupleIter i2 t2 k) (ht1:s.heap.IsTuple t1 xs) (ht2:s.heap.IsTuple t2 ys)
   (q1 : ∀ x y, xs[k]? = some x → ys[k]? = some y → ∀ h', IsZip h' z TI TO (rawInt s.heap.objs.size) → IsPair h' TO x y → h'.IsTupleIter i1 t1 (k + 1) → h'.IsTupleIter i2 t2 (k + 1) → IsPair h' s.heap.objs.size x y →
     (∀ c o,c≠z→c≠TO→c≠i1→c≠i2→s.heap.get? c=some o→h'.get? c=some o)→Q (.done (.ret (.ref s.heap.objs.size))) { s with heap:=h' })
   (q2:(xs[k]? = none∨ys[k]? = none)→A.handled=none∧∀ h' e,(∀ c o,c≠z→c≠TO→c≠i1→c≠i2→s.heap.get? c=some o→h'.get? c=some o)→(∃ o,h'.get? e=some o∧o.cls=.type "StopIteration")→E (.ref e) { s with heap:=h' }) :
   wpAny (model prog w) A (Builtin.«zip.__next__» ⟨[.ref z],[]⟩) Q E s:=by
 show wpAny _ _ (field (.ref z) 2 >>= _) _ _ _;refine wpAny_bind (wpAny_field hz rfl (x:=.bool false) rfl ?_);show wpAny _ _ (field (.ref z) 3 >>= _) _ _ _;refine wpAny_bind (wpAny_field hz rfl (x:=.ref TI) rfl (wpAny_bind (wpAny_seqItems hTI rfl ?_)));show wpAny _ _ (Builtin.SmallTypes.ownedTupleIsFree (.ref z) >>= _) _ _ _;refine wpAny_bind ?_;unfold Builtin.SmallTypes.ownedTupleIsFree;refine wpAny_bind (wpAny_field hz rfl (x:=.none) rfl (wpAny_pure ?_));simp only [if_true];refine wpAny_bind (wpAny_rule (wpAny_bind (wpAny_field hz rfl (x:=.ref TO) rfl ?_)));refine wpAny_bind (wpAny_setField_rec hz (by simp) fun g1 hz1 s1=>?_);replace hz1:IsZip g1 z TI TO .ellipsis:=hz1;refine wpAny_bind ?_;simp only [List.zipIdx_cons,List.zipIdx_nil,List.forIn_cons,List.forIn_nil];refine wpAny_bind (wpAny_bind (wpAny_onRaise ?_));show wpAny _ _ (Builtin.SmallTypes.nextOf (.ref i1) >>= _) _ _ _;refine wpAny_bind (lD (h1.at fun o e=>s1.extBut _ o D.i1z e) (ht1.extBut s1.extBut D.l1z) (fun x hx g2 h12 s2=>wpAny_pure ?_) fun hx=>?_)
 · have hO2 : IsPair g2 TO a b := s2.extBut _ _ D.TOi1 (s1.extBut _ _ D.TOz hTO);refine wpAny_bind (wpAny_seqItems hO2 rfl (wpAny_bind (wpAny_updateSeq_pair hO2 fun g3 hO3 s3=>?_)));replace hO3:IsPair g3 TO x b:=hO3;refine wpAny_bind (wpAny_letGo (wpAny_pure ?_));refine wpAny_bind (wpAny_bind (wpAny_onRaise ?_));show wpAny _ _ (Builtin.SmallTypes.nextOf (.ref i2) >>= _) _ _ _;have k3:∀ c o,c≠z→c≠TO→c≠i1→s.heap.get? c=some o→g3.get? c=some o:=fun c o c1 c2 c3 e=>s3.extBut _ _ c2 (s2.extBut _ _ c3 (s1.extBut _ _ c1 e));have hz3:IsZip g3 z TI TO .ellipsis:=s3.extBut _ _ D.TOz.symm (s2.extBut _ _ D.i1z.symm hz1);refine wpAny_bind (lD (h2.at fun o e=>k3 _ o D.i2z D.TOi2.symm D.i12.symm e) (ht2.at fun o e=>k3 _ o D.l2z D.l2TO D.l2i1 e) (fun y hy g4 h24 s4=>wpAny_pure ?_) fun hy=>?_)
   · have hO4 : IsPair g4 TO x b := s4.extBut _ _ D.TOi2 hO3;refine wpAny_bind (wpAny_seqItems hO4 rfl (wpAny_bind (wpAny_updateSeq_pair hO4 fun g5 hO5 s5=>?_)));replace hO5:IsPair g5 TO x y:=hO5;refine wpAny_bind (wpAny_letGo (wpAny_pure (wpAny_pure ?_)));refine wpAny_bind (wpAny_seqItems hO5 rfl (wpAny_bind (wpAny_newTuple ?_)));have z5:g5.objs.size=s.heap.objs.size:=by rw [s5.1,s4.1,s3.1,s2.1,s1.1]
     have hz5:IsZip g5 z TI TO .ellipsis:=s5.extBut _ _ D.TOz.symm (s4.extBut _ _ D.i2z.symm hz3);have k5:∀ c o,c≠z→c≠TO→c≠i1→c≠i2→s.heap.get? c=some o→g5.get? c=some o:=fun c o c1 c2 c3 c4 e=>s5.extBut _ _ c2 (s4.extBut _ _ c4 (k3 c o c1 c2 c3 e));have h15:g5.IsTupleIter i1 t1 (k+1):=h12.at fun o e=>s5.extBut _ _ D.TOi1.symm (s4.extBut _ _ D.i12 (s3.extBut _ _ D.TOi1.symm e));have h25:g5.IsTupleIter i2 t2 (k+1):=h24.at fun o e=>s5.extBut _ _ D.TOi2.symm e;have zlt:z<g5.objs.size:=Heap.lt_size hz5;show wpAny _ _ (Builtin.SmallTypes.ownedTupleHandOut (.ref z) (.ref g5.objs.size) >>= _) _ _ _;refine wpAny_bind ?_;unfold Builtin.SmallTypes.ownedTupleHandOut;have hz6:IsZip (g5.push { cls:=.type "tuple",data:=.seq #[x,y] }) z TI TO .ellipsis:=Heap.get?_push_of_some _ hz5;refine wpAny_bind (wpAny_setField_rec hz6 (by simp) fun g7 hz7 s7=>?_);replace hz7:IsZip g7 z TI TO (rawInt g5.objs.size):=hz7;refine wpAny_setField_rec hz7 (by simp) fun g8 hz8 s8=>?_;replace hz8:IsZip g8 z TI TO (rawInt g5.objs.size):=hz8;have up:∀ c o,c≠z→g5.get? c=some o→g8.get? c=some o:=fun c o c1 e=>s8.extBut _ _ c1 (s7.extBut _ _ c1 (Heap.get?_push_of_some _ e));have hT8:IsPair g8 g5.objs.size x y:=s8.extBut _ _ (Nat.ne_of_gt zlt) (s7.extBut _ _ (Nat.ne_of_gt zlt) (Heap.get?_push_size _ rfl));rw [z5] at hz8 hT8;refine wpAny_pure ?_;show Q (.done (.ret (.ref g5.objs.size))) _;rw [z5];exact q1 x y hx hy g8 hz8 (up _ _ D.TOz hO5) (h15.at fun o e=>up _ o D.i1z e) (h25.at fun o e=>up _ o D.i2z e) hT8 fun c o c1 c2 c3 c4 e=>up c o c1 (k5 c o c1 c2 c3 c4 e)
   · obtain ⟨hh, q2⟩ := q2 (.inr hy);refine ⟨hh,fun g4 e s4 he=>?_⟩;obtain ⟨oe,hoe,hce⟩:=he;have hz4:IsZip g4 z TI TO .ellipsis:=s4 _ _ D.i2z.symm hz3;have hez:e≠z:=fun v=>by subst v;rw [hz4] at hoe;cases hoe;simp at hce
     exact wpAny_setField_rec hz4 (by simp) fun g5 _ s5=>q2 g5 e (fun c o c1 c2 c3 c4 v=>s5.extBut _ _ c1 (s4 _ _ c4 (k3 c o c1 c2 c3 v))) ⟨oe,s5.extBut _ _ hez hoe,hce⟩
 · obtain ⟨hh, q2⟩ := q2 (.inl hx);refine ⟨hh,fun g2 e s2 he=>?_⟩;obtain ⟨oe,hoe,hce⟩:=he;have hz2:IsZip g2 z TI TO .ellipsis:=s2 _ _ D.i1z.symm hz1;have hez:e≠z:=fun v=>by subst v;rw [hz2] at hoe;cases hoe;simp at hce
   exact wpAny_setField_rec hz2 (by simp) fun g3 _ s3=>q2 g3 e (fun c o c1 _ c3 _ v=>s3.extBut _ _ c1 (s2 _ _ c3 (s1.extBut _ _ c1 v))) ⟨oe,s3.extBut _ _ hez hoe,hce⟩
end
abbrev t6 (t:Addr):Obj:={ cls:=.type "tuple_iterator",data:=.fields #[.ref t,.int 0 0] }
abbrev Tf (a b:Value):Obj:={ cls:=.type "tuple",data:=.seq #[a,b] }
abbrev lK (h:Heap) (t:Addr):Heap:=h.push (t6 t)
abbrev kH (h:Heap) (t u:Addr):Heap:=(lK h t).push (t6 u)
abbrev xG (h:Heap) (t u:Addr):Heap:=(kH h t u).push (Tf (.ref h.objs.size) (.ref (lK h t).objs.size))
abbrev xk (h:Heap) (t u:Addr):Heap:=(xG h t u).push (Tf .none .none)
abbrev xr (h:Heap) (t u:Addr):Heap:=(xk h t u).push { cls:=.type "zip",data:=.fields #[.none,.bool false,.bool false,.ref (kH h t u).objs.size,.ref (xG h t u).objs.size] }
theorem Cc (t u:Addr) (xs ys:Array Value):Meets (Builtin.«zip.__new__» ⟨[.type "zip",.ref t,.ref u],[]⟩) (fun _ R s=>s.heap.IsTuple t xs∧s.heap.IsTuple u ys∧R (.ok (.ret (.ref (xk s.heap t u).objs.size))) { s with heap:=xr s.heap t u }) :=
 .of_wp fun prog w A R s h=>by
   obtain ⟨hp,g,d,tk,os⟩:=s;obtain ⟨hl1,hl2,h⟩:=h;have hsub:=sub_zip;have hL1:Heap.IsTuple (Shared.heap ⟨hp,g,d,tk,os⟩) t xs:=hl1;have hL2:Heap.IsTuple (Shared.heap ⟨hp.push (t6 t),g,d,tk,os⟩) u ys:=hl2.at fun o e=>Heap.get?_push_of_some _ e
   wp_walk using wpAny_pyIter_tuple hL1,wpAny_pyIter_tuple hL2
   exact ⟨_,rfl,h⟩
section
variable {prog:Program} {w:World} {A:Around} {E:Value→Shared→Prop} {s:Shared}
theorem EC {t u : Addr} {xs ys : Array Value} {Q : Value → Shared → Prop} (h1 : s.heap.IsTuple t xs) (h2 : s.heap.IsTuple u ys)
   (q : ∀ h' n, n = s.heap.objs.size → IsZip h' (n + 4) (n + 2) (n + 3) .none → IsPair h' (n + 2) (.ref n) (.ref (n + 1)) → IsPair h' (n + 3) .none .none → h'.IsTupleIter n t 0 → h'.IsTupleIter (n + 1) u 0 →
     (∀ c o,s.heap.get? c=some o→h'.get? c=some o)→Q (.ref (n+4)) { s with heap:=h' }):wpAny (model prog w) A (call (.type "zip") [.ref t,.ref u]) Q E s:=by
 refine callType_new F.called_zip (by decide) (F.typeCall_zip_2 _ _) (F.newCall_zip_2 _ _) (fun obj=>F.args_object_init_3 obj _ _) F.entry_zip_new (Cc t u xs ys) ⟨h1,h2,?_⟩;have z1:(lK s.heap t).objs.size=s.heap.objs.size+1:=Heap.size_push ..;have z2:(kH s.heap t u).objs.size=s.heap.objs.size+2:=by rw [Heap.size_push,z1]
 have z3:(xG s.heap t u).objs.size=s.heap.objs.size+3:=by rw [Heap.size_push,z2]
 have z4:(xk s.heap t u).objs.size=s.heap.objs.size+4:=by rw [Heap.size_push,z3]
 have p5:∀ c o,(xk s.heap t u).get? c=some o→(xr s.heap t u).get? c=some o:=fun c o e=>Heap.get?_push_of_some _ e;have p4:∀ c o,(xG s.heap t u).get? c=some o→(xr s.heap t u).get? c=some o:=fun c o e=>p5 c o (Heap.get?_push_of_some _ e);have p3:∀ c o,(kH s.heap t u).get? c=some o→(xr s.heap t u).get? c=some o:=fun c o e=>p4 c o (Heap.get?_push_of_some _ e);have p2:∀ c o,(lK s.heap t).get? c=some o→(xr s.heap t u).get? c=some o:=fun c o e=>p3 c o (Heap.get?_push_of_some _ e);have e5:(xr s.heap t u).get? (xk s.heap t u).objs.size=some _:=Heap.get?_push_size _ rfl;have e4:=p5 _ _ (show (xk s.heap t u).get? (xG s.heap t u).objs.size=some _ from Heap.get?_push_size _ rfl);have e3:=p4 _ _ (show (xG s.heap t u).get? (kH s.heap t u).objs.size=some _ from Heap.get?_push_size _ rfl);have e2:=p3 _ _ (show (kH s.heap t u).get? (lK s.heap t).objs.size=some _ from Heap.get?_push_size _ rfl);have e1:=p2 _ _ (show (lK s.heap t).get? s.heap.objs.size=some _ from Heap.get?_push_size _ rfl);rw [z2,z3,z4] at e5;rw [z2,z1] at e3;rw [z3] at e4;rw [z1] at e2;show _∧_;rw [z4];exact ⟨⟨_,e5,rfl⟩,q _ _ rfl e5 e3 e4 ⟨_,e1,rfl,rfl⟩ ⟨_,e2,rfl,rfl⟩ fun c o x=>p2 c o (Heap.get?_push_of_some _ x)⟩
theorem xJ {z TI TO i1 i2 t1 t2 : Addr} {k : Nat} {xs ys : Array Value} {a b : Value} {Q : Option Value → Shared → Prop} (D : ZipApart z TI TO i1 i2 t1 t2) (hz : IsZip s.heap z TI TO .none) (hTI : IsPair s.heap TI (.ref i1) (.ref i2)) (hTO : IsPair s.heap TO a b)
   (h1:s.heap.IsTupleIter i1 t1 k) (h2:s.heap.IsTupleIter i2 t2 k) (ht1:s.heap.IsTuple t1 xs) (ht2:s.heap.IsTuple t2 ys)
   (q1 : ∀ x y, xs[k]? = some x → ys[k]? = some y → ∀ h', IsZip h' z TI TO (rawInt s.heap.objs.size) → IsPair h' TO x y → h'.IsTupleIter i1 t1 (k + 1) → h'.IsTupleIter i2 t2 (k + 1) → IsPair h' s.heap.objs.size x y →
     (∀ c o,c≠z→c≠TO→c≠i1→c≠i2→s.heap.get? c=some o→h'.get? c=some o)→Q (some (.ref s.heap.objs.size)) { s with heap:=h' })
   (q2:(xs[k]? = none∨ys[k]? = none)→A.handled=none∧∀ h',(∀ c o,c≠z→c≠TO→c≠i1→c≠i2→s.heap.get? c=some o→h'.get? c=some o)→Q none { s with heap:=h' }) :
   wpAny (model prog w) A (pyNext (.ref z)) Q E s:=by
 have hT:s.TypeIs (.ref z) "zip":=⟨_,hz,rfl⟩;unfold pyNext;refine wpAny_bind (wpAny_attempt (wpAny_callSpecial?_slot (name:=Str.ofString "__next__") hT F.slot_zip_next (wpAny_call_entry F.slot_zip_next hT F.entry_zip_next ?_ (F.args_zip_next_1 _))));refine TF D hz hTI hTO h1 h2 ht1 ht2 (fun x y hx hy h' a1 a2 a3 a4 a5 a6=>⟨_,rfl,wpAny_pure (q1 x y hx hy h' a1 a2 a3 a4 a5 a6)⟩) fun he=>⟨(q2 he).1,fun h' e kk ho=>?_⟩;obtain ⟨o,ho,hc⟩:=ho;exact wpAny_bind (wpAny_isInstance (T:="StopIteration") (b:=true) ⟨o,ho,hc⟩ isSubtype_stop (wpAny_pure ((q2 he).2 _ kk)))
end
end L3
namespace L3
open PySem PySem.Spec PyProof.Rows L2
def Dv (K:W.Frag) (a b:Addr):It :=
 ⟨fun i H => ∃ xs ys x y, aZ K H a xs ∧ aZ K H b ys ∧ xs[i]? = some x ∧ ys[i]? = some y,
  fun i H v H'=>∃ T x y,v=.ref T∧H T=none∧H'=upd H T (.tup [x,y])∧∀ xs ys,aZ K H a xs→aZ K H b ys→xs[i]? = some x∧ys[i]? = some y,
  fun i H=>∃ xs ys,aZ K H a xs∧aZ K H b ys∧(xs.length≤i∨ys.length≤i)⟩
theorem jy {X : Cx} {pins : List (Addr × Obj)} {σ : St} {H : Hp} {s : Shared} {h' : Heap} {ch : List Addr} {T : Addr} {xs : List V} (I : Inv X pins σ H s) (hf : ∀ b ∈ ch, lG X pins H b) (hT : s.heap.objs.size ≤ T)
   (k:∀ b o,b ∉ ch→s.heap.get? b=some o→h'.get? b=some o) (kc:∀ b∈ch,∃ o,h'.get? b=some o) (new:cu X.prog X.w (upd H T (.tup xs)) h' T (.tup xs)):Inv X pins σ (upd H T (.tup xs)) { s with heap:=h' }:=by
 have hn:H T=none:=I.aG.fresh hT;have nc:∀ b u,H b=some u→b ∉ ch:=fun b u e hb=>by rw [(hf b hb).1] at e;cases e
 have nT:∀ b o,s.heap.get? b=some o→b≠T:=fun b o e z=>absurd (Heap.lt_size e) (by rw [z];exact Nat.not_lt.mpr hT);refine I.ko (ch:=ch) rfl ⟨fun b o e _ _ hc=>k b o hc e,fun b o e _ _ hc=>⟨o.slots,k b o hc e⟩,fun b o e n _=>by rw [aw (nT b o e)];exact n,fun b o e hc=>⟨o,k b o hc e⟩,fun b xs e=>?_,fun b o u e=>?_,fun b ps e=>⟨#[],?_⟩⟩ ?_ I.bare ?_
 · rw [aw (aq e hn)];exact e
 · rw [aw (aq e hn)];exact e
 · rw [aw (aq e hn),e];simp
 · intro b u e;by_cases hb:b=T
   · subst hb;rw [ae] at e;cases e
     exact new
   · rw [aw hb] at e;refine (I.aG b u e).iq (fun c v hc q=>k c v ?_ q) (fun c q=>by rw [aw (aq q hn)];exact q) fun c ys q=>by rw [aw (aq q hn)];exact q
     rcases hc with z | z
     · rw [z];exact nc b u e
     · exact nc c _ z
 · intro b hb;obtain ⟨f0,f1,f2,f3,f4,f5⟩:=hf b hb;exact ⟨f3,f1,f4,f5⟩
theorem Ck {P : Program} {w : World} {K : W.Frag} {es : List Expr} {n : Nat} {pos : Pos} {a b z TI TO i1 i2 : Addr} (D : ZipApart z TI TO i1 i2 a b) :
   Turn P w K (.Tuple es n pos) (Dv K a b) [z,TI,TO,i1,i2] z (fun i h=>IsZip h z TI TO .none∧IsPair h TI (.ref i1) (.ref i2)∧(∃ x y,IsPair h TO x y)∧h.IsTupleIter i1 a i∧h.IsTupleIter i2 b i) where
 mem:=by simp
 obj:=fun i h st c hc=>by
   obtain ⟨hz,hI,⟨x,y,hO⟩,⟨o1,e1,_,d1⟩,⟨o2,e2,_,d2⟩⟩:=st;have hc:c=z∨c=TI∨c=TO∨c=i1∨c=i2:=by simpa using hc
   rcases hc with rfl | rfl | rfl | rfl | rfl
   · exact ⟨_,hz,fun v e=>by cases e⟩
   · exact ⟨_,hI,fun v e=>by cases e⟩
   · exact ⟨_,hO,fun v e=>by cases e⟩
   · exact ⟨_,e1,fun v e=>by rw [d1] at e;cases e⟩
   · exact ⟨_,e2,fun v e=>by rw [d2] at e;cases e⟩
 keep:=fun i h h' st k=>by
   obtain ⟨hz,hI,⟨x,y,hO⟩,h1,h2⟩:=st;exact ⟨k z (by simp) _ hz,k TI (by simp) _ hI,⟨x,y,k TO (by simp) _ hO⟩,h1.at fun o e=>k i1 (by simp) o e,h2.at fun o e=>k i2 (by simp) o e⟩
 item:=by
   intro X hP hw hK hc i pins s σ H E I hf st hg;subst hP hw hK;obtain ⟨hz,hI,⟨x0,y0,hO⟩,h1,h2⟩:=st;obtain ⟨xs,ys,x,y,hq1,hq2,hx,hy⟩:=hg;obtain ⟨its1,rv1,p1,_⟩:=I.tuple hq1;obtain ⟨its2,rv2,p2,_⟩:=I.tuple hq2;obtain ⟨u,hu,ru⟩:=rv1.get hx;obtain ⟨v,hv,rv⟩:=rv2.get hy;refine xJ D hz hI hO h1 h2 (show s.heap.IsTuple a its1.toArray from p1) (show s.heap.IsTuple b its2.toArray from p2) (fun u' v' hu' hv' h' z1 z2 z3 z4 z5 kk=>?_) fun he=>?_
   · have e1 : u' = u := by simpa [hu] using hu'.symm
     have e2:v'=v:=by simpa [hv] using hv'.symm
     subst e1 e2;refine ⟨_,rfl,wpAny_letOwnedTupleGo_zip z1 fun h2' hz2 s2=>?_⟩;have T0:H s.heap.objs.size=none:=I.aG.fresh (Nat.le_refl _);have tz:s.heap.objs.size≠z:=Nat.ne_of_gt (Heap.lt_size hz);have J:Inv X pins σ (upd H s.heap.objs.size (.tup [x,y])) { s with heap:=h2' }:=by
       refine jy (ch:=[z,TI,TO,i1,i2]) I hf (Nat.le_refl _) (fun c o hc e=>?_) (fun c hc=>?_) ?_
       · have c1 : c ≠ z := fun q => hc (by simp [q]);exact s2.extBut _ _ c1 (kk c o c1 (fun q=>hc (by simp [q])) (fun q=>hc (by simp [q])) (fun q=>hc (by simp [q])) e)
       · have hc : c = z ∨ c = TI ∨ c = TO ∨ c = i1 ∨ c = i2 := by simpa using hc
         rcases hc with rfl | rfl | rfl | rfl | rfl
         · exact ⟨_,hz2⟩
         · exact ⟨_,s2.extBut _ _ D.TIz (kk _ _ D.TIz D.TITO D.TIi1 D.TIi2 hI)⟩
         · exact ⟨_,s2.extBut _ _ D.TOz z2⟩
         · obtain ⟨o,e,_⟩:=z3;exact ⟨o,s2.extBut _ _ D.i1z e⟩
         · obtain ⟨o,e,_⟩:=z4;exact ⟨o,s2.extBut _ _ D.i2z e⟩
       · exact ⟨by show 2≤sizeLine;decide,[u',v'],.cons ru (.cons rv .nil),⟨_,s2.extBut _ _ tz z5,rfl,_,rfl⟩⟩
     refine ⟨.ref s.heap.objs.size,_,J,rfl,⟨_,x,y,rfl,T0,rfl,fun xs' ys' q1 q2=>?_⟩,⟨hz2,s2.extBut _ _ D.TIz (kk _ _ D.TIz D.TITO D.TIi1 D.TIi2 hI),⟨_,_,s2.extBut _ _ D.TOz z2⟩,z3.at fun o e=>s2.extBut _ _ D.i1z e,z4.at fun o e=>s2.extBut _ _ D.i2z e⟩,fun c hc=>?_⟩
     · rw [I.fZ q1 hq1,I.fZ q2 hq2];exact ⟨hx,hy⟩
     · have hlt : c < s.heap.objs.size := by
         have hc:c=z∨c=TI∨c=TO∨c=i1∨c=i2:=by simpa using hc
         rcases hc with e | e | e | e | e <;> rw [e]
         · exact Heap.lt_size hz
         · exact Heap.lt_size hI
         · exact Heap.lt_size hO
         · obtain ⟨o,e,_⟩:=h1;exact Heap.lt_size e
         · obtain ⟨o,e,_⟩:=h2;exact Heap.lt_size e
       rw [aw (Nat.ne_of_lt hlt)];exact (hf c hc).1
   · exfalso
     rcases he with he | he
     · simp [hu] at he
     · simp [hv] at he
 done:=by
   intro X hP hw hK hc i pins s σ H E I hf st hg;subst hP hw hK;obtain ⟨hz,hI,⟨x0,y0,hO⟩,h1,h2⟩:=st;obtain ⟨xs,ys,hq1,hq2,hl⟩:=hg;obtain ⟨its1,rv1,p1,_⟩:=I.tuple hq1;obtain ⟨its2,rv2,p2,_⟩:=I.tuple hq2;have l1:=rv1.length;have l2:=rv2.length;refine xJ D hz hI hO h1 h2 (show s.heap.IsTuple a its1.toArray from p1) (show s.heap.IsTuple b its2.toArray from p2) (fun u' v' hu' hv' h' z1 z2 z3 z4 z5 kk=>?_) fun he=>⟨I.ok.hd hc,fun h' kk=>⟨rfl,?_⟩⟩
   · exfalso
     have g1:i<its1.length:=by simpa using (Array.getElem?_eq_some_iff.mp hu').1
     have g2:i<its2.length:=by simpa using (Array.getElem?_eq_some_iff.mp hv').1
     omega
   · have hnc : ∀ c o, c ∉ [z, TI, TO, i1, i2] → s.heap.get? c = some o → h'.get? c = some o := fun c o hc e => kk c o (fun q => hc (by simp [q])) (fun q => hc (by simp [q])) (fun q => hc (by simp [q])) (fun q => hc (by simp [q])) e;refine I.ko (s':={ s with heap:=h' }) (ch:=[z,TI,TO,i1,i2]) rfl ⟨fun b o e _ _ hc=>hnc b o hc e,fun b o e _ _ hc=>⟨o.slots,hnc b o hc e⟩,fun b o e n _=>n,fun b o e hc=>⟨o,hnc b o hc e⟩,fun _ _ e=>e,fun _ _ _ e=>e,fun b ps e=>⟨#[],by rw [e];simp⟩⟩ (fun b u e=>?_) I.bare ?_
     · have nc : ∀ b u, H b = some u → b ∉ [z, TI, TO, i1, i2] := fun b u e hb => by rw [(hf b hb).1] at e; cases e
       refine (I.aG b u e).iq (fun c v hc q=>hnc c v ?_ q) (fun _ q=>q) fun _ _ q=>q;rcases hc with q | q
       · rw [q];exact nc b u e
       · exact nc c _ q
     · intro b hb;obtain ⟨f0,f1,f2,f3,f4,f5⟩:=hf b hb;exact ⟨f3,f1,f4,f5⟩
 self:=fun _ _ _ _ _ st h=>wpAny_pyIter_zip st.1 h
theorem tX:bootBuiltins "zip" = some (.type "zip"):=by decide +kernel
def Hc (K:W.Frag) (ta:TA):TI:=fun σ H R=>ta σ H fun vs H1=>∃ a b xs ys,vs=[.ref a,.ref b]∧aZ K H1 a xs∧aZ K H1 b ys∧R (Dv K a b) H1
theorem Et {X : Cx} {K : W.Frag} {es : List Expr} {n : Nat} {tpos : Pos} {a b : Expr} {ta : TA} {p pos : Pos} (hK : X.K = K) (hg : Gl X "zip") (hm : X.mg "zip" = none) (ha : PA X [a, b] ta) (hs : starEach [a, b] X.env = [(false, eval a X.env), (false, eval b X.env)] := by rfl) (hs2 : starEach [b] X.env = [(false, eval b X.env)] := by rfl) :
   PI X (.Tuple es n tpos) (.Call (.Name "zip" p) [a,b] [] pos) (Hc K ta):=by
 subst hK;intro pins s σ H R I h;refine Call_ (gb I hg hm tX (PyProof.Rows.callWith_type1 (br (ha pos pins s σ H _ I h) fun us s1 ⟨vs,H1,I1,r1,q1⟩=>?_) (by rw [hs,hs2]) (by rw [hs2];rfl)));obtain ⟨x,y,xs,ys,e,hx,hy,q⟩:=q1;subst e;cases r1 with
 | cons r rr =>
   cases rr with
   | cons r' rr =>
     cases rr
     cases r
     cases r'
     obtain ⟨its1,rv1,p1,_⟩:=I1.tuple hx;obtain ⟨its2,rv2,p2,_⟩:=I1.tuple hy;have lx:x<s1.heap.objs.size:=p1.lt;have ly:y<s1.heap.objs.size:=p2.lt;refine EC (show s1.heap.IsTuple x its1.toArray from p1) (show s1.heap.IsTuple y its2.toArray from p2) fun h' m hm' z1 z2 z3 z4 z5 kk=>?_;subst hm';refine wpAny_pyIter_zip z1 ⟨_,[s1.heap.objs.size+4,s1.heap.objs.size+2,s1.heap.objs.size+3,s1.heap.objs.size,s1.heap.objs.size+1],_,_,H1,rfl,I1.kept (t':=s1.toks) kk,Ck ⟨?_,?_,?_,?_,?_,?_,?_,?_,?_,?_,?_,?_,?_,?_,?_,?_,?_,?_⟩,⟨z1,z2,⟨_,_,z3⟩,z4,z5⟩,fun c hc=>?last,q⟩
     case last =>
       have hc:c=s1.heap.objs.size+4∨c=s1.heap.objs.size+2∨c=s1.heap.objs.size+3∨c=s1.heap.objs.size∨c=s1.heap.objs.size+1:=by simpa using hc
       have hge:s1.heap.objs.size≤c:=by rcases hc with e | e | e | e | e <;> rw [e] <;> first | exact Nat.le_add_right _ _ | exact Nat.le_refl _
       exact I1.jC hge (I1.aG.fresh hge)
     all_goals (intro e;have e' : @Eq Nat _ _:=e;have lx' : @LT.lt Nat _ _ _:=lx;have ly' : @LT.lt Nat _ _ _:=ly;omega)
theorem Kf {K:W.Frag} {ta:TA} {σ : St} {H:Hp} {R:It→Hp→Prop} (q:ta σ H fun vs H1=>∃ a b xs ys,vs=[.ref a,.ref b]∧aZ K H1 a xs∧aZ K H1 b ys∧R (Dv K a b) H1):Hc K ta σ H R:=q
theorem A1 {K : W.Frag} {a b : Addr} {α : Type} {xs : List α} {e1 e2 : α → V} {g : TG} {tc : TT} {te : TE} {fin : List V → Hp → Prop} {σ0 : St} {H : Hp} (f : α → V) (Sg : St → Prop) (ha : aZ K H a (xs.map e1)) (hb : aZ K H b (xs.map e2)) (hz : xs.length ≤ sizeLine) (h0 : Sg σ0)
   (hs : ∀ (i : Nat) (x : α) (ys : List V) (σ : St) (H1 : Hp) (T : Addr), xs[i]? = some x → ig xs f Sg H i ys σ H1 → au H H1 → Sg σ → H1 T = none →
     g (.ref T) σ (upd H1 T (.tup [e1 x,e2 x])) fun σ3 H3=>tc σ3 H3 fun b H4=>if b=true then te σ3 H4 fun y H5=>ig xs f Sg H (i+1) (ys++[y]) σ3 H5 else ig xs f Sg H (i+1) ys σ3 H4)
   (hd:∀ H1,au H H1→fin (xs.map f) H1):gT (Dv K a b) g tc te fin σ0 H:=by
 refine ⟨fun i m ys σ H1=>m=xs.length - i∧i≤xs.length∧ig xs f Sg H i ys σ H1,⟨xs.length,by simp,Nat.zero_le _,au.refl _,h0,rfl⟩,?_⟩;rintro i m ys σ H1 ⟨rfl,hi,c⟩;obtain ⟨s,sg,rfl⟩:=id c;by_cases hlt:i<xs.length
 · refine .inr ⟨⟨_, _, e1 xs[i], e2 xs[i], cI s ha, cI s hb, by simp [hlt], by simp [hlt]⟩, ig xs f Sg H (i + 1), fun ys2 σ2 H2 p' => ⟨?_, xs.length - (i + 1), by omega, rfl, hlt, p'⟩, fun v H2 y => ?_⟩
   · obtain ⟨_, _, rfl⟩ := p';rw [List.length_map,List.length_take];omega
   · obtain ⟨T, x, y', rfl, hT, rfl, hxy⟩ := y;obtain ⟨q1,q2⟩:=hxy _ _ (cI s ha) (cI s hb);have e1':e1 xs[i]=x:=by simpa [hlt] using q1
     have e2':e2 xs[i]=y':=by simpa [hlt] using q2
     rw [← e1',← e2'];exact hs i xs[i] _ σ H1 T (by simp [hlt]) c s sg hT
 · have e : i = xs.length := by omega
   subst e;refine .inl ⟨⟨_,_,cI s ha,cI s hb,.inl (by simp)⟩,?_,?_⟩
   · rw [List.length_map,List.length_take];omega
   · rw [List.take_length];exact hd H1 s
end L3
namespace L3
open PySem PySem.Spec PyProof.Rows L2
theorem UT {K:W.Frag} {a:Addr} {xs:List V} {its:Array Value} {n:Nat} {od:Option Addr} {sl:Array (Option Value)} (l:K.lookup a=some ⟨.type "tuple",od,.seq its n,sl⟩) (hz:its.size≤sizeLine) (v:a_ xs its.toList):∀ H,aZ K H a xs:=fun H=>.inr ⟨_,its,n,l,rfl,rfl,hz,v⟩
theorem IH {l:Addr} {xs:List V} {y:V} {H:Hp} {Q:VK} (h:H l=some (.lst (xs++[y]))) (q:Q y (upd H l (.lst xs))):Gp (.ref l) [] H Q:=by
 refine ⟨l,xs++[y],y,rfl,rfl,h,?_,?_⟩
 · simp
 · simpa using q
theorem BU {l b:Addr} {xs zs:List V} {H:Hp} {Q:VK} (h:H l=some (.lst xs)) (hb:H b=some (.lst zs)) (hz:xs.length+zs.length≤sizeLine) (q:Q .aR (upd H l (.lst (xs++zs)))):xU (.ref l) [.ref b] H Q:=⟨l,b,xs,zs,rfl,rfl,h,hb,hz,q⟩
end L3
namespace L3
open PySem PySem.Spec PyProof.Rows L2 PySem.SeqAt
theorem PS.cO {X:Cx} {st:Stmt} {t:TS} (h:PS X.cO st t):PS X st t:=fun pins s σ H D I hw =>
 wpAny_mono (h pins s σ H D (I.gu _) hw) (fun _ _ q=>q.eQ) fun _ _ z=>z.elim
theorem PA.cO {X:Cx} {es:List Expr} {t:TA} (h:PA X.cO es t):PA X es t:=fun pos pins s σ H Q I hw =>
 wpAny_mono (h pos pins s σ H Q (I.gu _) hw) (fun _ _ ⟨v,H',I',r,q⟩=>⟨v,H',I'.eQ,r,q⟩) fun _ _ z=>z.elim
theorem zO {P:Program} {w:World} {H:Hp} {h0 h5:Heap} {l:List Addr} (x:dA P w H h0) (hl:∀ b∈l,H b=none) (k:(W.hideAll h0 l).StaysIn h5):dA P w H h5:=fun a o e=>by
 refine (x a o e).iq (fun b u hb q=>k b u (W.hideAll_get _ q fun hm=>?_)) (fun _ q=>q) fun _ _ q=>q;have hn:=hl b hm;rcases hb with rfl | hb
 · rw [e] at hn;cases hn
 · rw [hb] at hn;cases hn
theorem B3 {fs : List Addr} {H H' : Hp} {h h0 h5 : Heap} {l : List Addr} (u : Un fs [] H H' h h0) (hl : ∀ b ∈ l, b ∈ fs ∨ h.objs.size ≤ b) (k : (W.hideAll h0 l).StaysIn h5) (up : h0.UpToSlots h5)
   (hf:∀ b∈fs,H b=none∧∀ o,h.get? b=some o→∀ vs,o.data≠.fields vs):Un fs [] H H' h h5:=by
 have nl:∀ b o,h.get? b=some o→b ∉ fs→b ∉ l:=fun b o q hb hm=>by
   rcases hl b hm with z | z
   · exact hb z
   · exact absurd (Nat.lt_of_lt_of_le (Heap.lt_size q) z) (Nat.lt_irrefl _)
 have sl:∀ b o,h.get? b=some o→b∈fs→∃ sl,h5.get? b=some { o with slots:=sl }:=fun b o q hb=>by
   obtain ⟨s1,e1⟩:=u.slot b o q (hf b hb).1 hb (by simp);obtain ⟨s2,e2⟩:=up b _ e1 ((hf b hb).2 o q);exact ⟨s2,e2⟩
 refine ⟨fun b o q n hb hx=>k b o (W.hideAll_get _ (u.keep b o q n hb hx) (nl b o q hb)),fun b o q _ hb _=>sl b o q hb,u.free,fun b o q hx=>?_,u.jL,u.iL,u.jD⟩;by_cases hb:b∈fs
 · obtain ⟨s2, e2⟩ := sl b o q hb;exact ⟨_,e2⟩
 · obtain ⟨o', e'⟩ := u.there b o q hx;exact ⟨o',k b o' (W.hideAll_get _ e' (nl b o q hb))⟩
structure vN (P:Program) (w:World) (outer:List Env) (H:Hp) (s:Shared) (ea C:Addr) (H':Hp) (s':Shared):Prop where
 os:s'.os=s.os
 bare:AllBare s'.gens
 ex : ∃ (h0 : Heap) (l : List Addr) (a0 : Value), Un (d0 outer) [] H H' s.heap h0 ∧ dA P w H' h0 ∧ (∀ b ∈ l, H' b = none ∧ (b ∈ d0 outer ∨ s.heap.objs.size ≤ b)) ∧ h0.get? ea = none ∧
   Heap.FlyingW (W.hideAll h0 l) outer ea (.ref C) a0 s'.heap∧h0.UpToSlots s'.heap
def eM (P:Program) (w:World):eh:=fun outer H s E e s'=>∃ (ea C:Addr) (H':Hp),e=.ref ea∧vN P w outer H s ea C H' s'∧E (.ref C) none H'
structure vc (K:W.Frag) (mg:Str→Option Value) (x:Str) (C:Addr):Prop where
 glob:mg x=some (.ref C)
 ex:W.excIn K C [.type "ValueError",.type "Exception",.type "BaseException",.type "object"] "ValueError.__new__" = true
theorem vc.obj {K : W.Frag} {mg : Str → Option Value} {x : Str} {C : Addr} {h : Heap} (c : vc K mg x C) (X : K.In h) :
   ∃ (bm : List Value) (N : Addr) (nm qn : Str) (bs : List Value) (hd : Bool) (sn : List Str) (sub : List Value) (ab : Bool) (col : Option Bool) (dd : Option Addr) (k0 k1 k2 k3 k5 : Option Value) (mN : Str → Option Value),
     h.get? C=some (excClassObj nm qn C N bs bm hd sn sub ab col dd k0 k1 k2 k3 k5 "ValueError.__new__")∧h.Ns N mN∧mN "__init__" = none ∧
     OwnTail h [.type "ValueError",.type "Exception",.type "BaseException",.type "object"] bm:=by
 have hq:=c.ex;unfold W.excIn at hq;split at hq
 · rename_i dd cd sl hlk;split at hq
   · rename_i C' bm k0 k1 k2 k3 id k5 hmro hsl;simp only [Bool.and_eq_true,Bool.not_eq_true',beq_iff_eq] at hq;obtain ⟨⟨⟨⟨⟨e1,e2⟩,e3⟩,e4⟩,e5⟩,e6⟩:=hq;subst e1 e2;obtain ⟨nm,bs,mro,ns,qn,hd,sn,sub,ab,col,del⟩:=cd;dsimp only at hmro e3 e5 e6;subst hmro e3;obtain ⟨sl⟩:=sl;dsimp only at hsl;subst hsl;exact ⟨bm,ns,nm,qn,bs,hd,sn,sub,ab,col,dd,k0,k1,k2,k3,k5,_,X _ _ hlk,.of_isNs (W.isNs_of_in X e5),W.nsMap_none_of_in X e5 e6,W.tail_of_in X e4⟩
   · cases hq
 · cases hq
end L3
namespace L3
open PySem PySem.Spec PyProof.Rows L2 PySem.SeqAt
def Bi (C:Addr) (E:XK) (t:TA):TS:=fun _ σ H=>t σ H fun vs H1=>vs.length≤1000∧E (.ref C) none H1
theorem BA {X:Cx} (hst:X.stack=X.env::X.outer) (hfr:X.env.frame=some X.env.locals):d0 X.stack=X.env.locals::d0 X.outer:=by
 rw [hst];unfold d0;rw [List.filterMap_cons,hfr]
theorem uW {X : Cx} {pins : List (Addr × Obj)} {σ : St} {H : Hp} {s : Shared} {h' : Heap} {e C : Addr} {args : List Value} {Q : Unit → Shared → Prop} {Ex : Value → Shared → Prop} (I : Inv X pins σ H s)
   (hst:X.stack=X.env::X.outer) (hfr:X.env.frame=some X.env.locals) (hex:X.ex=[]) (hx:Heap.MadeExcOf s.heap h' e (.ref C) args)
   (hQ:∀ s',vN X.prog X.w X.outer X.H₀ X.s₀ e C H s'→Q () s'):wpAny (model X.prog X.w) X.A (leaving X.env (.ref e)) Q Ex { s with heap:=h' }:=by
 have hfs:=BA hst hfr;have hin:∀ env∈X.stack,∀ a,env.frame=some a→a∈d0 X.stack:=fun env he b hb=>List.mem_filterMap.mpr ⟨env,he,hb⟩;have hl:s.heap.FunFrames (W.hideAll s.heap (d0 X.stack)) (X.env::X.outer):=by
   have z:=W.funFrames_hide I.stack hin;rw [hst] at z ⊢;exact z
 refine wpAny_leaves_madeW (s:={ s with heap:=h' }) (by rw [← hst];exact I.ok.frames) hfr (fun b o q=>W.of_hideAll _ q) hl hx fun h2 t x1 _ _ x4=>hQ _ ⟨I.os,I.bare,?_⟩;have hb:=I.base;rw [hex] at hb;refine ⟨s.heap,d0 X.stack,.ref t,hb,I.aG,fun b hm=>⟨I.mS b hm,?_⟩,hx.new,x1,(Heap.UpToSlots.of_keeps hx.keeps).trans x4⟩;rw [hfs] at hm;rcases List.mem_cons.mp hm with rfl | hm
 · exact .inr I.ok.above
 · exact .inl hm
theorem ku {P : Program} {w : World} {K : W.Frag} {mg : Str → Option Value} {base : Heap} {N : List Str} {qual : Str} {scope : Scope} {f : Addr} {cd : Value} {A : Around} {outer : List Env} {s0 : Shared} {H0 : Hp} {E : XK}
   {C:Addr} {x:Str} {np cpos pos:Pos} {e0:Expr} {es:List Expr} {t:TA} (c:vc K mg x C) (hg:Gl (eX (eM P w) P w K mg base N qual scope f cd A outer s0 H0 E) x)
   (ha:PA (eX (eM P w) P w K mg base N qual scope f cd A outer s0 H0 E).cO (e0::es) t) (hdb:(x == ("__debug__" : Str))=false:=by decide)
   (he:starEach (e0::es) (eX (eM P w) P w K mg base N qual scope f cd A outer s0 H0 E).env=(false,eval e0 (eX (eM P w) P w K mg base N qual scope f cd A outer s0 H0 E).env)::starEach es (eX (eM P w) P w K mg base N qual scope f cd A outer s0 H0 E).env:=by rfl)
   (hpl:(backTo cpos (starEach es (eX (eM P w) P w K mg base N qual scope f cd A outer s0 H0 E).env)).any (·.1)=false:=by rfl) :
   PS (eX (eM P w) P w K mg base N qual scope f cd A outer s0 H0 E) (.Raise (some (.Call (.Name x np) (e0::es) [] cpos)) none pos) (Bi C E t):=by
 intro pins s σ H D I h;obtain ⟨bm,N',nm,qn,bs,hd,sn,sub,ab,col,dd,k0,k1,k2,k3,k5,mN,hC,hN,hni,TL⟩:=c.obj I.ok.mod.vw
 refine wpAny_Raise_call_subU (C := C) (mN := mN) (N := N') (nm := nm) (q := qn) (bs := bs) (bm := bm) (hdct := hd) (sn := sn) (sub := sub) (ab := ab) (col := col) (dd := dd) (k0 := k0) (k1 := k1) (k2 := k2) (k3 := k3) (k5 := k5)
   PySem.F.excBase_ValueError (by decide +kernel) PySem.F.excBase_ValueError (TL.hasType (by decide +kernel)) (I.ok.hd rfl) (by rw [he];show (false || (backTo cpos (starEach es _)).any (·.1))=false;rw [hpl];rfl) hni ?_
 refine iF I hg c.glob ⟨rfl,?_⟩ hdb;have hargs:=(L3.PA.cO ha) cpos pins s σ H _ I h;rw [he] at hargs ⊢;refine Calls.evalArgs_plain (br hargs fun us s1 ⟨vs,H1,I1,r,hlen,q⟩=>?_);refine ⟨rfl,?_,I1.bk _ _ hC,hN.keeps I1.bk,TL.keeps I1.bk,fun h' e hm=>?_⟩
 · show us.length ≤ sizeLine;rw [← r.length];exact Nat.le_trans hlen (by decide +kernel)
 · exact uW (X:=eX (eM P w) P w K mg base N qual scope f cd A outer s0 H0 E) I1 rfl rfl rfl hm fun s' th=>⟨e,C,H1,rfl,th,q⟩
theorem jR {P : Program} {w : World} {K : W.Frag} {mg : Str → Option Value} {base : Heap} {N : List Str} {qual : Str} {scope : Scope} {f : Addr} {cd : Value} {A : Around} {outer : List Env} {s0 : Shared} {H0 : Hp} {E : XK} :
   fM (eM P w) (eX (eM P w) P w K mg base N qual scope f cd A outer s0 H0 E) E:=by
 intro pins σ H s e s' I h;obtain ⟨ea,C,H',rfl,⟨os,bare,h0,l,a0,u,aG,hl,hn,fl,up⟩,q⟩:=h;show wpAny _ _ (leaving _ (.ref ea)) _ _ s';refine wpAny_leaves_onW (outer:=outer) I.ok.frames rfl fl fun h2 fl2 up2=>⟨ea,C,H',rfl,⟨os.trans I.os,bare,h0,l,a0,?_,aG,fun b hb=>⟨(hl b hb).1,?_⟩,hn,fl2,up.trans up2⟩,q⟩
 · have J := I.call (h' := h0) (g' := s'.gens) (d' := s'.drawn) (t' := s'.toks) (ch := []) u aG bare (fun b z => absurd z (by simp));exact J.base
 · rcases (hl b hb).2 with z | z
   · have z' : b ∈ d0 (envOfC qual scope s0.heap.objs.size f cd :: outer) := z;have e1:d0 (envOfC qual scope s0.heap.objs.size f cd::outer)=s0.heap.objs.size::d0 outer:=by unfold d0;rw [List.filterMap_cons];rfl
     rw [e1] at z';rcases List.mem_cons.mp z' with rfl | z'
     · exact .inr (Nat.le_refl _)
     · exact .inl z'
   · exact .inr (Nat.le_trans I.sz z)
end L3
namespace L3
open PySem PySem.Spec PyProof.Rows L2 PySem.SeqAt
section
variable {P:Program} {w:World} {K:W.Frag} {mg:Str→Option Value} {base:Heap} {x qual:Str} {st:Stmt} {N ps:List Str} {sp:Sp} {C:Addr} {k:Nat}
def tR (P:Program) (w:World) (K:W.Frag) (mg:Str→Option Value) (base:Heap) (k:Nat) (qual:Str) (st:Stmt) (N:List Str) (sp:Sp):Prop :=
 ∀ (f : Addr) (cdv : Value) (A : Around) (outer : List Env) (s : Shared) (H : Hp) (vs : List V) (Q : VK) (E : XK), cF k (A.deeper (envOfC qual (av st) s.heap.objs.size f cdv)) → sp vs H Q E →
   ∃ t,hU (eX (eM P w) P w K mg base N qual (av st) f cdv A outer s H E) (bH st) t∧t { nx:=fun _ H'=>Q .aR H',rt:=Q } (start N vs) H
theorem fL.C_ {f:Addr} {fd:FuncData} (F:fL K x qual st f fd) (S:aE N ps (av st)) (len:∀ vs H Q E,sp vs H Q E→vs.length=ps.length) (hbody:tR P w K mg base k qual st N sp):eg P w K mg base (eM P w) (k+1) f fd ps sp:=by
 obtain ⟨oc,od,kV,doc,pm,an,cdv,ct,osl,rfl,lk,hcd⟩:=F.ex;exact tU lk hcd S len fun A outer s H vs Q E hr hsp=>hbody f cdv A outer s H vs Q E hr hsp
theorem v_ (k : Nat) (h : ∃ f fd, fL K x qual st f fd ∧ mg x = some (.ref f) ∧ Binds K fd ps []) (S : aE N ps (av st)) (len : ∀ vs H Q E, sp vs H Q E → vs.length = ps.length)
   (hbody:tR P w K mg base k qual st N sp):cG P w K mg base (eM P w) (k+1) x sp:=by
 obtain ⟨f,fd,F,hm,hb⟩:=h;exact ⟨f,fd,ps,fL.C_ F S len hbody,hm,F.kp,hb⟩
end
section
variable {X:Cx} {pins:List (Addr×Obj)} {σ : St} {H:Hp} {s:Shared}
abbrev Cx.sup (X:Cx) (e:Addr) (pl:List (Addr×Obj)):Cx:={ X with A:=X.A.mark (some (.ref e)),calm:=false,xe:=fun _ _=>False,pn:=X.pn++pl }
theorem Cx.Ok.sup {e:Addr} {pl:List (Addr×Obj)} (ok:X.Ok):(Cx.sup X e pl).Ok :=
 ⟨ok.mod,ok.kind,ok.glob,ok.blt,ok.above,ok.inj,ok.has,ok.tY,(fun z=>by cases z),ok.frames,ok.xM,ok.DG,ok.bs,ok.nS,ok.oE,ok.qO,ok.gy,ok.qg⟩
theorem Cx.Ok.yD {e:Addr} {pl:List (Addr×Obj)} (ok:(Cx.sup X e pl).Ok) (h:X.calm=true→X.A.handled=none):X.Ok :=
 ⟨ok.mod,ok.kind,ok.glob,ok.blt,ok.above,ok.inj,ok.has,ok.tY,h,ok.frames,ok.xM,ok.DG,ok.bs,ok.nS,ok.oE,ok.qO,ok.gy,ok.qg⟩
theorem Inv.sup {e:Addr} {pl:List (Addr×Obj)} (I:Inv X pins σ H s) (h:∀ p∈pl,s.heap.get? p.1=some p.2∧H p.1=none∧p.1≠X.env.locals∧p.1 ∉ X.fs∧∀ v,p.2.data≠.cell v):Inv (Cx.sup X e pl) pins σ H s :=
 ⟨Cx.Ok.sup I.ok,I.os,I.bare,I.base,I.loc,I.cell,I.free,I.fS,fun p hp=>by
   rcases List.mem_append.mp hp with hp | hp
   · rcases List.mem_append.mp hp with hp | hp
     · exact I.pin p (List.mem_append_left _ hp)
     · exact h p hp
   · exact I.pin p (List.mem_append_right _ hp),I.aG,I.len⟩
theorem Inv.yD {e:Addr} {pl:List (Addr×Obj)} (I:Inv (Cx.sup X e pl) pins σ H s) (h:X.calm=true→X.A.handled=none):Inv X pins σ H s :=
 ⟨Cx.Ok.yD I.ok h,I.os,I.bare,I.base,I.loc,I.cell,I.free,I.fS,fun p hp=>by
   rcases List.mem_append.mp hp with hp | hp
   · exact I.pin p (List.mem_append_left _ (List.mem_append_left _ hp))
   · exact I.pin p (List.mem_append_right _ hp),I.aG,I.len⟩
end
end L3
namespace L3
open PySem PySem.Spec PyProof.Rows L2 PySem.SeqAt
def Dw (X:Cx) (pins:List (Addr×Obj)) (σ : St) (Ew:XK) (ex:Value) (s':Shared):Prop :=
 ∃ (ea C:Addr) (H1:Hp) (s1:Shared) (H':Hp),ex=.ref ea∧Inv X pins σ H1 s1∧vN X.prog X.w X.stack H1 s1 ea C H' s'∧Ew (.ref C) none H'
abbrev TB:=Ends→XK→St→Hp→Prop
def PB (X:Cx) (body:List Stmt) (tb:TB):Prop :=
 ∀ (pins:List (Addr×Obj)) (s:Shared) (σ : St) (H:Hp) (D:Ends) (Ew:XK),Inv X pins σ H s→tb D Ew σ H→wpAny (model X.prog X.w) X.A (execs body X.env) (SP X pins D) (Dw X pins σ Ew) s
section
variable {X:Cx} {pins:List (Addr×Obj)} {σ : St} {H:Hp} {s:Shared} {k:Nat} {g x n:Str} {sp:Sp} {e:Expr} {es:List Expr} {t:TA} {gp cpos pos py:Pos}
theorem wU {Q : VK} {Ew : XK} (G : cG X.prog X.w X.K X.mg X.base (eM X.prog X.w) k g sp) (hr : cF k X.A) (hg : Gl X g) (ha : PA X.cO (e :: es) t) (I : Inv X pins σ H s) (h : t σ H fun vs H1 => sp vs H1 Q Ew)
   (hdb:(g == ("__debug__" : Str))=false) (he:starEach (e::es) X.env=(false,eval e X.env)::starEach es X.env) (hpl:(backTo cpos (starEach es X.env)).any (·.1)=false) :
   wpAny (model X.prog X.w) X.A (eval (.Call (.Name g gp) (e::es) [] cpos) X.env) (EP X pins σ Q) (Dw X pins σ Ew) s:=by
 obtain ⟨f,fd,ps,F,hm,hk,hb⟩:=G.ex;refine wpAny_Call_Name_kw (iF I hg hm ?_ hdb);refine W.callWith_K (h₀:=X.base) I.ok.mod.vw hk (wpAny_mono (ha cpos pins s σ H _ (I.gu _) h) (fun us s1 ⟨vs,H1,I1,r,q⟩=>⟨I1.el,?_⟩) fun _ _ z=>z.elim) he hpl;have J:Inv X pins σ H1 s1:=I1.eQ;have hl:us.length=ps.length:=by rw [← r.length];exact F.len _ _ _ _ q
 have hbd:=hb s1 us J.el (by rw [List.append_nil];exact hl);rw [List.append_nil] at hbd;refine wpAny_call (codeAny_mono (F.run X.A X.stack s1 H1 ⟨us,[]⟩ us vs Q Ew hr J.BI hbd r q) fun r2 s' hq=>?_);cases r2 with
 | error ex =>
   obtain ⟨ea,C,H',rfl,th,q2⟩:=(show eM X.prog X.w X.stack H1 s1 Ew ex s' from hq)
   exact ⟨ea,C,H1,s1,H',rfl,J,th,q2⟩
 | ok fl =>
   cases fl with
   | ret u=>exact J.after hq
   | next=>exact False.elim hq
   | brk=>exact False.elim hq
   | cont=>exact False.elim hq
def Dd (sp:Sp) (i:Nat) (t:TA):TB:=fun D Ew σ H=>t σ H fun vs H1=>sp vs H1 (fun v H2=>D.nx (σ.set i (some v)) H2) Ew
theorem G7 {i : Nat} (hN : X.N.Nodup) (hi : X.N[i]? = some x) (hx : Loc X.env.scope x) (G : cG X.prog X.w X.K X.mg X.base (eM X.prog X.w) k g sp) (hr : cF k X.A) (hg : Gl X g) (ha : PA X.cO (e :: es) t)
   (hf:X.fn x=true∨X.env.scope.names.lookup x=some .local:=by first | exact .inl rfl | exact .inr rfl | assumption) (hdb:(g == ("__debug__" : Str))=false:=by decide)
   (he:starEach (e::es) X.env=(false,eval e X.env)::starEach es X.env:=by rfl) (hpl:(backTo cpos (starEach es X.env)).any (·.1)=false:=by rfl) :
   PB X [.Assign [.Name x py] (.Call (.Name g gp) (e::es) [] cpos) pos] (Dd sp i t):=by
 intro pins s σ H D Ew I h;refine wpAny_execs_cons (wpAny_Assign_Name (wpAny_mono (wU G hr hg ha I h hdb he hpl) (fun v s1 ⟨y,H1,I1,r1,q1⟩=>?_) fun _ _ z=>z) rfl);exact oY I1 hN hi hx r1 (fun s2 I2=>wpAny_execs_nil ⟨_,H1,I2,q1⟩) hf
end
end L3
namespace L3
open PySem PySem.Spec PyProof.Rows L2 PySem.SeqAt
section
variable {X:Cx} {pins:List (Addr×Obj)} {σ : St} {H H1 H':Hp} {s s1 s':Shared} {ea C:Addr}
theorem rR {h0 h5 : Heap} {l : List Addr} (I : Inv X pins σ H1 s1) (os : s'.os = s1.os) (bare : AllBare s'.gens) (u : Un (d0 X.stack) [] H1 H' s1.heap h0) (aG : dA X.prog X.w H' h0)
   (hl:∀ b∈l,H' b=none∧(b∈d0 X.stack∨s1.heap.objs.size≤b)) (k:(W.hideAll h0 l).StaysIn h5) (up:h0.UpToSlots h5):Inv X pins σ H' { s' with heap:=h5 } :=
 I.ko (s':={ s' with heap:=h5 }) os (B3 u (fun b hb=>(hl b hb).2) k up fun b hb=>⟨I.mS b hb,fun o q=>by
   obtain ⟨_,o',q',d⟩:=I.stack.mem hb;rw [q] at q';cases q';exact d⟩) (zO aG (fun b hb=>(hl b hb).1) k) bare (fun b z=>absurd z (by simp))
end
end L3
namespace L3
open PySem PySem.Spec PyProof.Rows L2 PySem.SeqAt PySem.W Builtin Builtin.ObjectAttr Builtin.Getset_descriptor
structure Vi (K:W.Frag) (C:Addr):Prop where
 cl:(W.clsIn K C).isSome=true
 ga:W.findIn K (.ref C) "__getattribute__" = some (some (.builtin "BaseException.__getattribute__"))
 gt:W.findIn K (.ref C) "__getattr__" = some none
 co:W.findIn K (.ref C) "__class__" = some (some (.builtin "object.__class__"))
 gs:W.specialIn K (.builtin "object.__class__") "__get__" = some (some (.builtin "getset_descriptor.__get__"))
 tk:W.takesIn K (.builtin "object.__class__")=some true
 mo:W.mroIn K C (.type "object")=some true
 mb:W.mroIn K C (.type "BaseException")=some true
end L3
namespace L3
open PySem PySem.Spec PyProof.Rows L2 PySem.SeqAt PySem.W Builtin Builtin.ObjectAttr Builtin.Getset_descriptor
section
variable {prog:Program} {w:World} {A:Around} {E:Value→Shared→Prop} {s:Shared} {K:W.Frag} {x C:Addr} {ox:Obj}
theorem iH {C:Addr} {E:XK} {t:TA} {D:Ends} {σ : L2.St} {H:Hp} (h:t σ H fun vs H1=>vs.length≤1000∧E (.ref C) none H1):Bi C E t D σ H:=h
end
end L3
namespace L3
open PySem PySem.Spec PyProof.Rows L2 PySem.SeqAt
end L3
namespace L3
open PySem PySem.Spec PyProof.Rows
abbrev f6 (h:Heap) (T:Addr) (a b c:Value):Prop:=h.get? T=some { cls:=.type "tuple",data:=.seq #[a,b,c] }
structure uH (z TI TO i1 i2 i3 t1 t2 t3:Addr):Prop where
 TIz:TI≠z
 TOz:TO≠z
 i1z:i1≠z
 i2z:i2≠z
 jU:i3≠z
 TITO:TI≠TO
 TIi1:TI≠i1
 TIi2:TI≠i2
 uD:TI≠i3
 TOi1:TO≠i1
 TOi2:TO≠i2
 ky:TO≠i3
 i12:i1≠i2
 Az:i1≠i3
 An:i2≠i3
 GC:t1≠z
 GA:t2≠z
 CO:t2≠TO
 Cu:t2≠i1
 Gr:t3≠z
 CL:t3≠TO
 CA:t3≠i1
 BG:t3≠i2
section
variable {prog:Program} {w:World} {A:Around} {E:Value→Shared→Prop} {s:Shared}
theorem ou {T : Addr} {a b c x : Value} {k : Nat} {Q : Unit → Shared → Prop} (hT : f6 s.heap T a b c)
   (h:∀ h',h'.get? T=some { cls:=.type "tuple",data:=.seq ((#[a,b,c]:Array Value).setIfInBounds k x) }→Heap.SameBut T s.heap h'→Q () { s with heap:=h' }) :
   wpAny (model prog w) A (updateSeq T (·.setIfInBounds k x)) Q E s:=by
 refine wpAny_updateSeq hT rfl (h _ ?_ (Heap.SameBut.update ..));rw [Heap.get?_update_self _ hT rfl];simp [Obj.mapSeq]
theorem Vk {z TI TO i1 i2 i3 t1 t2 t3 : Addr} {k : Nat} {xs ys zs : Array Value} {a b c : Value} {Q : Fin → Shared → Prop} (D : uH z TI TO i1 i2 i3 t1 t2 t3) (hz : IsZip s.heap z TI TO .none) (hTI : f6 s.heap TI (.ref i1) (.ref i2) (.ref i3)) (hTO : f6 s.heap TO a b c)
   (h1:s.heap.IsTupleIter i1 t1 k) (h2:s.heap.IsTupleIter i2 t2 k) (h3:s.heap.IsTupleIter i3 t3 k) (ht1:s.heap.IsTuple t1 xs) (ht2:s.heap.IsTuple t2 ys) (ht3:s.heap.IsTuple t3 zs)
   (q1 : ∀ x y u, xs[k]? = some x → ys[k]? = some y → zs[k]? = some u → ∀ h', IsZip h' z TI TO (rawInt s.heap.objs.size) → f6 h' TO x y u → h'.IsTupleIter i1 t1 (k + 1) → h'.IsTupleIter i2 t2 (k + 1) → h'.IsTupleIter i3 t3 (k + 1) → f6 h' s.heap.objs.size x y u →
     (∀ c o,c≠z→c≠TO→c≠i1→c≠i2→c≠i3→s.heap.get? c=some o→h'.get? c=some o)→Q (.done (.ret (.ref s.heap.objs.size))) { s with heap:=h' })
   (q2:(xs[k]? = none∨ys[k]? = none∨zs[k]? = none)→A.handled=none∧∀ h' e,(∀ c o,c≠z→c≠TO→c≠i1→c≠i2→c≠i3→s.heap.get? c=some o→h'.get? c=some o)→(∃ o,h'.get? e=some o∧o.cls=.type "StopIteration")→E (.ref e) { s with heap:=h' }) :
   wpAny (model prog w) A (Builtin.«zip.__next__» ⟨[.ref z],[]⟩) Q E s:=by
 show wpAny _ _ (field (.ref z) 2 >>= _) _ _ _;refine wpAny_bind (wpAny_field hz rfl (x:=.bool false) rfl ?_);show wpAny _ _ (field (.ref z) 3 >>= _) _ _ _;refine wpAny_bind (wpAny_field hz rfl (x:=.ref TI) rfl (wpAny_bind (wpAny_seqItems hTI rfl ?_)));show wpAny _ _ (Builtin.SmallTypes.ownedTupleIsFree (.ref z) >>= _) _ _ _;refine wpAny_bind ?_;unfold Builtin.SmallTypes.ownedTupleIsFree;refine wpAny_bind (wpAny_field hz rfl (x:=.none) rfl (wpAny_pure ?_));simp only [if_true];refine wpAny_bind (wpAny_rule (wpAny_bind (wpAny_field hz rfl (x:=.ref TO) rfl ?_)));refine wpAny_bind (wpAny_setField_rec hz (by simp) fun g1 hz1 s1=>?_);replace hz1:IsZip g1 z TI TO .ellipsis:=hz1;refine wpAny_bind ?_;simp only [List.zipIdx_cons,List.zipIdx_nil,List.forIn_cons,List.forIn_nil];refine wpAny_bind (wpAny_bind (wpAny_onRaise ?_));show wpAny _ _ (Builtin.SmallTypes.nextOf (.ref i1) >>= _) _ _ _;refine wpAny_bind (lD (h1.at fun o e=>s1.extBut _ o D.i1z e) (ht1.extBut s1.extBut D.GC) (fun x hx g2 h12 s2=>wpAny_pure ?_) fun hx=>?_)
 · have hO2 : f6 g2 TO a b c := s2.extBut _ _ D.TOi1 (s1.extBut _ _ D.TOz hTO);refine wpAny_bind (wpAny_seqItems hO2 rfl (wpAny_bind (ou hO2 fun g3 hO3 s3=>?_)));replace hO3:f6 g3 TO x b c:=hO3;refine wpAny_bind (wpAny_letGo (wpAny_pure ?_));refine wpAny_bind (wpAny_bind (wpAny_onRaise ?_));show wpAny _ _ (Builtin.SmallTypes.nextOf (.ref i2) >>= _) _ _ _;have k3:∀ c o,c≠z→c≠TO→c≠i1→s.heap.get? c=some o→g3.get? c=some o:=fun c o c1 c2 c3 e=>s3.extBut _ _ c2 (s2.extBut _ _ c3 (s1.extBut _ _ c1 e));have hz3:IsZip g3 z TI TO .ellipsis:=s3.extBut _ _ D.TOz.symm (s2.extBut _ _ D.i1z.symm hz1);refine wpAny_bind (lD (h2.at fun o e=>k3 _ o D.i2z D.TOi2.symm D.i12.symm e) (ht2.at fun o e=>k3 _ o D.GA D.CO D.Cu e) (fun y hy g4 h24 s4=>wpAny_pure ?_) fun hy=>?_)
   · have hO4 : f6 g4 TO x b c := s4.extBut _ _ D.TOi2 hO3;refine wpAny_bind (wpAny_seqItems hO4 rfl (wpAny_bind (ou hO4 fun g5 hO5 s5=>?_)));replace hO5:f6 g5 TO x y c:=hO5;refine wpAny_bind (wpAny_letGo (wpAny_pure ?_));refine wpAny_bind (wpAny_bind (wpAny_onRaise ?_));show wpAny _ _ (Builtin.SmallTypes.nextOf (.ref i3) >>= _) _ _ _;have k5:∀ c o,c≠z→c≠TO→c≠i1→c≠i2→s.heap.get? c=some o→g5.get? c=some o:=fun c o c1 c2 c3 c4 e=>s5.extBut _ _ c2 (s4.extBut _ _ c4 (k3 c o c1 c2 c3 e));have hz5:IsZip g5 z TI TO .ellipsis:=s5.extBut _ _ D.TOz.symm (s4.extBut _ _ D.i2z.symm hz3);refine wpAny_bind (lD (h3.at fun o e=>k5 _ o D.jU D.ky.symm D.Az.symm D.An.symm e) (ht3.at fun o e=>k5 _ o D.Gr D.CL D.CA D.BG e) (fun u hu g6 h36 s6=>wpAny_pure ?_) fun hu=>?_)
     · have hO6 : f6 g6 TO x y c := s6.extBut _ _ D.ky hO5;refine wpAny_bind (wpAny_seqItems hO6 rfl (wpAny_bind (ou hO6 fun g7 hO7 s7=>?_)));replace hO7:f6 g7 TO x y u:=hO7;refine wpAny_bind (wpAny_letGo (wpAny_pure (wpAny_pure ?_)));refine wpAny_bind (wpAny_seqItems hO7 rfl (wpAny_bind (wpAny_newTuple ?_)));have z7:g7.objs.size=s.heap.objs.size:=by rw [s7.1,s6.1,s5.1,s4.1,s3.1,s2.1,s1.1]
       have hz7:IsZip g7 z TI TO .ellipsis:=s7.extBut _ _ D.TOz.symm (s6.extBut _ _ D.jU.symm hz5);have k7:∀ c o,c≠z→c≠TO→c≠i1→c≠i2→c≠i3→s.heap.get? c=some o→g7.get? c=some o:=fun c o c1 c2 c3 c4 c5 e=>s7.extBut _ _ c2 (s6.extBut _ _ c5 (k5 c o c1 c2 c3 c4 e));have h17:g7.IsTupleIter i1 t1 (k+1):=h12.at fun o e=>s7.extBut _ _ D.TOi1.symm (s6.extBut _ _ D.Az (s5.extBut _ _ D.TOi1.symm (s4.extBut _ _ D.i12 (s3.extBut _ _ D.TOi1.symm e))));have h27:g7.IsTupleIter i2 t2 (k+1):=h24.at fun o e=>s7.extBut _ _ D.TOi2.symm (s6.extBut _ _ D.An (s5.extBut _ _ D.TOi2.symm e));have h37:g7.IsTupleIter i3 t3 (k+1):=h36.at fun o e=>s7.extBut _ _ D.ky.symm e;have zlt:z<g7.objs.size:=Heap.lt_size hz7;show wpAny _ _ (Builtin.SmallTypes.ownedTupleHandOut (.ref z) (.ref g7.objs.size) >>= _) _ _ _;refine wpAny_bind ?_;unfold Builtin.SmallTypes.ownedTupleHandOut;have hz8:IsZip (g7.push { cls:=.type "tuple",data:=.seq #[x,y,u] }) z TI TO .ellipsis:=Heap.get?_push_of_some _ hz7;refine wpAny_bind (wpAny_setField_rec hz8 (by simp) fun g9 hz9 s9=>?_);replace hz9:IsZip g9 z TI TO (rawInt g7.objs.size):=hz9;refine wpAny_setField_rec hz9 (by simp) fun ga hza sa=>?_;replace hza:IsZip ga z TI TO (rawInt g7.objs.size):=hza;have up:∀ c o,c≠z→g7.get? c=some o→ga.get? c=some o:=fun c o c1 e=>sa.extBut _ _ c1 (s9.extBut _ _ c1 (Heap.get?_push_of_some _ e));have hTa:f6 ga g7.objs.size x y u:=sa.extBut _ _ (Nat.ne_of_gt zlt) (s9.extBut _ _ (Nat.ne_of_gt zlt) (Heap.get?_push_size _ rfl));rw [z7] at hza hTa;refine wpAny_pure ?_;show Q (.done (.ret (.ref g7.objs.size))) _;rw [z7];exact q1 x y u hx hy hu ga hza (up _ _ D.TOz hO7) (h17.at fun o e=>up _ o D.i1z e) (h27.at fun o e=>up _ o D.i2z e) (h37.at fun o e=>up _ o D.jU e) hTa fun c o c1 c2 c3 c4 c5 e=>up c o c1 (k7 c o c1 c2 c3 c4 c5 e)
     · obtain ⟨hh, q2⟩ := q2 (.inr (.inr hu));refine ⟨hh,fun g6 e s6 he=>?_⟩;obtain ⟨oe,hoe,hce⟩:=he;have hz6:IsZip g6 z TI TO .ellipsis:=s6 _ _ D.jU.symm hz5;have hez:e≠z:=fun v=>by subst v;rw [hz6] at hoe;cases hoe;simp at hce
       exact wpAny_setField_rec hz6 (by simp) fun g7 _ s7=>q2 g7 e (fun c o c1 c2 c3 c4 c5 v=>s7.extBut _ _ c1 (s6 _ _ c5 (k5 c o c1 c2 c3 c4 v))) ⟨oe,s7.extBut _ _ hez hoe,hce⟩
   · obtain ⟨hh, q2⟩ := q2 (.inr (.inl hy));refine ⟨hh,fun g4 e s4 he=>?_⟩;obtain ⟨oe,hoe,hce⟩:=he;have hz4:IsZip g4 z TI TO .ellipsis:=s4 _ _ D.i2z.symm hz3;have hez:e≠z:=fun v=>by subst v;rw [hz4] at hoe;cases hoe;simp at hce
     exact wpAny_setField_rec hz4 (by simp) fun g5 _ s5=>q2 g5 e (fun c o c1 c2 c3 c4 _ v=>s5.extBut _ _ c1 (s4 _ _ c4 (k3 c o c1 c2 c3 v))) ⟨oe,s5.extBut _ _ hez hoe,hce⟩
 · obtain ⟨hh, q2⟩ := q2 (.inl hx);refine ⟨hh,fun g2 e s2 he=>?_⟩;obtain ⟨oe,hoe,hce⟩:=he;have hz2:IsZip g2 z TI TO .ellipsis:=s2 _ _ D.i1z.symm hz1;have hez:e≠z:=fun v=>by subst v;rw [hz2] at hoe;cases hoe;simp at hce
   exact wpAny_setField_rec hz2 (by simp) fun g3 _ s3=>q2 g3 e (fun c o c1 _ c3 _ _ v=>s3.extBut _ _ c1 (s2 _ _ c3 (s1.extBut _ _ c1 v))) ⟨oe,s3.extBut _ _ hez hoe,hce⟩
end
abbrev Tb (a b c:Value):Obj:={ cls:=.type "tuple",data:=.seq #[a,b,c] }
abbrev xF (h:Heap) (t u v:Addr):Heap:=(kH h t u).push (t6 v)
abbrev xp (h:Heap) (t u v:Addr):Heap:=(xF h t u v).push (Tb (.ref h.objs.size) (.ref (lK h t).objs.size) (.ref (kH h t u).objs.size))
abbrev w9 (h:Heap) (t u v:Addr):Heap:=(xp h t u v).push (Tb .none .none .none)
abbrev uT (h:Heap) (t u v:Addr):Heap:=(w9 h t u v).push { cls:=.type "zip",data:=.fields #[.none,.bool false,.bool false,.ref (xF h t u v).objs.size,.ref (xp h t u v).objs.size] }
set_option maxHeartbeats 4000000 in
theorem CV (t u v:Addr) (xs ys zs:Array Value):Meets (Builtin.«zip.__new__» ⟨[.type "zip",.ref t,.ref u,.ref v],[]⟩) (fun _ R s=>s.heap.IsTuple t xs∧s.heap.IsTuple u ys∧s.heap.IsTuple v zs∧R (.ok (.ret (.ref (w9 s.heap t u v).objs.size))) { s with heap:=uT s.heap t u v }) :=
 .of_wp fun prog w A R s h=>by
   obtain ⟨hp,g,d,tk,os⟩:=s;obtain ⟨hl1,hl2,hl3,h⟩:=h;have hsub:=sub_zip;have hL1:Heap.IsTuple (Shared.heap ⟨hp,g,d,tk,os⟩) t xs:=hl1;have hL2:Heap.IsTuple (Shared.heap ⟨hp.push (t6 t),g,d,tk,os⟩) u ys:=hl2.at fun o e=>Heap.get?_push_of_some _ e;have hL3:Heap.IsTuple (Shared.heap ⟨(hp.push (t6 t)).push (t6 u),g,d,tk,os⟩) v zs:=hl3.at fun o e=>Heap.get?_push_of_some _ (Heap.get?_push_of_some _ e)
   wp_walk using wpAny_pyIter_tuple hL1,wpAny_pyIter_tuple hL2,wpAny_pyIter_tuple hL3
   exact ⟨_,rfl,h⟩
theorem zM (a b c:Value):checkTypeCall "zip" ⟨[a,b,c],[]⟩=pure ():=by kernel_rfl
theorem zJ (a b c:Value):checkBuiltinCall "zip.__new__" ⟨[.type "zip",a,b,c],[]⟩=pure ():=by kernel_rfl
theorem AB (a b c d:Value):argsOk "object.__init__" ⟨[a,b,c,d],[]⟩:=by unfold argsOk;rw [signature?_of (id:="object.__init__") (n:=['_','_','t','i','n','i','_','_']) (o:=['t','c','e','j','b','o']) (by kernel_rfl) PySem.F.owner_object];kernel_rfl
section
variable {prog:Program} {w:World} {A:Around} {E:Value→Shared→Prop} {s:Shared}
theorem Cv {t u v : Addr} {xs ys zs : Array Value} {Q : Value → Shared → Prop} (h1 : s.heap.IsTuple t xs) (h2 : s.heap.IsTuple u ys) (h3 : s.heap.IsTuple v zs)
   (q : ∀ h' n, n = s.heap.objs.size → IsZip h' (n + 5) (n + 3) (n + 4) .none → f6 h' (n + 3) (.ref n) (.ref (n + 1)) (.ref (n + 2)) → f6 h' (n + 4) .none .none .none → h'.IsTupleIter n t 0 → h'.IsTupleIter (n + 1) u 0 → h'.IsTupleIter (n + 2) v 0 →
     (∀ c o,s.heap.get? c=some o→h'.get? c=some o)→Q (.ref (n+5)) { s with heap:=h' }):wpAny (model prog w) A (call (.type "zip") [.ref t,.ref u,.ref v]) Q E s:=by
 refine callType_new F.called_zip (by decide) (zM _ _ _) (zJ _ _ _) (fun obj=>AB obj _ _ _) F.entry_zip_new (CV t u v xs ys zs) ⟨h1,h2,h3,?_⟩;have z1:(lK s.heap t).objs.size=s.heap.objs.size+1:=Heap.size_push ..;have z2:(kH s.heap t u).objs.size=s.heap.objs.size+2:=by rw [Heap.size_push,z1]
 have z3:(xF s.heap t u v).objs.size=s.heap.objs.size+3:=by rw [Heap.size_push,z2]
 have z4:(xp s.heap t u v).objs.size=s.heap.objs.size+4:=by rw [Heap.size_push,z3]
 have z5:(w9 s.heap t u v).objs.size=s.heap.objs.size+5:=by rw [Heap.size_push,z4]
 have p6:∀ c o,(w9 s.heap t u v).get? c=some o→(uT s.heap t u v).get? c=some o:=fun c o e=>Heap.get?_push_of_some _ e;have p5:∀ c o,(xp s.heap t u v).get? c=some o→(uT s.heap t u v).get? c=some o:=fun c o e=>p6 c o (Heap.get?_push_of_some _ e);have p4:∀ c o,(xF s.heap t u v).get? c=some o→(uT s.heap t u v).get? c=some o:=fun c o e=>p5 c o (Heap.get?_push_of_some _ e);have p3:∀ c o,(kH s.heap t u).get? c=some o→(uT s.heap t u v).get? c=some o:=fun c o e=>p4 c o (Heap.get?_push_of_some _ e);have p2:∀ c o,(lK s.heap t).get? c=some o→(uT s.heap t u v).get? c=some o:=fun c o e=>p3 c o (Heap.get?_push_of_some _ e);have e6:(uT s.heap t u v).get? (w9 s.heap t u v).objs.size=some _:=Heap.get?_push_size _ rfl;have e5:=p6 _ _ (show (w9 s.heap t u v).get? (xp s.heap t u v).objs.size=some _ from Heap.get?_push_size _ rfl);have e4:=p5 _ _ (show (xp s.heap t u v).get? (xF s.heap t u v).objs.size=some _ from Heap.get?_push_size _ rfl);have e3:=p4 _ _ (show (xF s.heap t u v).get? (kH s.heap t u).objs.size=some _ from Heap.get?_push_size _ rfl);have e2:=p3 _ _ (show (kH s.heap t u).get? (lK s.heap t).objs.size=some _ from Heap.get?_push_size _ rfl);have e1:=p2 _ _ (show (lK s.heap t).get? s.heap.objs.size=some _ from Heap.get?_push_size _ rfl);rw [z3,z4,z5] at e6;rw [z4] at e5;rw [z3,z1,z2] at e4;rw [z2] at e3;rw [z1] at e2;show _∧_;rw [z5];exact ⟨⟨_,e6,rfl⟩,q _ _ rfl e6 e4 e5 ⟨_,e1,rfl,rfl⟩ ⟨_,e2,rfl,rfl⟩ ⟨_,e3,rfl,rfl⟩ fun c o x=>p2 c o (Heap.get?_push_of_some _ x)⟩
theorem wg {z TI TO i1 i2 i3 t1 t2 t3 : Addr} {k : Nat} {xs ys zs : Array Value} {a b c : Value} {Q : Option Value → Shared → Prop} (D : uH z TI TO i1 i2 i3 t1 t2 t3) (hz : IsZip s.heap z TI TO .none) (hTI : f6 s.heap TI (.ref i1) (.ref i2) (.ref i3)) (hTO : f6 s.heap TO a b c)
   (h1:s.heap.IsTupleIter i1 t1 k) (h2:s.heap.IsTupleIter i2 t2 k) (h3:s.heap.IsTupleIter i3 t3 k) (ht1:s.heap.IsTuple t1 xs) (ht2:s.heap.IsTuple t2 ys) (ht3:s.heap.IsTuple t3 zs)
   (q1 : ∀ x y u, xs[k]? = some x → ys[k]? = some y → zs[k]? = some u → ∀ h', IsZip h' z TI TO (rawInt s.heap.objs.size) → f6 h' TO x y u → h'.IsTupleIter i1 t1 (k + 1) → h'.IsTupleIter i2 t2 (k + 1) → h'.IsTupleIter i3 t3 (k + 1) → f6 h' s.heap.objs.size x y u →
     (∀ c o,c≠z→c≠TO→c≠i1→c≠i2→c≠i3→s.heap.get? c=some o→h'.get? c=some o)→Q (some (.ref s.heap.objs.size)) { s with heap:=h' })
   (q2:(xs[k]? = none∨ys[k]? = none∨zs[k]? = none)→A.handled=none∧∀ h',(∀ c o,c≠z→c≠TO→c≠i1→c≠i2→c≠i3→s.heap.get? c=some o→h'.get? c=some o)→Q none { s with heap:=h' }) :
   wpAny (model prog w) A (pyNext (.ref z)) Q E s:=by
 have hT:s.TypeIs (.ref z) "zip":=⟨_,hz,rfl⟩;unfold pyNext;refine wpAny_bind (wpAny_attempt (wpAny_callSpecial?_slot (name:=Str.ofString "__next__") hT F.slot_zip_next (wpAny_call_entry F.slot_zip_next hT F.entry_zip_next ?_ (F.args_zip_next_1 _))));refine Vk D hz hTI hTO h1 h2 h3 ht1 ht2 ht3 (fun x y u hx hy hu h' a1 a2 a3 a4 a5 a6 a7=>⟨_,rfl,wpAny_pure (q1 x y u hx hy hu h' a1 a2 a3 a4 a5 a6 a7)⟩) fun he=>⟨(q2 he).1,fun h' e kk ho=>?_⟩;obtain ⟨o,ho,hc⟩:=ho;exact wpAny_bind (wpAny_isInstance (T:="StopIteration") (b:=true) ⟨o,ho,hc⟩ isSubtype_stop (wpAny_pure ((q2 he).2 _ kk)))
end
end L3
namespace L3
open PySem PySem.Spec PyProof.Rows L2
def zl (K:W.Frag) (a b c:Addr):It :=
 ⟨fun i H => ∃ xs ys zs x y u, aZ K H a xs ∧ aZ K H b ys ∧ aZ K H c zs ∧ xs[i]? = some x ∧ ys[i]? = some y ∧ zs[i]? = some u,
  fun i H v H'=>∃ T x y u,v=.ref T∧H T=none∧H'=upd H T (.tup [x,y,u])∧∀ xs ys zs,aZ K H a xs→aZ K H b ys→aZ K H c zs→xs[i]? = some x∧ys[i]? = some y∧zs[i]? = some u,
  fun i H=>∃ xs ys zs,aZ K H a xs∧aZ K H b ys∧aZ K H c zs∧(xs.length≤i∨ys.length≤i∨zs.length≤i)⟩
theorem AA {P : Program} {w : World} {K : W.Frag} {es : List Expr} {n : Nat} {pos : Pos} {a b c z TI TO i1 i2 i3 : Addr} (D : uH z TI TO i1 i2 i3 a b c) :
   Turn P w K (.Tuple es n pos) (zl K a b c) [z,TI,TO,i1,i2,i3] z (fun i h=>IsZip h z TI TO .none∧f6 h TI (.ref i1) (.ref i2) (.ref i3)∧(∃ x y u,f6 h TO x y u)∧h.IsTupleIter i1 a i∧h.IsTupleIter i2 b i∧h.IsTupleIter i3 c i) where
 mem:=by simp
 obj:=fun i h st d hd=>by
   obtain ⟨hz,hI,⟨x,y,u,hO⟩,⟨o1,e1,_,d1⟩,⟨o2,e2,_,d2⟩,⟨o3,e3,_,d3⟩⟩:=st;have hd:d=z∨d=TI∨d=TO∨d=i1∨d=i2∨d=i3:=by simpa using hd
   rcases hd with rfl | rfl | rfl | rfl | rfl | rfl
   · exact ⟨_,hz,fun v e=>by cases e⟩
   · exact ⟨_,hI,fun v e=>by cases e⟩
   · exact ⟨_,hO,fun v e=>by cases e⟩
   · exact ⟨_,e1,fun v e=>by rw [d1] at e;cases e⟩
   · exact ⟨_,e2,fun v e=>by rw [d2] at e;cases e⟩
   · exact ⟨_,e3,fun v e=>by rw [d3] at e;cases e⟩
 keep:=fun i h h' st k=>by
   obtain ⟨hz,hI,⟨x,y,u,hO⟩,h1,h2,h3⟩:=st;exact ⟨k z (by simp) _ hz,k TI (by simp) _ hI,⟨x,y,u,k TO (by simp) _ hO⟩,h1.at fun o e=>k i1 (by simp) o e,h2.at fun o e=>k i2 (by simp) o e,h3.at fun o e=>k i3 (by simp) o e⟩
 item:=by
   intro X hP hw hK hc i pins s σ H E I hf st hg;subst hP hw hK;obtain ⟨hz,hI,⟨x0,y0,u0,hO⟩,h1,h2,h3⟩:=st;obtain ⟨xs,ys,zs,x,y,u,hq1,hq2,hq3,hx,hy,hu⟩:=hg;obtain ⟨its1,rv1,p1,_⟩:=I.tuple hq1;obtain ⟨its2,rv2,p2,_⟩:=I.tuple hq2;obtain ⟨its3,rv3,p3,_⟩:=I.tuple hq3;obtain ⟨ux,hux,rx⟩:=rv1.get hx;obtain ⟨uy,huy,ry⟩:=rv2.get hy;obtain ⟨uu,huu,ru⟩:=rv3.get hu;refine wg D hz hI hO h1 h2 h3 (show s.heap.IsTuple a its1.toArray from p1) (show s.heap.IsTuple b its2.toArray from p2) (show s.heap.IsTuple c its3.toArray from p3) (fun x' y' u' hx' hy' hu' h' z1 z2 z3 z4 z5 z6 kk=>?_) fun he=>?_
   · have e1 : x' = ux := by simpa [hux] using hx'.symm
     have e2:y'=uy:=by simpa [huy] using hy'.symm
     have e3:u'=uu:=by simpa [huu] using hu'.symm
     subst e1 e2 e3;refine ⟨_,rfl,wpAny_letOwnedTupleGo_zip z1 fun h2' hz2 s2=>?_⟩;have T0:H s.heap.objs.size=none:=I.aG.fresh (Nat.le_refl _);have tz:s.heap.objs.size≠z:=Nat.ne_of_gt (Heap.lt_size hz);have J:Inv X pins σ (upd H s.heap.objs.size (.tup [x,y,u])) { s with heap:=h2' }:=by
       refine jy (ch:=[z,TI,TO,i1,i2,i3]) I hf (Nat.le_refl _) (fun d o hd e=>?_) (fun d hd=>?_) ?_
       · have c1 : d ≠ z := fun q => hd (by simp [q]);exact s2.extBut _ _ c1 (kk d o c1 (fun q=>hd (by simp [q])) (fun q=>hd (by simp [q])) (fun q=>hd (by simp [q])) (fun q=>hd (by simp [q])) e)
       · have hd : d = z ∨ d = TI ∨ d = TO ∨ d = i1 ∨ d = i2 ∨ d = i3 := by simpa using hd
         rcases hd with rfl | rfl | rfl | rfl | rfl | rfl
         · exact ⟨_,hz2⟩
         · exact ⟨_,s2.extBut _ _ D.TIz (kk _ _ D.TIz D.TITO D.TIi1 D.TIi2 D.uD hI)⟩
         · exact ⟨_,s2.extBut _ _ D.TOz z2⟩
         · obtain ⟨o,e,_⟩:=z3;exact ⟨o,s2.extBut _ _ D.i1z e⟩
         · obtain ⟨o,e,_⟩:=z4;exact ⟨o,s2.extBut _ _ D.i2z e⟩
         · obtain ⟨o,e,_⟩:=z5;exact ⟨o,s2.extBut _ _ D.jU e⟩
       · exact ⟨by show 3≤sizeLine;decide,[x',y',u'],.cons rx (.cons ry (.cons ru .nil)),⟨_,s2.extBut _ _ tz z6,rfl,_,rfl⟩⟩
     refine ⟨.ref s.heap.objs.size,_,J,rfl,⟨_,x,y,u,rfl,T0,rfl,fun xs' ys' zs' q1 q2 q3=>?_⟩,⟨hz2,s2.extBut _ _ D.TIz (kk _ _ D.TIz D.TITO D.TIi1 D.TIi2 D.uD hI),⟨_,_,_,s2.extBut _ _ D.TOz z2⟩,z3.at fun o e=>s2.extBut _ _ D.i1z e,z4.at fun o e=>s2.extBut _ _ D.i2z e,z5.at fun o e=>s2.extBut _ _ D.jU e⟩,fun d hd=>?_⟩
     · rw [I.fZ q1 hq1,I.fZ q2 hq2,I.fZ q3 hq3];exact ⟨hx,hy,hu⟩
     · have hlt : d < s.heap.objs.size := by
         have hd:d=z∨d=TI∨d=TO∨d=i1∨d=i2∨d=i3:=by simpa using hd
         rcases hd with e | e | e | e | e | e <;> rw [e]
         · exact Heap.lt_size hz
         · exact Heap.lt_size hI
         · exact Heap.lt_size hO
         · obtain ⟨o,e,_⟩:=h1;exact Heap.lt_size e
         · obtain ⟨o,e,_⟩:=h2;exact Heap.lt_size e
         · obtain ⟨o,e,_⟩:=h3;exact Heap.lt_size e
       rw [aw (Nat.ne_of_lt hlt)];exact (hf d hd).1
   · exfalso
     rcases he with he | he | he
     · simp [hux] at he
     · simp [huy] at he
     · simp [huu] at he
 done:=by
   intro X hP hw hK hc i pins s σ H E I hf st hg;subst hP hw hK;obtain ⟨hz,hI,⟨x0,y0,u0,hO⟩,h1,h2,h3⟩:=st;obtain ⟨xs,ys,zs,hq1,hq2,hq3,hl⟩:=hg;obtain ⟨its1,rv1,p1,_⟩:=I.tuple hq1;obtain ⟨its2,rv2,p2,_⟩:=I.tuple hq2;obtain ⟨its3,rv3,p3,_⟩:=I.tuple hq3;have l1:=rv1.length;have l2:=rv2.length;have l3:=rv3.length;refine wg D hz hI hO h1 h2 h3 (show s.heap.IsTuple a its1.toArray from p1) (show s.heap.IsTuple b its2.toArray from p2) (show s.heap.IsTuple c its3.toArray from p3) (fun x' y' u' hx' hy' hu' h' z1 z2 z3 z4 z5 z6 kk=>?_) fun he=>⟨I.ok.hd hc,fun h' kk=>⟨rfl,?_⟩⟩
   · exfalso
     have g1:i<its1.length:=by simpa using (Array.getElem?_eq_some_iff.mp hx').1
     have g2:i<its2.length:=by simpa using (Array.getElem?_eq_some_iff.mp hy').1
     have g3:i<its3.length:=by simpa using (Array.getElem?_eq_some_iff.mp hu').1
     omega
   · have hnc : ∀ d o, d ∉ [z, TI, TO, i1, i2, i3] → s.heap.get? d = some o → h'.get? d = some o := fun d o hd e => kk d o (fun q => hd (by simp [q])) (fun q => hd (by simp [q])) (fun q => hd (by simp [q])) (fun q => hd (by simp [q])) (fun q => hd (by simp [q])) e;refine I.ko (s':={ s with heap:=h' }) (ch:=[z,TI,TO,i1,i2,i3]) rfl ⟨fun b o e _ _ hc=>hnc b o hc e,fun b o e _ _ hc=>⟨o.slots,hnc b o hc e⟩,fun b o e n _=>n,fun b o e hc=>⟨o,hnc b o hc e⟩,fun _ _ e=>e,fun _ _ _ e=>e,fun b ps e=>⟨#[],by rw [e];simp⟩⟩ (fun b u e=>?_) I.bare ?_
     · have nc : ∀ b u, H b = some u → b ∉ [z, TI, TO, i1, i2, i3] := fun b u e hb => by rw [(hf b hb).1] at e; cases e
       refine (I.aG b u e).iq (fun d v hd q=>hnc d v ?_ q) (fun _ q=>q) fun _ _ q=>q;rcases hd with q | q
       · rw [q];exact nc b u e
       · exact nc d _ q
     · intro b hb;obtain ⟨f0,f1,f2,f3,f4,f5⟩:=hf b hb;exact ⟨f3,f1,f4,f5⟩
 self:=fun _ _ _ _ _ st h=>wpAny_pyIter_zip st.1 h
def Dq (K:W.Frag) (ta:TA):TI:=fun σ H R=>ta σ H fun vs H1=>∃ a b c xs ys zs,vs=[.ref a,.ref b,.ref c]∧aZ K H1 a xs∧aZ K H1 b ys∧aZ K H1 c zs∧R (zl K a b c) H1
theorem E9 {K:W.Frag} {ta:TA} {σ : St} {H:Hp} {R:It→Hp→Prop} (q:ta σ H fun vs H1=>∃ a b c xs ys zs,vs=[.ref a,.ref b,.ref c]∧aZ K H1 a xs∧aZ K H1 b ys∧aZ K H1 c zs∧R (zl K a b c) H1):Dq K ta σ H R:=q
theorem DX {X : Cx} {K : W.Frag} {es : List Expr} {n : Nat} {tpos : Pos} {a b c : Expr} {ta : TA} {p pos : Pos} (hK : X.K = K) (hg : Gl X "zip") (hm : X.mg "zip" = none) (ha : PA X [a, b, c] ta)
   (hs:starEach [a,b,c] X.env=[(false,eval a X.env),(false,eval b X.env),(false,eval c X.env)]:=by rfl) (hs2:starEach [b,c] X.env=[(false,eval b X.env),(false,eval c X.env)]:=by rfl) :
   PI X (.Tuple es n tpos) (.Call (.Name "zip" p) [a,b,c] [] pos) (Dq K ta):=by
 subst hK;intro pins s σ H R I h;refine Call_ (gb I hg hm tX (PyProof.Rows.callWith_type1 (br (ha pos pins s σ H _ I h) fun us s1 ⟨vs,H1,I1,r1,q1⟩=>?_) (by rw [hs,hs2]) (by rw [hs2];rfl)));obtain ⟨x,y,u,xs,ys,zs,e,hx,hy,hu,q⟩:=q1;subst e;cases r1 with
 | cons r rr =>
   cases rr with
   | cons r' rr =>
     cases rr with
     | cons r'' rr =>
       cases rr
       cases r
       cases r'
       cases r''
       obtain ⟨its1,rv1,p1,_⟩:=I1.tuple hx;obtain ⟨its2,rv2,p2,_⟩:=I1.tuple hy;obtain ⟨its3,rv3,p3,_⟩:=I1.tuple hu;have lx:x<s1.heap.objs.size:=p1.lt;have ly:y<s1.heap.objs.size:=p2.lt;have lu:u<s1.heap.objs.size:=p3.lt;refine Cv (show s1.heap.IsTuple x its1.toArray from p1) (show s1.heap.IsTuple y its2.toArray from p2) (show s1.heap.IsTuple u its3.toArray from p3) fun h' m hm' z1 z2 z3 z4 z5 z6 kk=>?_;subst hm';refine wpAny_pyIter_zip z1 ⟨_,[s1.heap.objs.size+5,s1.heap.objs.size+3,s1.heap.objs.size+4,s1.heap.objs.size,s1.heap.objs.size+1,s1.heap.objs.size+2],_,_,H1,rfl,I1.kept (t':=s1.toks) kk,AA ⟨?_,?_,?_,?_,?_,?_,?_,?_,?_,?_,?_,?_,?_,?_,?_,?_,?_,?_,?_,?_,?_,?_,?_⟩,⟨z1,z2,⟨_,_,_,z3⟩,z4,z5,z6⟩,fun d hd=>?last,q⟩
       case last =>
         have hd:d=s1.heap.objs.size+5∨d=s1.heap.objs.size+3∨d=s1.heap.objs.size+4∨d=s1.heap.objs.size∨d=s1.heap.objs.size+1∨d=s1.heap.objs.size+2:=by simpa using hd
         have hge:s1.heap.objs.size≤d:=by rcases hd with e | e | e | e | e | e <;> rw [e] <;> first | exact Nat.le_add_right _ _ | exact Nat.le_refl _
         exact I1.jC hge (I1.aG.fresh hge)
       all_goals (intro e;have e' : @Eq Nat _ _:=e;have lx' : @LT.lt Nat _ _ _:=lx;have ly' : @LT.lt Nat _ _ _:=ly;have lu' : @LT.lt Nat _ _ _:=lu;omega)
theorem Cf {K : W.Frag} {a b c : Addr} {xs ys zs : List V} {g : TG} {tb : TS} {D : Ends} {σ : St} {H : Hp} (hy : ys.length = xs.length) (hz : zs.length = xs.length) (Pv : Nat → St → Hp → Prop) (h0 : Pv 0 σ H) (hl : ∀ i σ H, i ≤ xs.length → Pv i σ H → aZ K H a xs ∧ aZ K H b ys ∧ aZ K H c zs)
   (hs:∀ i x y u T σ H,xs[i]? = some x→ys[i]? = some y→zs[i]? = some u→Pv i σ H→H T=none→g (.ref T) σ (upd H T (.tup [x,y,u])) fun σ2 H2=>tb { D with nx:=Pv (i+1),ct:=Pv (i+1),bk:=D.nx } σ2 H2) (hd:∀ σ H,Pv xs.length σ H→D.nx σ H):BJ (zl K a b c) g tb D σ H:=by
 refine ⟨fun i m σ H=>m=xs.length - i∧i≤xs.length∧Pv i σ H,⟨xs.length,by simp,Nat.zero_le _,h0⟩,?_⟩;rintro i m σ H ⟨rfl,hi,p⟩;obtain ⟨q1,q2,q3⟩:=hl i σ H hi p;by_cases hlt:i<xs.length
 · refine .inr ⟨⟨xs, ys, zs, xs[i], ys[i], zs[i], q1, q2, q3, by simp [hlt], by simp [hy, hlt], by simp [hz, hlt]⟩, Pv (i + 1), fun σ' H' p' => ⟨xs.length - (i + 1), by omega, rfl, hlt, p'⟩, fun x H' y => ?_⟩;obtain ⟨T,x',y',u',rfl,hT,rfl,hxy⟩:=y;obtain ⟨r1,r2,r3⟩:=hxy _ _ _ q1 q2 q3;exact hs i x' y' u' T σ H r1 r2 r3 p hT
 · have e : i = xs.length := by omega
   subst e;exact .inl ⟨⟨xs,ys,zs,q1,q2,q3,.inl (Nat.le_refl _)⟩,hd σ H p⟩
end L3
namespace L3
open PySem PySem.Spec PyProof.Rows L2 PySem.SeqAt
theorem mv : ∀ {vs : List Value} {ns : List Int}, IntsAre vs ns → a_ (ns.map V.int) vs
 | [],_,h=>by cases h;exact .nil
 | _::_,_,h=>by cases h with | cons n t h=>exact .cons ⟨_,rfl⟩ (mv h)
theorem qS : ∀ {vs : List Value} {ns : List Int}, vs.length = ns.length → (∀ (j : Nat) (v : Value), vs[j]? = some v → ∃ n t, ns[j]? = some n ∧ v = .int n t) → IntsAre vs ns
 | [],[],_,_=>.nil
 | [],_::_,h,_=>by simp at h
 | _::_,[],h,_=>by simp at h
 | v :: vs, n :: ns, hl, h => by
   obtain ⟨n',t,e1,e2⟩:=h 0 v rfl;simp only [List.getElem?_cons_zero,Option.some.injEq] at e1;subst e1 e2;exact .cons _ _ (qS (by simpa using hl) fun j u hu=>by
     obtain ⟨n2,t2,e3,e4⟩:=h (j+1) u (by simpa using hu);exact ⟨n2,t2,by simpa using e3,e4⟩)
def Au : List V → Hp → VK → Prop := fun xs H Q => ∃ (a : Addr) (kvs : List (Key × V)) (ks : List Int), xs = [.ref a] ∧ Rd H a (.dK kvs) ∧ kvs.map (·.1) = ks.map Sum.inl ∧ ks.length < 64 ∧
 ∀ (ks':List Int) (p:Addr),ks'.Perm ks→ks'.Pairwise (· ≤ ·)→H p=none→Q (.ref p) (upd H p (.lst (ks'.map V.int)))
theorem vx {X:Cx} (hc:X.calm=true):cR X (.builtin "sorted") Au:=by
 intro pins s σ H xs us Q I r h;obtain ⟨a,kvs,ks,rfl,e,hk,h64,q⟩:=h;obtain ⟨u,rfl,rx⟩:=vals1 r;cases rx
 have hh:X.A.handled=none:=I.ok.hd hc;obtain ⟨z,hd,vs,rel,dd⟩:=gS I.aG e;obtain ⟨ep,hat⟩:=dd.dictAt;have hlv:vs.length=ks.length:=by rw [← rel.length,← List.length_map (f:=(·.1)) (as:=kvs),hk,List.length_map]
 refine Calls.call_function_entry kind_sorted plain_sorted entry_sorted (args_sorted1 _) ?_;unfold Builtin.«sorted»;refine wpAny_bind (m:=checkCount "sorted" 1 1 _) (wpAny_pure ?_);refine wpAny_bind (W.kdu_collect (A:=X.A.in1) (W.kdl_dict (knd:=cX X.prog X.w) (kvs:=vs) (ep:=ep) hd) hh hat (by rw [hlv,sizeLine_eq];omega) fun h' tk acc hk' hacc=>?_);have hl:acc.toList.length=ks.length:=by rw [Array.length_toList,← hlv];exact hacc.1
 have hI:IntsAre acc.toList ks:=qS hl fun j v hv=>by
   obtain ⟨k,x,e1,e2⟩:=hacc.2 j v (by rw [← Array.getElem?_toList];exact hv);have e3:(kvs.map (·.1))[j]? = some k:=by
     have e4:∀ {kvs:List (Key×V)} {vs:List (Key×Value)},KV kvs vs→kvs.map (·.1)=vs.map (·.1):=fun r=>by
       unfold KV at r
       induction r with
       | nil=>rfl
       | cons r1 r2 ih=>rw [List.map_cons,List.map_cons,r1.1,ih]
     rw [e4 rel,List.getElem?_map,e1];rfl
   rw [hk,List.getElem?_map] at e3;obtain ⟨n,e5,e6⟩:=Option.map_eq_some_iff.mp e3;rcases cD e2 with ⟨i,t,e7,e8⟩ | ⟨x,t,e7,e8⟩
   · rw [e7] at e6;cases e6
     exact ⟨_,t,e5,e8⟩
   · rw [e7] at e6;cases e6
 refine wpAny_bind (wpAny_newList ?_ (by rw [hl,sizeLine_eq];omega));have hoL:(h'.push (seqObj "list" acc.toList.toArray 0)).get? h'.objs.size=some (seqObj "list" acc.toList.toArray 0):=Heap.get?_push_size _ rfl;show wpAny _ _ _ _ _ { s with heap:=h'.push (seqObj "list" acc.toList.toArray 0),toks:=tk };refine wpAny_bind (wpAny_holding (wpAny_call_entry slot_list_sort ⟨_,hoL,rfl⟩ entry_list_sort (list_sort_tree hoL hI (by omega) fun out ns' a1 a2 a3=>⟨_,rfl,?_⟩) (args_list_sort _)));have I1:Inv X pins σ H { s with heap:=h',toks:=tk }:=I.un (Un.kept hk') (I.aG.kept hk');obtain ⟨e9,he⟩:=sortedHeap_at (out:=out) hoL;have hn:H h'.objs.size=none:=I1.aG.fresh (Nat.le_refl _);refine wpAny_pure ⟨_,rfl,.ref h'.objs.size,_,I1.laid (o:=.lst (ns'.map V.int)) (fun b o hb'=>?_) (Nat.le_refl _) ⟨?_,out.toList,e9,mv a1,?_⟩,rfl,q ns' _ a2 a3 hn⟩
 · have hlt := Heap.lt_size hb';rw [sortedHeap_old (Nat.ne_of_lt hlt) (by rw [size_push'];exact Nat.lt_succ_of_lt hlt)];exact Heap.get?_push_of_some _ hb'
 · rw [List.length_map,a2.length_eq,sizeLine_eq];omega
 · exact he
theorem D9 {a : Addr} {kvs : List (Key × V)} {ks : List Int} {H : Hp} {Q : VK} (h : H a = some (.dK kvs)) (hk : kvs.map (·.1) = ks.map Sum.inl) (hl : ks.length < 64)
   (q:∀ (ks':List Int) (p:Addr),ks'.Perm ks→ks'.Pairwise (· ≤ ·)→H p=none→Q (.ref p) (upd H p (.lst (ks'.map V.int)))):Au [.ref a] H Q:=⟨a,kvs,ks,rfl,.inl h,hk,hl,q⟩
end L3
namespace L3
open PySem PySem.Spec PyProof.Rows L2 PySem.SeqAt
end L3
namespace FB
open PySem PySem.Spec PyProof.Rows L2 L3 PySem.SeqAt
inductive Rw where
 | set (b n:Int) | copy (b o:Int) | add (b o t:Int) | sub (b o t:Int) | mul (b o t:Int) | less (b o t:Int)
 | grow (m:Int) | shrink (m:Int) | put (b c:Int) | get (b c:Int)
 | dD (t:Int) | branch (b t:Int) | call (t:Int) | back (b:Int) | drop (b:Int)
def aU (b:Int):Prop:=0≤b∧b≤7
def isVal (n:Int):Prop:=0≤n∧n≤4294967295
def aM (n:Int):Prop:=0≤n∧n≤4000
def bb (n:Int):Prop:=0≤n∧n≤2000
def Rw.ok : Rw → Prop
 | .set b n=>aU b∧isVal n
 | .copy b o=>aU b∧aU o
 | .add b o t | .sub b o t | .mul b o t | .less b o t=>aU b∧aU o∧aU t
 | .grow m | .shrink m=>aM m
 | .put b c | .get b c=>aU b∧aM c
 | .dD t | .call t=>bb t
 | .branch b t=>aU b∧bb t
 | .back b | .drop b=>aU b
def gI (xs:List Int) (i:Int):Int:=xs.getD i.toNat 0
def sI (xs:List Int) (i v:Int):List Int:=xs.set i.toNat v
theorem A7 (xs:List Int) (i v:Int):(sI xs i v).length=xs.length:=by unfold sI;exact List.length_set ..
theorem RD {xs:List Int} {i:Int} (h0 : 0≤i) (h1:i<xs.length):dz (xs.map V.int) i=some (.int (gI xs i)):=by
 have e:i=((i.toNat:Nat):Int):=by omega
 have hl:i.toNat<xs.length:=by omega
 have z:dz (xs.map V.int) ((i.toNat:Nat):Int)=some (.int (gI xs i)):=cn (by
   rw [List.getElem?_map,List.getElem?_eq_getElem hl];simp [gI,List.getD,List.getElem?_eq_getElem hl])
 rw [← e] at z;exact z
theorem ve {xs:List V} {i:Int} (h0 : 0≤i) (h1:i<xs.length):j_ xs.length i=some i.toNat:=by
 unfold j_;rw [if_pos h0,if_pos h1]
theorem Ge {K:W.Frag} {p:Addr} {xs:List Int} {H:Hp} {Q:VK} (h:aA K H p (xs.map V.int)) (q:Q (.int xs.length) H):mB K [.ref p] H Q:=fJ h (by rw [List.length_map];exact q)
def de (xs:List Int) (lo hi:Option Int):List Int:=(xs.drop (HT.bD xs.length 0 lo)).take (HT.bD xs.length xs.length hi - HT.bD xs.length 0 lo)
theorem BK (xs:List Int) (lo hi:Option Int):ip (xs.map V.int) lo hi=(de xs lo hi).map V.int:=by
 unfold ip de;rw [List.length_map,List.map_take,List.map_drop]
theorem uZ (xs:List Int) (lo hi:Option Int):(de xs lo hi).length≤xs.length:=by
 unfold de;rw [List.length_take,List.length_drop];omega
theorem lA (xs:List Int) {k:Int} (h0 : 0≤k):de xs none (some k)=xs.take k.toNat:=by
 unfold de;have e:HT.bD xs.length 0 none=0:=rfl;have e2:HT.bD xs.length xs.length (some k)=min k.toNat xs.length:=by
   show (if k<0 then _ else _)=_;rw [if_neg (by omega)]
 rw [e,e2,List.drop_zero,Nat.sub_zero];rcases Nat.le_total k.toNat xs.length with h | h
 · rw [Nat.min_eq_left h]
 · rw [Nat.min_eq_right h,List.take_length,List.take_of_length_le h]
theorem S5 {K:W.Frag} {p:Addr} {xs:List Int} {lo hi:Option Int} {H:Hp} {Q:VK} (h:aA K H p (xs.map V.int)) (q:∀ l,H l=none→Q (.ref l) (upd H l (.lst ((de xs lo hi).map V.int)))):oR K (.ref p) lo hi H Q :=
 C4 h (by rw [BK];exact q)
def Rw.dM : Rw → Int → List Int
 | .dD t,_=>[t]
 | .branch _ t,a=>[a+1,t]
 | .back _,_=>[]
 | .drop _,_=>[]
 | _,a=>[a+1]
theorem CM (r:Rw) (n:Int):(r.dM n).length≤2:=by cases r <;> simp [Rw.dM]
def Rw.aY : Rw → Int → Option Int
 | .grow m,h=>if h+m > 4000 then none else some (h+m)
 | .shrink m,h=>if h<m then none else some (h - m)
 | .put _ c,h=>if h≤c then none else some h
 | .get _ c,h=>if h≤c then none else some h
 | _,h=>some h
def gr (s p src:Nat):Nat:=if s &&& src=0 then Bt.wo s p else s ||| p
def Rw.keep : Rw → Nat → Int → Nat
 | .set b _,s,_ | .add b _ _,s,_ | .sub b _ _,s,_ | .mul b _ _,s,_ | .less b _ _,s,_=>Bt.wo s (2 ^ b.toNat)
 | .copy b o,s,_=>gr s (2 ^ b.toNat) (2 ^ o.toNat)
 | .shrink m,s,h=>Bt.wo s ((2 ^ m.toNat - 1)*2 ^ (8+h - m).toNat)
 | .put b c,s,h=>gr s (2 ^ (8+h - 1 - c).toNat) (2 ^ b.toNat)
 | .get b c,s,h=>gr s (2 ^ b.toNat) (2 ^ (8+h - 1 - c).toNat)
 | .call _,s,_=>Bt.wo s 143
 | _,s,_=>s
def Rw.jI : Rw → Str × List Int
 | .set b n=>("set",[b,n])
 | .copy b o=>("copy",[b,o])
 | .add b o t=>("add",[b,o,t])
 | .sub b o t=>("sub",[b,o,t])
 | .mul b o t=>("mul",[b,o,t])
 | .less b o t=>("less",[b,o,t])
 | .grow m=>("grow",[m])
 | .shrink m=>("shrink",[m])
 | .put b c=>("put",[b,c])
 | .get b c=>("get",[b,c])
 | .dD t=>("jump",[t])
 | .branch b t=>("branch",[b,t])
 | .call t=>("call",[t])
 | .back b=>("back",[b])
 | .drop b=>("drop",[b])
def Rw.lj : Rw → List (Str × V)
 | .set b n=>aL "number" (.int n) (aL "box" (.int b) [])
 | .copy b o=>aL "one" (.int o) (aL "box" (.int b) [])
 | .add b o t | .sub b o t | .mul b o t | .less b o t=>aL "other" (.int t) (aL "one" (.int o) (aL "box" (.int b) []))
 | .grow m | .shrink m=>aL "many" (.int m) []
 | .put b c | .get b c=>aL "cell" (.int c) (aL "box" (.int b) [])
 | .dD t | .call t=>aL "target" (.int t) []
 | .branch b t=>aL "target" (.int t) (aL "box" (.int b) [])
 | .back b | .drop b=>aL "box" (.int b) []
structure cM where
 Wn:Addr
 di:Addr
 cE:Addr
 c7:Addr
 NI:Addr
 JQ:Addr
 Fl:Addr
 cL:Addr
 bZ:Addr
 dk:Addr
 dj:Addr
 cJ:Addr
 bV:Addr
 bq:Addr
 bC:Addr
 cK:Addr
 Hi:Addr
 Nv:Addr
 E7:Addr
 Eh:Addr
 fh:Addr
 UZ:Addr
 bT:Addr
 Tr:Addr
 Tu:Addr
 VH:Addr
 Hh:Addr
 Uu:Addr
 Vc:Addr
 f_:Addr
 VX:Addr
 Va:Addr
 gq:Addr
 gY:Addr
 VW:Addr
 Hj:Addr
def Rw.cls (a : cM) : Rw → Addr
 | .set ..=>a.di
 | .copy ..=>a.cE
 | .add ..=>a.c7
 | .sub ..=>a.NI
 | .mul ..=>a.JQ
 | .less ..=>a.Fl
 | .grow ..=>a.cL
 | .shrink ..=>a.bZ
 | .put ..=>a.dk
 | .get ..=>a.dj
 | .dD ..=>a.cJ
 | .branch ..=>a.bV
 | .call ..=>a.bq
 | .back ..=>a.bC
 | .drop ..=>a.cK
def bX (a:cM) (H:Hp) (p:Addr) (r:Rw):Prop:=∃ dx,H p=some (.ins (r.cls a) dx r.lj)
theorem bX.same {a:cM} {H H':Hp} {p:Addr} {r:Rw} (h:bX a H p r) (s:au H H'):bX a H' p r:=let ⟨dx,e⟩:=h;⟨dx,s _ _ e⟩
def mn:Sp:=fun vs H Q _=>∃ n top:Int,vs=[.int n,.int top]∧0≤n∧n≤top∧Q (.int n) H
def qa (H:Hp) (x dx C:Addr) (fs:List (Str×V)) (Q:VK):Prop:=H x=some (.ins C dx [])∧∀ H',(∀ b o,H b=some o→b≠x→H' b=some o)→H' x=some (.ins C dx fs)→Q .aR H'
def eP (C:Addr) (mk:Int→Rw):Sp:=fun vs H Q _=>∃ (x dx:Addr) (i:Int),vs=[.ref x,.int i]∧(mk i).ok∧qa H x dx C (mk i).lj Q
def eZ (C:Addr) (mk:Int→Int→Rw):Sp:=fun vs H Q _=>∃ (x dx:Addr) (i j:Int),vs=[.ref x,.int i,.int j]∧(mk i j).ok∧qa H x dx C (mk i j).lj Q
def vL (C:Addr) (mk:Int→Int→Int→Rw):Sp:=fun vs H Q _=>∃ (x dx:Addr) (i j k:Int),vs=[.ref x,.int i,.int j,.int k]∧(mk i j k).ok∧qa H x dx C (mk i j k).lj Q
theorem xx {C : Addr} {a : cM} {r : Rw} {H : Hp} {Q : VK} (hc : r.cls a = C) (q : ∀ p H', au H H' → H p = none → bX a H' p r → Q (.ref p) H') {x dx : Addr} (hx : H x = none) (hdx : H dx = none) :
   qa (upd (upd H dx (.own x)) x (.ins C dx [])) x dx C r.lj (fun v H2=>v=.aR∧Q (.ref x) H2):=by
 refine ⟨ae,fun H' kp hH'=>⟨rfl,q x H' (fun b o e=>?_) hx ⟨dx,by rw [hc];exact hH'⟩⟩⟩;exact kp b o (by rw [aw (aq e hx),aw (aq e hdx)];exact e) (aq e hx)
theorem va {C : Addr} {mk : Int → Int → Rw} {a : cM} {i j : Int} {H : Hp} {Q : VK} {E : XK} (hk : (mk i j).ok) (hc : (mk i j).cls a = C) (q : ∀ p H', au H H' → H p = none → bX a H' p (mk i j) → Q (.ref p) H') :
   ∀ x dx,H x=none→H dx=none→dx≠x→eZ C mk (.ref x::[.int i,.int j]) (upd (upd H dx (.own x)) x (.ins C dx [])) (fun v H2=>v=.aR∧Q (.ref x) H2) E:=fun x dx hx hdx _=>⟨x,dx,i,j,rfl,hk,xx hc q hx hdx⟩
theorem G_ {C : Addr} {mk : Int → Int → Int → Rw} {a : cM} {i j k : Int} {H : Hp} {Q : VK} {E : XK} (hk : (mk i j k).ok) (hc : (mk i j k).cls a = C) (q : ∀ p H', au H H' → H p = none → bX a H' p (mk i j k) → Q (.ref p) H') :
   ∀ x dx,H x=none→H dx=none→dx≠x→vL C mk (.ref x::[.int i,.int j,.int k]) (upd (upd H dx (.own x)) x (.ins C dx [])) (fun v H2=>v=.aR∧Q (.ref x) H2) E:=fun x dx hx hdx _=>⟨x,dx,i,j,k,rfl,hk,xx hc q hx hdx⟩
theorem mm {H:Hp} {x:Addr} {o1 o2:HO}:∀ b o,H b=some o→b≠x→upd (upd H x o1) x o2 b=some o:=fun b o e ne=>by rw [aw ne,aw ne];exact e
theorem ke {H:Hp} {x:Addr} {o1:HO}:∀ b o,H b=some o→b≠x→upd H x o1 b=some o:=fun b o e ne=>by rw [aw ne];exact e
theorem CJ {H:Hp} {x:Addr} {o1 o2 o3:HO}:∀ b o,H b=some o→b≠x→upd (upd (upd H x o1) x o2) x o3 b=some o:=fun b o e ne=>by rw [aw ne,aw ne,aw ne];exact e
def cj (a:cM) (r:Rw):Sp:=fun vs H Q _=>∃ (x:Addr) (n:Int),vs=[.ref x,.int n]∧bX a H x r∧∀ p,H p=none→Q (.ref p) (upd H p (.lst ((r.dM n).map V.int)))
def cv : Option Int → V
 | none=>.aR
 | some i=>.int i
def bE (a:cM) (r:Rw):Sp:=fun vs H Q _=>∃ (x:Addr) (h:Int),vs=[.ref x,.int h]∧bX a H x r∧Q (cv (r.aY h)) H
def bU (a:cM) (r:Rw):Sp:=fun vs H Q _=>∃ (x:Addr) (s:Nat) (h:Int),vs=[.ref x,.int (s:Int),.int h]∧bX a H x r∧r.ok∧0≤h∧h≤4000∧(r.aY h).isSome=true∧Q (.int (r.keep s h:Nat)) H
def qY:Sp:=fun vs H Q _=>∃ b:Int,vs=[.int b]∧0≤b∧b≤7∧Q (.int ((2 ^ b.toNat:Nat):Int)) H
def oI:Sp:=fun vs H Q _=>∃ c h:Int,vs=[.int c,.int h]∧0≤c∧c<h∧h≤4000∧Q (.int ((2 ^ (8+h - 1 - c).toNat:Nat):Int)) H
def lO:Sp:=fun vs H Q _=>∃ s p:Nat,vs=[.int (s:Int),.int (p:Int)]∧Q (.int (Bt.wo s p:Nat)) H
def oW:Sp:=fun vs H Q _=>∃ s p t:Nat,vs=[.int (s:Int),.int (p:Int),.int (t:Int)]∧Q (.int (gr s p t:Nat)) H
theorem EI {b:Int} {H:Hp} {Q:VK} {E:XK} (h0 : 0≤b) (h1:b≤7) (q:Q (.int ((2 ^ b.toNat:Nat):Int)) H):qY [.int b] H Q E:=⟨b,rfl,h0,h1,q⟩
theorem CT {c h:Int} {H:Hp} {Q:VK} {E:XK} (h0 : 0≤c) (h1:c<h) (h2:h≤4000) (q:Q (.int ((2 ^ (8+h - 1 - c).toNat:Nat):Int)) H):oI [.int c,.int h] H Q E:=⟨c,h,rfl,h0,h1,h2,q⟩
theorem rF {s p:Nat} {H:Hp} {Q:VK} {E:XK} (q:Q (.int (Bt.wo s p:Nat)) H):lO [.int (s:Int),.int (p:Int)] H Q E:=⟨s,p,rfl,q⟩
theorem CH {s p t:Nat} {H:Hp} {Q:VK} {E:XK} (q:Q (.int (gr s p t:Nat)) H):oW [.int (s:Int),.int (p:Int),.int (t:Int)] H Q E:=⟨s,p,t,rfl,q⟩
theorem AW {n top:Int} {H:Hp} {Q:VK} {E:XK} (h0 : 0≤n) (h1:n≤top) (q:Q (.int n) H):mn [.int n,.int top] H Q E:=⟨n,top,rfl,h0,h1,q⟩
def cellAt (ns:List Int) (k:Int):Int:=ns.getD k.toNat 0
def gO (K:W.Frag):Sp:=fun vs H Q _=>∃ (p:Addr) (ns:List Int) (k:Int),vs=[.ref p,.int k]∧aA K H p (ns.map V.int)∧0≤k∧Q (.int (cellAt ns k)) H
theorem B2 {K:W.Frag} {p:Addr} {ns:List Int} {k:Int} {H:Hp} {Q:VK} {E:XK} (h:aA K H p (ns.map V.int)) (h0 : 0≤k) (q:Q (.int (cellAt ns k)) H):gO K [.ref p,.int k] H Q E:=⟨p,ns,k,rfl,h,h0,q⟩
theorem yL {ns:List Int} {k:Int} (h0 : 0≤k) (h : ¬ k<ns.length):cellAt ns k=0:=by
 unfold cellAt;rw [List.getD_eq_getElem?_getD,List.getElem?_eq_none (by omega)];rfl
def yF (K:W.Frag):Sp:=fun vs H Q _=>∃ (a:Addr) (ns:List Int),vs=[.ref a]∧aA K H a (ns.map V.int)∧ns.length≤63∧∀ H',Q (.bl true) H'
theorem D0 {fs:List (Str×V)} {f g:Str} {v w:V} (h:f≠g) (e:fs.lookup f=some w):(aL g v fs).lookup f=some w:=by rw [fO,if_neg h];exact e
theorem vp {fs:List (Str×V)} {f:Str} {v:V}:(aL f v fs).lookup f=some v:=by rw [fO,if_pos rfl]
theorem EO {fs:List (Str×V)} {f g:Str} {v:V} (h:f≠g) (e:fs.lookup f=none):(aL g v fs).lookup f=none:=by rw [fO,if_neg h];exact e
theorem jM {fs:List (Str×V)} {f:Str} {v:V} {n:Nat} (e:fs.length≤n):(aL f v fs).length≤n+1:=Nat.le_trans (jJ _ _ _) (Nat.succ_le_succ e)
end FB
namespace L3
open PySem PySem.Spec PyProof.Rows L2 PySem.SeqAt
end L3
namespace L3
open PySem PySem.Spec PyProof.Rows L2 PySem.SeqAt
end L3
namespace L3
open PySem PySem.Spec PyProof.Rows L2 PySem.SeqAt PySem.W Builtin Builtin.ObjectAttr
end L3
namespace L3
open PySem PySem.Spec PyProof.Rows L2 PySem.SeqAt
end L3
namespace L3
open PySem PySem.Spec PyProof.Rows L2 PySem.SeqAt
end L3
namespace L3
open PySem PySem.Spec PyProof.Rows L2 PySem.SeqAt
end L3
namespace L3
open PySem PySem.Spec PyProof.Rows L2 PySem.SeqAt
end L3
namespace L3
open PySem PySem.Spec PyProof.Rows L2 PySem.SeqAt PySem.W Builtin Builtin.ObjectAttr
end L3
namespace L3
open PySem PySem.Spec PyProof.Rows L2 PySem.SeqAt
def CZ (x:Str) (tv:TE):TE:=fun σ H Q=>tv σ H fun u H1=>∃ i,u=.int i∧i.natAbs.log2<1900∧Q (.str (Str.empty++x++Str.ofString (toString i))) H1
theorem qy {X:Cx} {v:Expr} {tv:TE} {x:Str} {j1:Nat} {p0 p1 p2:Pos} (hv:PE X v tv) (hx:(Str.empty++x).length≤1000:=by decide +kernel):PE X (.JoinedStr [.Constant (.str x) j1 p1,.FormattedValue v (-1) none p2] p0) (CZ x tv):=by
 intro pins s σ H Q I h;refine JoinedStr_many (joinParts_cons (br (aK (X:=X) pins s σ H (fun u H'=>u=.str x∧H'=H) I ⟨rfl,rfl⟩) fun u1 s1 ⟨v1,H1,I1,r1,e1,e2⟩=>?_));subst e1 e2;obtain ⟨t1,rfl⟩:=r1;refine ⟨by rw [sizeLine_eq];omega,joinParts_cons (FormattedValue_plain (br (hv pins s1 σ H1 _ I1 h) fun u2 s2 ⟨v2,H2,I2,r2,i,e,hd,q⟩=>?_))⟩;subst e;obtain ⟨t2,rfl⟩:=r2;have hl:=int_text_len_1921 (i:=i) (by omega);have hz:(Str.empty++x++Str.ofString (toString i)).length≤sizeLine:=by
   rw [sizeLine_eq]
   have:(Str.empty++x++Str.ofString (toString i)).length=(Str.empty++x).length+(Str.ofString (toString i)).length:=by
     show Array.size _=Array.size _+Array.size _;exact Array.size_append
   omega
 refine formatField_int_small (by omega) ?_;exact ⟨hz,joinParts_nil ⟨.str _,_,(I2.tok _).tok _,⟨_,rfl⟩,q⟩ hz⟩
theorem qo {x:Str} {tv:TE} {σ : L2.St} {H:Hp} {Q:VK} (h:tv σ H fun u H1=>∃ i,u=.int i∧i.natAbs.log2<1900∧Q (.str (Str.empty++x++Str.ofString (toString i))) H1):CZ x tv σ H Q:=h
end L3
namespace L3
open PySem PySem.Spec PyProof.Rows L2 PySem.SeqAt
end L3
namespace L3
open PySem PySem.Spec PyProof.Rows L2 PySem.SeqAt
end L3
namespace L3
open PySem PySem.Spec PyProof.Rows L2 PySem.SeqAt
end L3
namespace L3
open PySem PySem.Spec PyProof.Rows L2
section
variable {prog:Program} {w:World} {A:Around} {E:Value→Shared→Prop} {s:Shared}
theorem BO {t u : Addr} {xs ys : Array Value} {Q : Value → Shared → Prop} (h1 : s.heap.IsList t xs) (h2 : s.heap.IsList u ys)
   (q : ∀ h' n, n = s.heap.objs.size → IsZip h' (n + 4) (n + 2) (n + 3) .none → IsPair h' (n + 2) (.ref n) (.ref (n + 1)) → IsPair h' (n + 3) .none .none → h'.IsListIter n t 0 → h'.IsListIter (n + 1) u 0 →
     (∀ c o,s.heap.get? c=some o→h'.get? c=some o)→Q (.ref (n+4)) { s with heap:=h' }):wpAny (model prog w) A (call (.type "zip") [.ref t,.ref u]) Q E s :=
 call_zip_2 h1 h2 fun h' a1 a2 a3 a4 a5 _ a7=>q h' _ rfl a1 a2 a3 a4 a5 a7
theorem vO {z TI TO i1 i2 t1 t2 : Addr} {k : Nat} {xs ys : Array Value} {a b : Value} {Q : Option Value → Shared → Prop} (D : ZipApart z TI TO i1 i2 t1 t2) (hz : IsZip s.heap z TI TO .none) (hTI : IsPair s.heap TI (.ref i1) (.ref i2)) (hTO : IsPair s.heap TO a b)
   (h1:s.heap.IsListIter i1 t1 k) (h2:s.heap.IsListIter i2 t2 k) (ht1:s.heap.IsList t1 xs) (ht2:s.heap.IsList t2 ys)
   (q1 : ∀ x y, xs[k]? = some x → ys[k]? = some y → ∀ h', IsZip h' z TI TO (rawInt s.heap.objs.size) → IsPair h' TO x y → h'.IsListIter i1 t1 (k + 1) → h'.IsListIter i2 t2 (k + 1) → IsPair h' s.heap.objs.size x y →
     (∀ c o,c≠z→c≠TO→c≠i1→c≠i2→s.heap.get? c=some o→h'.get? c=some o)→Q (some (.ref s.heap.objs.size)) { s with heap:=h' })
   (q2:(xs[k]? = none∨ys[k]? = none)→A.handled=none∧∀ h',(∀ c o,c≠z→c≠TO→c≠i1→c≠i2→s.heap.get? c=some o→h'.get? c=some o)→Q none { s with heap:=h' }) :
   wpAny (model prog w) A (pyNext (.ref z)) Q E s:=by
 cases hx:xs[k]? with
 | none =>
   obtain ⟨hh,q⟩:=q2 (.inl hx);exact wpAny_pyNext_zip_end hh D hz hTI hTO h1 h2 ht1 ht2 (.inl hx) q
 | some x =>
   cases hy:ys[k]? with
   | none =>
     obtain ⟨hh,q⟩:=q2 (.inr hy);exact wpAny_pyNext_zip_end hh D hz hTI hTO h1 h2 ht1 ht2 (.inr hy) q
   | some y=>exact wpAny_pyNext_zip_item D hz hTI hTO h1 h2 ht1 ht2 hx hy fun h' a1 a2 a3 a4 a5 _ a7=>q1 x y hx hy h' a1 a2 a3 a4 a5 a7
end
def zh (K:W.Frag) (a b:Addr):It :=
 ⟨fun i H => ∃ xs ys x y, aA K H a xs ∧ aA K H b ys ∧ xs[i]? = some x ∧ ys[i]? = some y,
  fun i H v H'=>∃ T x y,v=.ref T∧H T=none∧H'=upd H T (.tup [x,y])∧∀ xs ys,aA K H a xs→aA K H b ys→xs[i]? = some x∧ys[i]? = some y,
  fun i H=>∃ xs ys,aA K H a xs∧aA K H b ys∧(xs.length≤i∨ys.length≤i)⟩
theorem Am {P : Program} {w : World} {K : W.Frag} {es : List Expr} {n : Nat} {pos : Pos} {a b z TI TO i1 i2 : Addr} (D : ZipApart z TI TO i1 i2 a b) :
   Turn P w K (.Tuple es n pos) (zh K a b) [z,TI,TO,i1,i2] z (fun i h=>IsZip h z TI TO .none∧IsPair h TI (.ref i1) (.ref i2)∧(∃ x y,IsPair h TO x y)∧h.IsListIter i1 a i∧h.IsListIter i2 b i) where
 mem:=by simp
 obj:=fun i h st c hc=>by
   obtain ⟨hz,hI,⟨x,y,hO⟩,⟨o1,e1,_,d1⟩,⟨o2,e2,_,d2⟩⟩:=st;have hc:c=z∨c=TI∨c=TO∨c=i1∨c=i2:=by simpa using hc
   rcases hc with rfl | rfl | rfl | rfl | rfl
   · exact ⟨_,hz,fun v e=>by cases e⟩
   · exact ⟨_,hI,fun v e=>by cases e⟩
   · exact ⟨_,hO,fun v e=>by cases e⟩
   · exact ⟨_,e1,fun v e=>by rw [d1] at e;cases e⟩
   · exact ⟨_,e2,fun v e=>by rw [d2] at e;cases e⟩
 keep:=fun i h h' st k=>by
   obtain ⟨hz,hI,⟨x,y,hO⟩,h1,h2⟩:=st;exact ⟨k z (by simp) _ hz,k TI (by simp) _ hI,⟨x,y,k TO (by simp) _ hO⟩,h1.at fun o e=>k i1 (by simp) o e,h2.at fun o e=>k i2 (by simp) o e⟩
 item:=by
   intro X hP hw hK hc i pins s σ H E I hf st hg;subst hP hw hK;obtain ⟨hz,hI,⟨x0,y0,hO⟩,h1,h2⟩:=st;obtain ⟨xs,ys,x,y,hq1,hq2,hx,hy⟩:=hg;obtain ⟨its1,rv1,p1,_⟩:=I.list hq1;obtain ⟨its2,rv2,p2,_⟩:=I.list hq2;obtain ⟨u,hu,ru⟩:=rv1.get hx;obtain ⟨v,hv,rv⟩:=rv2.get hy;refine vO D hz hI hO h1 h2 (p1.isList) (p2.isList) (fun u' v' hu' hv' h' z1 z2 z3 z4 z5 kk=>?_) fun he=>?_
   · have e1 : u' = u := by simpa [hu] using hu'.symm
     have e2:v'=v:=by simpa [hv] using hv'.symm
     subst e1 e2;refine ⟨_,rfl,wpAny_letOwnedTupleGo_zip z1 fun h2' hz2 s2=>?_⟩;have T0:H s.heap.objs.size=none:=I.aG.fresh (Nat.le_refl _);have tz:s.heap.objs.size≠z:=Nat.ne_of_gt (Heap.lt_size hz);have J:Inv X pins σ (upd H s.heap.objs.size (.tup [x,y])) { s with heap:=h2' }:=by
       refine jy (ch:=[z,TI,TO,i1,i2]) I hf (Nat.le_refl _) (fun c o hc e=>?_) (fun c hc=>?_) ?_
       · have c1 : c ≠ z := fun q => hc (by simp [q]);exact s2.extBut _ _ c1 (kk c o c1 (fun q=>hc (by simp [q])) (fun q=>hc (by simp [q])) (fun q=>hc (by simp [q])) e)
       · have hc : c = z ∨ c = TI ∨ c = TO ∨ c = i1 ∨ c = i2 := by simpa using hc
         rcases hc with rfl | rfl | rfl | rfl | rfl
         · exact ⟨_,hz2⟩
         · exact ⟨_,s2.extBut _ _ D.TIz (kk _ _ D.TIz D.TITO D.TIi1 D.TIi2 hI)⟩
         · exact ⟨_,s2.extBut _ _ D.TOz z2⟩
         · obtain ⟨o,e,_⟩:=z3;exact ⟨o,s2.extBut _ _ D.i1z e⟩
         · obtain ⟨o,e,_⟩:=z4;exact ⟨o,s2.extBut _ _ D.i2z e⟩
       · exact ⟨by show 2≤sizeLine;decide,[u',v'],.cons ru (.cons rv .nil),⟨_,s2.extBut _ _ tz z5,rfl,_,rfl⟩⟩
     refine ⟨.ref s.heap.objs.size,_,J,rfl,⟨_,x,y,rfl,T0,rfl,fun xs' ys' q1 q2=>?_⟩,⟨hz2,s2.extBut _ _ D.TIz (kk _ _ D.TIz D.TITO D.TIi1 D.TIi2 hI),⟨_,_,s2.extBut _ _ D.TOz z2⟩,z3.at fun o e=>s2.extBut _ _ D.i1z e,z4.at fun o e=>s2.extBut _ _ D.i2z e⟩,fun c hc=>?_⟩
     · rw [I.fc q1 hq1,I.fc q2 hq2];exact ⟨hx,hy⟩
     · have hlt : c < s.heap.objs.size := by
         have hc:c=z∨c=TI∨c=TO∨c=i1∨c=i2:=by simpa using hc
         rcases hc with e | e | e | e | e <;> rw [e]
         · exact Heap.lt_size hz
         · exact Heap.lt_size hI
         · exact Heap.lt_size hO
         · obtain ⟨o,e,_⟩:=h1;exact Heap.lt_size e
         · obtain ⟨o,e,_⟩:=h2;exact Heap.lt_size e
       rw [aw (Nat.ne_of_lt hlt)];exact (hf c hc).1
   · exfalso
     rcases he with he | he
     · simp [hu] at he
     · simp [hv] at he
 done:=by
   intro X hP hw hK hc i pins s σ H E I hf st hg;subst hP hw hK;obtain ⟨hz,hI,⟨x0,y0,hO⟩,h1,h2⟩:=st;obtain ⟨xs,ys,hq1,hq2,hl⟩:=hg;obtain ⟨its1,rv1,p1,_⟩:=I.list hq1;obtain ⟨its2,rv2,p2,_⟩:=I.list hq2;have l1:=rv1.length;have l2:=rv2.length;refine vO D hz hI hO h1 h2 (p1.isList) (p2.isList) (fun u' v' hu' hv' h' z1 z2 z3 z4 z5 kk=>?_) fun he=>⟨I.ok.hd hc,fun h' kk=>⟨rfl,?_⟩⟩
   · exfalso
     have g1:i<its1.length:=by simpa using (Array.getElem?_eq_some_iff.mp hu').1
     have g2:i<its2.length:=by simpa using (Array.getElem?_eq_some_iff.mp hv').1
     omega
   · have hnc : ∀ c o, c ∉ [z, TI, TO, i1, i2] → s.heap.get? c = some o → h'.get? c = some o := fun c o hc e => kk c o (fun q => hc (by simp [q])) (fun q => hc (by simp [q])) (fun q => hc (by simp [q])) (fun q => hc (by simp [q])) e;refine I.ko (s':={ s with heap:=h' }) (ch:=[z,TI,TO,i1,i2]) rfl ⟨fun b o e _ _ hc=>hnc b o hc e,fun b o e _ _ hc=>⟨o.slots,hnc b o hc e⟩,fun b o e n _=>n,fun b o e hc=>⟨o,hnc b o hc e⟩,fun _ _ e=>e,fun _ _ _ e=>e,fun b ps e=>⟨#[],by rw [e];simp⟩⟩ (fun b u e=>?_) I.bare ?_
     · have nc : ∀ b u, H b = some u → b ∉ [z, TI, TO, i1, i2] := fun b u e hb => by rw [(hf b hb).1] at e; cases e
       refine (I.aG b u e).iq (fun c v hc q=>hnc c v ?_ q) (fun _ q=>q) fun _ _ q=>q;rcases hc with q | q
       · rw [q];exact nc b u e
       · exact nc c _ q
     · intro b hb;obtain ⟨f0,f1,f2,f3,f4,f5⟩:=hf b hb;exact ⟨f3,f1,f4,f5⟩
 self:=fun _ _ _ _ _ st h=>wpAny_pyIter_zip st.1 h
def Dt (K:W.Frag) (ta:TA):TI:=fun σ H R=>ta σ H fun vs H1=>∃ a b xs ys,vs=[.ref a,.ref b]∧aA K H1 a xs∧aA K H1 b ys∧R (zh K a b) H1
theorem Cw {X : Cx} {K : W.Frag} {es : List Expr} {n : Nat} {tpos : Pos} {a b : Expr} {ta : TA} {p pos : Pos} (hK : X.K = K) (hg : Gl X "zip") (hm : X.mg "zip" = none) (ha : PA X [a, b] ta) (hs : starEach [a, b] X.env = [(false, eval a X.env), (false, eval b X.env)] := by rfl) (hs2 : starEach [b] X.env = [(false, eval b X.env)] := by rfl) :
   PI X (.Tuple es n tpos) (.Call (.Name "zip" p) [a,b] [] pos) (Dt K ta):=by
 subst hK;intro pins s σ H R I h;refine Call_ (gb I hg hm tX (PyProof.Rows.callWith_type1 (br (ha pos pins s σ H _ I h) fun us s1 ⟨vs,H1,I1,r1,q1⟩=>?_) (by rw [hs,hs2]) (by rw [hs2];rfl)));obtain ⟨x,y,xs,ys,e,hx,hy,q⟩:=q1;subst e;cases r1 with
 | cons r rr =>
   cases rr with
   | cons r' rr =>
     cases rr
     cases r
     cases r'
     obtain ⟨its1,rv1,p1,_⟩:=I1.list hx;obtain ⟨its2,rv2,p2,_⟩:=I1.list hy;have lx:x<s1.heap.objs.size:=(by obtain ⟨o,n,e,_⟩:=p1;exact Heap.lt_size e)
     have ly:y<s1.heap.objs.size:=(by obtain ⟨o,n,e,_⟩:=p2;exact Heap.lt_size e)
     refine BO (p1.isList) (p2.isList) fun h' m hm' z1 z2 z3 z4 z5 kk=>?_;subst hm';refine wpAny_pyIter_zip z1 ⟨_,[s1.heap.objs.size+4,s1.heap.objs.size+2,s1.heap.objs.size+3,s1.heap.objs.size,s1.heap.objs.size+1],_,_,H1,rfl,I1.kept (t':=s1.toks) kk,Am ⟨?_,?_,?_,?_,?_,?_,?_,?_,?_,?_,?_,?_,?_,?_,?_,?_,?_,?_⟩,⟨z1,z2,⟨_,_,z3⟩,z4,z5⟩,fun c hc=>?last,q⟩
     case last =>
       have hc:c=s1.heap.objs.size+4∨c=s1.heap.objs.size+2∨c=s1.heap.objs.size+3∨c=s1.heap.objs.size∨c=s1.heap.objs.size+1:=by simpa using hc
       have hge:s1.heap.objs.size≤c:=by rcases hc with e | e | e | e | e <;> rw [e] <;> first | exact Nat.le_add_right _ _ | exact Nat.le_refl _
       exact I1.jC hge (I1.aG.fresh hge)
     all_goals (intro e;have e' : @Eq Nat _ _:=e;have lx' : @LT.lt Nat _ _ _:=lx;have ly' : @LT.lt Nat _ _ _:=ly;omega)
theorem FV {K:W.Frag} {ta:TA} {σ : St} {H:Hp} {R:It→Hp→Prop} (q:ta σ H fun vs H1=>∃ a b xs ys,vs=[.ref a,.ref b]∧aA K H1 a xs∧aA K H1 b ys∧R (zh K a b) H1):Dt K ta σ H R:=q
end L3
namespace L3
open PySem PySem.Spec PyProof.Rows L2
theorem D3 {r r':R2} {ta tb tc:TE} {σ : L2.St} {H:Hp} {Q:VK} (h:ta σ H fun x H1=>tb σ H1 fun y H2=>r x y H2 fun z H3=>∃ k,z=.bl k∧(if k then tc σ H3 fun u H4=>r' y u H4 Q else Q (.bl false) H3)):Ab r r' ta tb tc σ H Q:=h
end L3
namespace L3
open PySem PySem.Spec PyProof.Rows L2 PySem.SeqAt
end L3
namespace L3
open PySem PySem.Spec PyProof.Rows L2 PySem.SeqAt
end L3
namespace L3
open PySem PySem.Spec PyProof.Rows L2 PySem.SeqAt
end L3
namespace L3
open PySem PySem.Spec PyProof.Rows L2 PySem.SeqAt
end L3
namespace L3
open PySem PySem.Spec PyProof.Rows L2 PySem.SeqAt
end L3
namespace L3
open PySem PySem.Spec PyProof.Rows L2 PySem.SeqAt
end L3
namespace L3
open PySem PySem.Spec PyProof.Rows L2 PySem.SeqAt
def yd (K:W.Frag):List V→Hp→VK→Prop:=fun xs H Q=>∃ (p:Addr) (ns:List Int),xs=[.ref p]∧aA K H p (ns.map V.int)∧Q (.bl (ns.all fun n=>n != 0)) H
theorem ze (ns:List Int):(List.range ns.length).all (fun i=>ns.getD i 0 != 0)=ns.all fun n=>n != 0:=by
 induction ns with
 | nil=>rfl
 | cons b r ih =>
   rw [List.length_cons,List.range_succ_eq_map,List.all_cons,List.all_cons,List.all_map,← ih];rfl
theorem Bb {X:Cx} (hc:X.calm=true):cR X (.builtin "all") (yd X.K):=by
 intro pins s σ H xs us Q I r h;obtain ⟨p,bs,rfl,hq,q⟩:=h;obtain ⟨u,rfl,rx⟩:=vals1 r;cases rx
 obtain ⟨its,rv,pl,hz⟩:=I.list hq;have hlen:=rv.length;rw [List.length_map] at hlen;have hlt:p<s.heap.objs.size:=by obtain ⟨o,e,_⟩:=pl.isList;exact Heap.lt_size e
 refine call_all_walk (wpAny_pyIter_list pl.isList ?_);refine ⟨s.heap.objs.size,_,_,_,_,_,fun i=>bs.getD i 0 != 0,rfl,Walks.list (by exact I.ok.hd hc) s.heap.objs.size p (Nat.ne_of_lt hlt) its.toArray,⟨⟨_,Heap.get?_push_size _ rfl,rfl,rfl⟩,pl.isList.push _⟩,?_,?_⟩
 · intro i v s' Q' E' hP hQ';have hP':its[i]? = some v:=by simpa using hP
   have hi:i<its.length:=(List.getElem?_eq_some_iff.mp hP').1;have hb:(bs.map V.int)[i]? = some (V.int (bs.getD i 0)):=by
     rw [List.getElem?_map,List.getElem?_eq_getElem (by omega)];simp [List.getD,List.getElem?_eq_getElem (show i<bs.length by omega)]
   obtain ⟨u',hu',ru'⟩:=rv.get hb;rw [hP'] at hu';cases hu'
   obtain ⟨t,rfl⟩:=(show ∃ t,v=Value.int _ t from ru')
   exact PySem.P.truthy_int hQ'
 · intro h' tk kk;have e:(List.range its.toArray.size).all (fun i=>bs.getD i 0 != 0)=bs.all fun n=>n != 0:=by
     rw [List.size_toArray,← hlen];exact ze bs
   rw [e];refine ⟨.bl _,H,?_,rfl,q⟩;have I1:Inv X pins σ H { s with heap:=s.heap.push { cls:=.type "list_iterator",data:=.fields #[.ref p,.int 0 0] } }:=I.kept (t':=s.toks) fun b o e=>Heap.get?_push_of_some _ e;have f:=I.jC (H':=H) (Nat.le_refl _) I.fresh;exact I1.turned (it:=s.heap.objs.size) (h':=h') (t':=tk) (fun b o hb e=>kk b o (by simpa using hb) e) f.1 f.2.1 f.2.2.2.1 f.2.2.2.2.1 f.2.2.2.2.2
theorem zg {X:Cx} {K:W.Frag} (h:X.K=K) (hc:X.calm=true):cR X (.builtin "all") (yd K):=by subst h;exact Bb hc
theorem E3 {K:W.Frag} {p:Addr} {ns:List Int} {H:Hp} {Q:VK} (h:aA K H p (ns.map V.int)) (q:Q (.bl (ns.all fun n=>n != 0)) H):yd K [.ref p] H Q:=⟨p,ns,rfl,h,q⟩
end L3
namespace L3
open PySem PySem.Spec PyProof.Rows L2 PySem.SeqAt
def CK (K:W.Frag):List V→Hp→VK→Prop:=fun xs H Q=>∃ (p:Addr) (bs:List Bool),xs=[.ref p]∧aA K H p (bs.map V.bl)∧Q (.bl (bs.any id)) H
theorem any_range (bs:List Bool):(List.range bs.length).any (fun i=>bs.getD i false)=bs.any id:=by
 induction bs with
 | nil=>rfl
 | cons b r ih =>
   rw [List.length_cons,List.range_succ_eq_map,List.any_cons,List.any_cons,List.any_map,← ih];rfl
theorem AX {X:Cx} (hc:X.calm=true):cR X (.builtin "any") (CK X.K):=by
 intro pins s σ H xs us Q I r h;obtain ⟨p,bs,rfl,hq,q⟩:=h;obtain ⟨u,rfl,rx⟩:=vals1 r;cases rx
 obtain ⟨its,rv,pl,hz⟩:=I.list hq;have hlen:=rv.length;rw [List.length_map] at hlen;have hlt:p<s.heap.objs.size:=by obtain ⟨o,e,_⟩:=pl.isList;exact Heap.lt_size e
 refine call_any_walk (wpAny_pyIter_list pl.isList ?_);refine ⟨s.heap.objs.size,_,_,_,_,_,fun i=>bs.getD i false,rfl,Walks.list (by exact I.ok.hd hc) s.heap.objs.size p (Nat.ne_of_lt hlt) its.toArray,⟨⟨_,Heap.get?_push_size _ rfl,rfl,rfl⟩,pl.isList.push _⟩,?_,?_⟩
 · intro i v s' Q' E' hP hQ';have hP':its[i]? = some v:=by simpa using hP
   have hi:i<its.length:=(List.getElem?_eq_some_iff.mp hP').1;have hb:(bs.map V.bl)[i]? = some (V.bl (bs.getD i false)):=by
     rw [List.getElem?_map,List.getElem?_eq_getElem (by omega)];simp [List.getD,List.getElem?_eq_getElem (show i<bs.length by omega)]
   obtain ⟨u',hu',ru'⟩:=rv.get hb;rw [hP'] at hu';cases hu'
   cases (show v=Value.bool _ from ru')
   exact wpAny_truthy_bool hQ'
 · intro h' tk kk;have e:(List.range its.toArray.size).any (fun i=>bs.getD i false)=bs.any id:=by
     rw [List.size_toArray,← hlen];exact any_range bs
   rw [e];refine ⟨.bl _,H,?_,rfl,q⟩;have I1:Inv X pins σ H { s with heap:=s.heap.push { cls:=.type "list_iterator",data:=.fields #[.ref p,.int 0 0] } }:=I.kept (t':=s.toks) fun b o e=>Heap.get?_push_of_some _ e;have f:=I.jC (H':=H) (Nat.le_refl _) I.fresh;exact I1.turned (it:=s.heap.objs.size) (h':=h') (t':=tk) (fun b o hb e=>kk b o (by simpa using hb) e) f.1 f.2.1 f.2.2.2.1 f.2.2.2.2.1 f.2.2.2.2.2
theorem zW {X:Cx} {K:W.Frag} (h:X.K=K) (hc:X.calm=true):cR X (.builtin "any") (CK K):=by subst h;exact AX hc
theorem F5 {K:W.Frag} {p:Addr} {bs:List Bool} {H:Hp} {Q:VK} (h:aA K H p (bs.map V.bl)) (q:Q (.bl (bs.any id)) H):CK K [.ref p] H Q:=⟨p,bs,rfl,h,q⟩
end L3
namespace L3
open PySem PySem.Spec PyProof.Rows L2 PySem.SeqAt
def iY (K:W.Frag):R2:=fun x y H Q=>∃ p q xs ys,x=.ref p∧y=.ref q∧aA K H p xs∧aA K H q ys∧xs.length≠ys.length∧Q (.bl true) H
theorem Bv {X:Cx} (hu:X.A.units+64<cLine):cb X (compareOp .NotEq) (iY X.K):=by
 intro pins s σ H x y v u Q I rx ry h;obtain ⟨p,q,xs,ys,rfl,rfl,h1,h2,hn,k⟩:=h;cases rx;cases ry
 obtain ⟨its,r1,pl1,_⟩:=I.list h1;obtain ⟨jts,r2,pl2,_⟩:=I.list h2;have l1:=r1.length;have l2:=r2.length;refine RcNeAt.lists_lengths pl1.isList pl2.isList ?_ (by omega) _ _ _ _ ⟨.bl true,H,I,rfl,k⟩;simp only [List.size_toArray,bne_iff_ne];omega
theorem ka {X:Cx} {K:W.Frag} (h:X.K=K) (hu:X.A.units+64<cLine):cb X (compareOp .NotEq) (fun x y H Q=>il K x y H Q∨iY K x y H Q):=by subst h;exact (Ai hu).or (Bv hu)
end L3
namespace L3
open PySem PySem.Spec PyProof.Rows L2 PySem.SeqAt
section
variable {X:Cx} {C:Addr}
def DE (tb:TB) (C:Addr) (th:TS):TS:=fun D σ H=>tb D (fun c _ H2=>c=.ref C∧th { nx:=fun σ' H'=>D.nx σ' H',rt:=fun _ _=>False } σ H2) σ H
theorem El {body : List Stmt} {tb : TB} {x : Str} {np hpos pos : Pos} {b0 : Stmt} {suite : List Stmt} {th : TS} (hst : X.stack = X.env :: X.outer) (hfr : X.env.frame = some X.env.locals) (hc : X.calm = true)
   (hb:PB X body tb) (c:vc X.K X.mg x C) (hg:Gl X x) (hs:∀ ea,hU (Cx.sup X ea []) (b0::suite) th) (hdb:(x == ("__debug__" : Str))=false:=by decide) :
   PS X (.Try body [.ExceptHandler (some (.Name x np)) none (b0::suite) hpos] [] [] pos) (DE tb C th):=by
 intro pins s σ H D I0 h;refine wpAny_Try_except (wpAny_mono (hb pins s σ H D _ I0 h) (fun f s1 q=>?_) fun ex s' q=>?_)
 · cases f with
   | next=>exact wpAny_execs_nil q
   | brk=>exact q
   | cont=>exact q
   | ret u=>exact q
 obtain ⟨ea,C',H1,s1,H',rfl,I,⟨os,bare,h0,l,a0,u,aG,hl,hnew,fl,up⟩,ec,q⟩:=q;cases ec
 have hh:X.calm=true→X.A.handled=none:=I.ok.hd;have fl':Heap.FlyingW (W.hideAll h0 l) (X.env::X.outer) ea (.ref C) a0 s'.heap:=by rw [← hst];exact fl
 refine wpAny_looks_onW (by rw [← hst];exact I.ok.frames) hfr fl' fun h4 held4 up4=>?_;refine wpAny_landsW held4 fun h5 fl5 up5=>?_;have I5:Inv X pins σ H' { s' with heap:=h5 }:=rR I os bare u aG hl fl5.1 ((up.trans up4).trans up5);obtain ⟨oe,hoe,hoec⟩:=fl5.there;refine wpAny_handleBy_cons (codeAny_handlers_test (iF (X:=Cx.sup X ea []) (Inv.sup I5 (fun p hp=>nomatch hp)) hg c.glob ?_ hdb)) (by intro z;cases z);obtain ⟨bm,N',nm,qn,bs,hd,sn,sub,ab,col,dd,k0,k1,k2,k3,k5,mN,hC,hNs,hni,TL⟩:=c.obj I5.el;refine wpAny_excMatches_sub_self hC hoe hoec (TL.hasType (by decide +kernel)) (codeAny_handlers_suite ?_);refine lands_againW fl5 fun h6 fl6 up6=>?_;have I6:Inv (Cx.sup X ea []) pins σ H' { s' with heap:=h6 }:=Inv.sup (rR I os bare u aG hl fl6.1 (((up.trans up4).trans up5).trans up6)) fun p hp=>nomatch hp;refine wpAny_mono (hs ea pins _ σ H' _ I6 q) (fun f s8 q8=>?_) fun _ _ z=>z.elim;cases f with
 | next =>
   obtain ⟨σ',H'',I8,q9⟩:=q8;exact ⟨σ',H'',Inv.yD I8 hh,q9⟩
 | brk=>obtain ⟨_,_,_,z⟩:=q8;exact z.elim
 | cont=>obtain ⟨_,_,_,z⟩:=q8;exact z.elim
 | ret v=>obtain ⟨_,_,_,_,_,z⟩:=q8;exact z.elim
end
end L3
namespace L3
open PySem PySem.Spec PyProof.Rows L2 PySem.SeqAt
end L3
namespace L3
open PySem PySem.Spec PyProof.Rows L2 PySem.SeqAt
end L3
namespace L3
open PySem PySem.Spec PyProof.Rows L2 PySem.SeqAt
end L3
namespace L3
open PySem PySem.Spec PyProof.Rows L2 PySem.SeqAt PySem.Builtin PySem.Builtin.Str
end L3
namespace L3
open PySem PySem.Spec PyProof.Rows L2 PySem.SeqAt PySem.Builtin PySem.Builtin.Str PySem.StrLaws
end L3
namespace L3
open PySem PySem.Spec PyProof.Rows L2 PySem.SeqAt
end L3
namespace L3
open PySem PySem.Spec PyProof.Rows L2 PySem.SeqAt PySem.NumText
end L3
namespace HT
open PySem PyProof.Rows
end HT
namespace L3
open PySem PySem.Spec PyProof.Rows L2 PySem.SeqAt
end L3
namespace L3
open PySem PySem.Spec PyProof.Rows L2 PySem.SeqAt
structure Tc (P:Program) (w:World) (K:W.Frag) (mg:Str→Option Value) (base:Heap) (CX:eh) (k:Nat) (x:Str) (sp:Sp):Prop where
 ex:∃ (f:Addr) (fd:FuncData) (ps:List Str),eg P w K mg base CX k f fd ps sp∧mg x=some (.ref f)∧W.keepIn K (.ref f)=true∧Binds K fd ps [.none]
section
variable {P:Program} {w:World} {K:W.Frag} {mg:Str→Option Value} {base:Heap} {x qual:Str} {st:Stmt} {N ps:List Str} {sp:Sp}
theorem fm.C_ {f:Addr} {fd:FuncData} {k:Nat} (F:fm K x qual st f fd) (S:aE N ps (av st)) (len:∀ vs H Q E,sp vs H Q E→vs.length=ps.length) (hbody:tR P w K mg base k qual st N sp):eg P w K mg base (eM P w) (k+1) f fd ps sp:=by
 obtain ⟨oc,od,da,kV,doc,pm,an,cdv,ct,osl,o,n,rfl,lk,hcd,_,_⟩:=F.ex;exact tU lk hcd S len fun A outer s H vs Q E hr hsp=>hbody f cdv A outer s H vs Q E hr hsp
theorem DY (k : Nat) (h : ∃ f fd, fm K x qual st f fd ∧ mg x = some (.ref f) ∧ Binds K fd ps [] ∧ Binds K fd ps [.none]) (S : aE N ps (av st)) (len : ∀ vs H Q E, sp vs H Q E → vs.length = ps.length)
   (hbody:tR P w K mg base k qual st N sp):cG P w K mg base (eM P w) (k+1) x sp∧Tc P w K mg base (eM P w) (k+1) x sp:=by
 obtain ⟨f,fd,F,hm,hb,hb2⟩:=h;exact ⟨⟨f,fd,ps,fm.C_ F S len hbody,hm,F.kp,hb⟩,⟨f,fd,ps,fm.C_ F S len hbody,hm,F.kp,hb2⟩⟩
end
def zu:List V→Hp→VK→Prop:=fun xs H Q=>∃ (a:Addr) (kvs:List (Key×V)) (ks:List Int),xs=[.ref a]∧Rd H a (.dK kvs)∧kvs.map (·.1)=ks.map Sum.inl∧∀ p,H p=none→Q (.ref p) (upd H p (.lst (ks.map V.int)))
theorem yo {X:Cx} (hc:X.calm=true):cR X (.type "list") zu:=by
 intro pins s σ H xs us Q I r h;obtain ⟨a,kvs,ks,rfl,e,hk,q⟩:=h;obtain ⟨u,rfl,rx⟩:=vals1 r;cases rx
 have hh:X.A.handled=none:=I.ok.hd hc;obtain ⟨z,hd,vs,rel,dd⟩:=gS I.aG e;obtain ⟨ep,hat⟩:=dd.dictAt;have hlk:kvs.length=ks.length:=by rw [← List.length_map (f:=(·.1)) (as:=kvs),hk,List.length_map]
 have hlv:vs.length=ks.length:=by rw [← rel.length,hlk]
 refine W.kdl_call (W.kdl_dict (knd:=cX X.prog X.w) (kvs:=vs) (ep:=ep) hd) hh hat (by rw [hlv,← hlk];exact z) fun h' tk acc c' hk' hS hacc=>?_;have hl:acc.toList.length=ks.length:=by rw [Array.length_toList,← hlv];exact hacc.1
 have hI:IntsAre acc.toList ks:=qS hl fun j v hv=>by
   obtain ⟨k,x,e1,e2⟩:=hacc.2 j v (by rw [← Array.getElem?_toList];exact hv);have e3:(kvs.map (·.1))[j]? = some k:=by
     have e4:∀ {kvs:List (Key×V)} {vs:List (Key×Value)},KV kvs vs→kvs.map (·.1)=vs.map (·.1):=fun r=>by
       unfold KV at r
       induction r with
       | nil=>rfl
       | cons r1 r2 ih=>rw [List.map_cons,List.map_cons,r1.1,ih]
     rw [e4 rel,List.getElem?_map,e1];rfl
   rw [hk,List.getElem?_map] at e3;obtain ⟨n,e5,e6⟩:=Option.map_eq_some_iff.mp e3;rcases cD e2 with ⟨i,t,e7,e8⟩ | ⟨x,t,e7,e8⟩
   · rw [e7] at e6;cases e6
     exact ⟨_,t,e5,e8⟩
   · rw [e7] at e6;cases e6
 have hn:H s.heap.objs.size=none:=I.aG.fresh (Nat.le_refl _);exact ⟨.ref s.heap.objs.size,_,I.laid (t':=tk) (o:=.lst (ks.map V.int)) hk' (Nat.le_refl _) ⟨by rw [List.length_map,← hlk];exact z,acc.toList,c',mv hI,hS⟩,rfl,q _ hn⟩
theorem Ey {a:Addr} {kvs:List (Key×V)} {ks:List Int} {H:Hp} {Q:VK} (h:H a=some (.dK kvs)) (hk:kvs.map (·.1)=ks.map Sum.inl) (q:∀ p,H p=none→Q (.ref p) (upd H p (.lst (ks.map V.int)))):zu [.ref a] H Q:=⟨a,kvs,ks,rfl,.inl h,hk,q⟩
end L3
namespace L3
open PySem PySem.Spec PyProof.Rows
abbrev du (h:Heap) (T:Addr) (a b c d e:Value):Prop:=h.get? T=some { cls:=.type "tuple",data:=.seq #[a,b,c,d,e] }
structure uQ (z TI TO i1 i2 i3 i4 i5 t1 t2 t3 t4 t5:Addr):Prop where
 TIz:TI≠z
 TOz:TO≠z
 i1z:i1≠z
 i2z:i2≠z
 jU:i3≠z
 xN:i4≠z
 xa:i5≠z
 TITO:TI≠TO
 TIi1:TI≠i1
 TIi2:TI≠i2
 uD:TI≠i3
 G0:TI≠i4
 Gi:TI≠i5
 TOi1:TO≠i1
 TOi2:TO≠i2
 ky:TO≠i3
 zo:TO≠i4
 CN:TO≠i5
 i12:i1≠i2
 Az:i1≠i3
 Tn:i1≠i4
 Tp:i1≠i5
 An:i2≠i3
 Ts:i2≠i4
 Tt:i2≠i5
 Tz:i3≠i4
 Tg:i3≠i5
 S_:i4≠i5
 GC:t1≠z
 GA:t2≠z
 Gr:t3≠z
 Wm:t4≠z
 Wb:t5≠z
 CO:t2≠TO
 CL:t3≠TO
 T5:t4≠TO
 T1:t5≠TO
 Cu:t2≠i1
 CA:t3≠i1
 BG:t3≠i2
 Ue:t4≠i1
 UU:t4≠i2
 Vu:t4≠i3
 Ua:t5≠i1
 T9:t5≠i2
 VP:t5≠i3
 Vz:t5≠i4
section
variable {prog:Program} {w:World} {A:Around} {E:Value→Shared→Prop} {s:Shared}
theorem lZ {it t : Addr} {i : Nat} {its : Array Value} {Q : Value → Shared → Prop} (hi : s.heap.IsListIter it t i) (ht : s.heap.IsList t its)
   (q1:∀ x,its[i]? = some x→∀ h',h'.IsListIter it t (i+1)→Heap.SameBut it s.heap h'→Q x { s with heap:=h' })
   (q2:its[i]? = none→A.handled=none∧∀ h' e,Heap.ExtBut it s.heap h'→(∃ o,h'.get? e=some o∧o.cls=.type "StopIteration")→E (.ref e) { s with heap:=h' }) :
   wpAny (model prog w) A (Builtin.SmallTypes.nextOf (.ref it)) Q E s:=by
 cases hx:its[i]? with
 | some x=>exact wpAny_nextOf_list_item hi ht hx fun h' k1 k2=>q1 x hx h' k1 k2
 | none =>
   obtain ⟨hh,q⟩:=q2 hx;exact wpAny_nextOf_list_end hh hi ht hx fun h' e k1 k2=>q h' e k1 k2
theorem jc {T : Addr} {a b c d e x : Value} {k : Nat} {Q : Unit → Shared → Prop} (hT : du s.heap T a b c d e)
   (h:∀ h',h'.get? T=some { cls:=.type "tuple",data:=.seq ((#[a,b,c,d,e]:Array Value).setIfInBounds k x) }→Heap.SameBut T s.heap h'→Q () { s with heap:=h' }) :
   wpAny (model prog w) A (updateSeq T (·.setIfInBounds k x)) Q E s:=by
 refine wpAny_updateSeq hT rfl (h _ ?_ (Heap.SameBut.update ..));rw [Heap.get?_update_self _ hT rfl];simp [Obj.mapSeq]
set_option maxHeartbeats 8000000 in
theorem Vt {z TI TO i1 i2 i3 i4 i5 t1 t2 t3 t4 t5 : Addr} {k : Nat} {X1 X2 X3 X4 X5 : Array Value} {a1 a2 a3 a4 a5 : Value} {Q : Fin → Shared → Prop} (D : uQ z TI TO i1 i2 i3 i4 i5 t1 t2 t3 t4 t5) (hz : IsZip s.heap z TI TO .none) (hTI : du s.heap TI (.ref i1) (.ref i2) (.ref i3) (.ref i4) (.ref i5)) (hTO : du s.heap TO a1 a2 a3 a4 a5)
   (h1:s.heap.IsListIter i1 t1 k) (h2:s.heap.IsListIter i2 t2 k) (h3:s.heap.IsListIter i3 t3 k) (h4:s.heap.IsListIter i4 t4 k) (h5:s.heap.IsListIter i5 t5 k) (ht1:s.heap.IsList t1 X1) (ht2:s.heap.IsList t2 X2) (ht3:s.heap.IsList t3 X3) (ht4:s.heap.IsList t4 X4) (ht5:s.heap.IsList t5 X5)
   (q1 : ∀ x1 x2 x3 x4 x5, X1[k]? = some x1 → X2[k]? = some x2 → X3[k]? = some x3 → X4[k]? = some x4 → X5[k]? = some x5 → ∀ h', IsZip h' z TI TO (rawInt s.heap.objs.size) → du h' TO x1 x2 x3 x4 x5 → h'.IsListIter i1 t1 (k + 1) → h'.IsListIter i2 t2 (k + 1) → h'.IsListIter i3 t3 (k + 1) → h'.IsListIter i4 t4 (k + 1) → h'.IsListIter i5 t5 (k + 1) → du h' s.heap.objs.size x1 x2 x3 x4 x5 →
     (∀ c o,c≠z→c≠TO→c≠i1→c≠i2→c≠i3→c≠i4→c≠i5→s.heap.get? c=some o→h'.get? c=some o)→Q (.done (.ret (.ref s.heap.objs.size))) { s with heap:=h' })
   (q2:(X1[k]? = none∨X2[k]? = none∨X3[k]? = none∨X4[k]? = none∨X5[k]? = none)→A.handled=none∧∀ h' e,(∀ c o,c≠z→c≠TO→c≠i1→c≠i2→c≠i3→c≠i4→c≠i5→s.heap.get? c=some o→h'.get? c=some o)→(∃ o,h'.get? e=some o∧o.cls=.type "StopIteration")→E (.ref e) { s with heap:=h' }) :
   wpAny (model prog w) A (Builtin.«zip.__next__» ⟨[.ref z],[]⟩) Q E s:=by
 show wpAny _ _ (field (.ref z) 2 >>= _) _ _ _;refine wpAny_bind (wpAny_field hz rfl (x:=.bool false) rfl ?_);show wpAny _ _ (field (.ref z) 3 >>= _) _ _ _;refine wpAny_bind (wpAny_field hz rfl (x:=.ref TI) rfl (wpAny_bind (wpAny_seqItems hTI rfl ?_)));show wpAny _ _ (Builtin.SmallTypes.ownedTupleIsFree (.ref z) >>= _) _ _ _;refine wpAny_bind ?_;unfold Builtin.SmallTypes.ownedTupleIsFree;refine wpAny_bind (wpAny_field hz rfl (x:=.none) rfl (wpAny_pure ?_));simp only [if_true];refine wpAny_bind (wpAny_rule (wpAny_bind (wpAny_field hz rfl (x:=.ref TO) rfl ?_)));refine wpAny_bind (wpAny_setField_rec hz (by simp) fun g1 hz1 s1=>?_);replace hz1:IsZip g1 z TI TO .ellipsis:=hz1;refine wpAny_bind ?_;simp only [List.zipIdx_cons,List.zipIdx_nil,List.forIn_cons,List.forIn_nil];refine wpAny_bind (wpAny_bind (wpAny_onRaise ?_));show wpAny _ _ (Builtin.SmallTypes.nextOf (.ref i1) >>= _) _ _ _;have k1:∀ c o,c≠z→s.heap.get? c=some o→g1.get? c=some o:=fun c o c1 e=>s1.extBut _ _ c1 e;have hO1:du g1 TO a1 a2 a3 a4 a5:=s1.extBut _ _ D.TOz hTO;refine wpAny_bind (lZ (h1.at fun o e=>k1 _ o D.i1z e) (ht1.at fun o e=>k1 _ o D.GC e) (fun x1 hx1 g2 w1 s2=>wpAny_pure ?_) fun hx1=>?_)
 · have hO2 : du g2 TO a1 a2 a3 a4 a5 := s2.extBut _ _ D.TOi1 hO1;refine wpAny_bind (wpAny_seqItems hO2 rfl (wpAny_bind (jc hO2 fun g3 hO3 s3=>?_)));replace hO3:du g3 TO x1 a2 a3 a4 a5:=hO3;refine wpAny_bind (wpAny_letGo (wpAny_pure ?_));refine wpAny_bind (wpAny_bind (wpAny_onRaise ?_));show wpAny _ _ (Builtin.SmallTypes.nextOf (.ref i2) >>= _) _ _ _;have k3:∀ c o,c≠z→c≠TO→c≠i1→s.heap.get? c=some o→g3.get? c=some o:=fun c o cz cT c1 e=>s3.extBut _ _ cT (s2.extBut _ _ c1 (k1 c o cz e));have hz3:IsZip g3 z TI TO .ellipsis:=s3.extBut _ _ D.TOz.symm (s2.extBut _ _ D.i1z.symm hz1);refine wpAny_bind (lZ (h2.at fun o e=>k3 _ o D.i2z D.TOi2.symm D.i12.symm e) (ht2.at fun o e=>k3 _ o D.GA D.CO D.Cu e) (fun x2 hx2 g4 w2 s4=>wpAny_pure ?_) fun hx2=>?_)
   · have hO4 : du g4 TO x1 a2 a3 a4 a5 := s4.extBut _ _ D.TOi2 hO3;refine wpAny_bind (wpAny_seqItems hO4 rfl (wpAny_bind (jc hO4 fun g5 hO5 s5=>?_)));replace hO5:du g5 TO x1 x2 a3 a4 a5:=hO5;refine wpAny_bind (wpAny_letGo (wpAny_pure ?_));refine wpAny_bind (wpAny_bind (wpAny_onRaise ?_));show wpAny _ _ (Builtin.SmallTypes.nextOf (.ref i3) >>= _) _ _ _;have k5:∀ c o,c≠z→c≠TO→c≠i1→c≠i2→s.heap.get? c=some o→g5.get? c=some o:=fun c o cz cT c1 c2 e=>s5.extBut _ _ cT (s4.extBut _ _ c2 (k3 c o cz cT c1 e));have hz5:IsZip g5 z TI TO .ellipsis:=s5.extBut _ _ D.TOz.symm (s4.extBut _ _ D.i2z.symm hz3);refine wpAny_bind (lZ (h3.at fun o e=>k5 _ o D.jU D.ky.symm D.Az.symm D.An.symm e) (ht3.at fun o e=>k5 _ o D.Gr D.CL D.CA D.BG e) (fun x3 hx3 g6 w3 s6=>wpAny_pure ?_) fun hx3=>?_)
     · have hO6 : du g6 TO x1 x2 a3 a4 a5 := s6.extBut _ _ D.ky hO5;refine wpAny_bind (wpAny_seqItems hO6 rfl (wpAny_bind (jc hO6 fun g7 hO7 s7=>?_)));replace hO7:du g7 TO x1 x2 x3 a4 a5:=hO7;refine wpAny_bind (wpAny_letGo (wpAny_pure ?_));refine wpAny_bind (wpAny_bind (wpAny_onRaise ?_));show wpAny _ _ (Builtin.SmallTypes.nextOf (.ref i4) >>= _) _ _ _;have k7:∀ c o,c≠z→c≠TO→c≠i1→c≠i2→c≠i3→s.heap.get? c=some o→g7.get? c=some o:=fun c o cz cT c1 c2 c3 e=>s7.extBut _ _ cT (s6.extBut _ _ c3 (k5 c o cz cT c1 c2 e));have hz7:IsZip g7 z TI TO .ellipsis:=s7.extBut _ _ D.TOz.symm (s6.extBut _ _ D.jU.symm hz5);refine wpAny_bind (lZ (h4.at fun o e=>k7 _ o D.xN D.zo.symm D.Tn.symm D.Ts.symm D.Tz.symm e) (ht4.at fun o e=>k7 _ o D.Wm D.T5 D.Ue D.UU D.Vu e) (fun x4 hx4 g8 w4 s8=>wpAny_pure ?_) fun hx4=>?_)
       · have hO8 : du g8 TO x1 x2 x3 a4 a5 := s8.extBut _ _ D.zo hO7;refine wpAny_bind (wpAny_seqItems hO8 rfl (wpAny_bind (jc hO8 fun g9 hO9 s9=>?_)));replace hO9:du g9 TO x1 x2 x3 x4 a5:=hO9;refine wpAny_bind (wpAny_letGo (wpAny_pure ?_));refine wpAny_bind (wpAny_bind (wpAny_onRaise ?_));show wpAny _ _ (Builtin.SmallTypes.nextOf (.ref i5) >>= _) _ _ _;have k9:∀ c o,c≠z→c≠TO→c≠i1→c≠i2→c≠i3→c≠i4→s.heap.get? c=some o→g9.get? c=some o:=fun c o cz cT c1 c2 c3 c4 e=>s9.extBut _ _ cT (s8.extBut _ _ c4 (k7 c o cz cT c1 c2 c3 e));have hz9:IsZip g9 z TI TO .ellipsis:=s9.extBut _ _ D.TOz.symm (s8.extBut _ _ D.xN.symm hz7);refine wpAny_bind (lZ (h5.at fun o e=>k9 _ o D.xa D.CN.symm D.Tp.symm D.Tt.symm D.Tg.symm D.S_.symm e) (ht5.at fun o e=>k9 _ o D.Wb D.T1 D.Ua D.T9 D.VP D.Vz e) (fun x5 hx5 g10 w5 s10=>wpAny_pure ?_) fun hx5=>?_)
         · have hO10 : du g10 TO x1 x2 x3 x4 a5 := s10.extBut _ _ D.CN hO9;refine wpAny_bind (wpAny_seqItems hO10 rfl (wpAny_bind (jc hO10 fun g11 hO11 s11=>?_)));replace hO11:du g11 TO x1 x2 x3 x4 x5:=hO11;refine wpAny_bind (wpAny_letGo (wpAny_pure (wpAny_pure ?_)));refine wpAny_bind (wpAny_seqItems hO11 rfl (wpAny_bind (wpAny_newTuple ?_)));have zL:g11.objs.size=s.heap.objs.size:=s11.1.trans (s10.1.trans (s9.1.trans (s8.1.trans (s7.1.trans (s6.1.trans (s5.1.trans (s4.1.trans (s3.1.trans (s2.1.trans (s1.1))))))))));have k11:∀ c o,c≠z→c≠TO→c≠i1→c≠i2→c≠i3→c≠i4→c≠i5→s.heap.get? c=some o→g11.get? c=some o:=fun c o cz cT c1 c2 c3 c4 c5 e=>s11.extBut _ _ cT (s10.extBut _ _ c5 (k9 c o cz cT c1 c2 c3 c4 e));have hz11:IsZip g11 z TI TO .ellipsis:=s11.extBut _ _ D.TOz.symm (s10.extBut _ _ D.xa.symm hz9);have f1:g11.IsListIter i1 t1 (k+1):=w1.at fun o e=>s11.extBut _ _ D.TOi1.symm (s10.extBut _ _ D.Tp (s9.extBut _ _ D.TOi1.symm (s8.extBut _ _ D.Tn (s7.extBut _ _ D.TOi1.symm (s6.extBut _ _ D.Az (s5.extBut _ _ D.TOi1.symm (s4.extBut _ _ D.i12 (s3.extBut _ _ D.TOi1.symm e))))))));have f2:g11.IsListIter i2 t2 (k+1):=w2.at fun o e=>s11.extBut _ _ D.TOi2.symm (s10.extBut _ _ D.Tt (s9.extBut _ _ D.TOi2.symm (s8.extBut _ _ D.Ts (s7.extBut _ _ D.TOi2.symm (s6.extBut _ _ D.An (s5.extBut _ _ D.TOi2.symm e))))));have f3:g11.IsListIter i3 t3 (k+1):=w3.at fun o e=>s11.extBut _ _ D.ky.symm (s10.extBut _ _ D.Tg (s9.extBut _ _ D.ky.symm (s8.extBut _ _ D.Tz (s7.extBut _ _ D.ky.symm e))));have f4:g11.IsListIter i4 t4 (k+1):=w4.at fun o e=>s11.extBut _ _ D.zo.symm (s10.extBut _ _ D.S_ (s9.extBut _ _ D.zo.symm e));have f5:g11.IsListIter i5 t5 (k+1):=w5.at fun o e=>s11.extBut _ _ D.CN.symm e;have zlt:z<g11.objs.size:=Heap.lt_size hz11;show wpAny _ _ (Builtin.SmallTypes.ownedTupleHandOut (.ref z) (.ref g11.objs.size) >>= _) _ _ _;refine wpAny_bind ?_;unfold Builtin.SmallTypes.ownedTupleHandOut;have hzA:IsZip (g11.push { cls:=.type "tuple",data:=.seq #[x1,x2,x3,x4,x5] }) z TI TO .ellipsis:=Heap.get?_push_of_some _ hz11;refine wpAny_bind (wpAny_setField_rec hzA (by simp) fun gB hzB sB=>?_);replace hzB:IsZip gB z TI TO (rawInt g11.objs.size):=hzB;refine wpAny_setField_rec hzB (by simp) fun gC hzC sC=>?_;replace hzC:IsZip gC z TI TO (rawInt g11.objs.size):=hzC;have up:∀ c o,c≠z→g11.get? c=some o→gC.get? c=some o:=fun c o c1 e=>sC.extBut _ _ c1 (sB.extBut _ _ c1 (Heap.get?_push_of_some _ e));have hTa:du gC g11.objs.size x1 x2 x3 x4 x5:=sC.extBut _ _ (Nat.ne_of_gt zlt) (sB.extBut _ _ (Nat.ne_of_gt zlt) (Heap.get?_push_size _ rfl))
           replace hzC:=(congrArg (fun n:Nat=>IsZip gC z TI TO (rawInt n)) zL).mp hzC
           replace hTa:=(congrArg (fun n:Nat=>du gC n x1 x2 x3 x4 x5) zL).mp hTa
           refine wpAny_pure ((congrArg (fun n:Nat=>Q (.done (.ret (.ref n))) { s with heap:=gC }) zL).mpr ?_);exact q1 x1 x2 x3 x4 x5 hx1 hx2 hx3 hx4 hx5 gC hzC (up _ _ D.TOz hO11) (f1.at fun o e=>up _ o D.i1z e) (f2.at fun o e=>up _ o D.i2z e) (f3.at fun o e=>up _ o D.jU e) (f4.at fun o e=>up _ o D.xN e) (f5.at fun o e=>up _ o D.xa e) hTa fun c o cz cT c1 c2 c3 c4 c5 e=>up c o cz (k11 c o cz cT c1 c2 c3 c4 c5 e)
         · obtain ⟨hh, q2⟩ := q2 (.inr (.inr (.inr (.inr hx5))));refine ⟨hh,fun g10 e s10 he=>?_⟩;obtain ⟨oe,hoe,hce⟩:=he;have hz10:IsZip g10 z TI TO .ellipsis:=s10 _ _ D.xa.symm hz9;have hez:e≠z:=fun v=>by subst v;rw [hz10] at hoe;cases hoe;simp at hce
           exact wpAny_setField_rec hz10 (by simp) fun gE _ sE=>q2 gE e (fun c o cz cT c1 c2 c3 c4 c5 v=>sE.extBut _ _ cz (s10 _ _ c5 (k9 c o cz cT c1 c2 c3 c4 v))) ⟨oe,sE.extBut _ _ hez hoe,hce⟩
       · obtain ⟨hh, q2⟩ := q2 (.inr (.inr (.inr (.inl hx4))));refine ⟨hh,fun g8 e s8 he=>?_⟩;obtain ⟨oe,hoe,hce⟩:=he;have hz8:IsZip g8 z TI TO .ellipsis:=s8 _ _ D.xN.symm hz7;have hez:e≠z:=fun v=>by subst v;rw [hz8] at hoe;cases hoe;simp at hce
         exact wpAny_setField_rec hz8 (by simp) fun gE _ sE=>q2 gE e (fun c o cz cT c1 c2 c3 c4 c5 v=>sE.extBut _ _ cz (s8 _ _ c4 (k7 c o cz cT c1 c2 c3 v))) ⟨oe,sE.extBut _ _ hez hoe,hce⟩
     · obtain ⟨hh, q2⟩ := q2 (.inr (.inr (.inl hx3)));refine ⟨hh,fun g6 e s6 he=>?_⟩;obtain ⟨oe,hoe,hce⟩:=he;have hz6:IsZip g6 z TI TO .ellipsis:=s6 _ _ D.jU.symm hz5;have hez:e≠z:=fun v=>by subst v;rw [hz6] at hoe;cases hoe;simp at hce
       exact wpAny_setField_rec hz6 (by simp) fun gE _ sE=>q2 gE e (fun c o cz cT c1 c2 c3 c4 c5 v=>sE.extBut _ _ cz (s6 _ _ c3 (k5 c o cz cT c1 c2 v))) ⟨oe,sE.extBut _ _ hez hoe,hce⟩
   · obtain ⟨hh, q2⟩ := q2 (.inr (.inl hx2));refine ⟨hh,fun g4 e s4 he=>?_⟩;obtain ⟨oe,hoe,hce⟩:=he;have hz4:IsZip g4 z TI TO .ellipsis:=s4 _ _ D.i2z.symm hz3;have hez:e≠z:=fun v=>by subst v;rw [hz4] at hoe;cases hoe;simp at hce
     exact wpAny_setField_rec hz4 (by simp) fun gE _ sE=>q2 gE e (fun c o cz cT c1 c2 c3 c4 c5 v=>sE.extBut _ _ cz (s4 _ _ c2 (k3 c o cz cT c1 v))) ⟨oe,sE.extBut _ _ hez hoe,hce⟩
 · obtain ⟨hh, q2⟩ := q2 (.inl hx1);refine ⟨hh,fun g2 e s2 he=>?_⟩;obtain ⟨oe,hoe,hce⟩:=he;have hz2:IsZip g2 z TI TO .ellipsis:=s2 _ _ D.i1z.symm hz1;have hez:e≠z:=fun v=>by subst v;rw [hz2] at hoe;cases hoe;simp at hce
   exact wpAny_setField_rec hz2 (by simp) fun gE _ sE=>q2 gE e (fun c o cz cT c1 c2 c3 c4 c5 v=>sE.extBut _ _ cz (s2 _ _ c1 (k1 c o cz v))) ⟨oe,sE.extBut _ _ hez hoe,hce⟩
end
abbrev iN (t:Addr):Obj:={ cls:=.type "list_iterator",data:=.fields #[.ref t,.int 0 0] }
abbrev Ta (a b c d e:Value):Obj:={ cls:=.type "tuple",data:=.seq #[a,b,c,d,e] }
def w_ (h:Heap) (t1 t2 t3 t4 t5:Addr):Heap:=h.push (iN t1)
def xC (h:Heap) (t1 t2 t3 t4 t5:Addr):Heap:=(w_ h t1 t2 t3 t4 t5).push (iN t2)
def xH (h:Heap) (t1 t2 t3 t4 t5:Addr):Heap:=(xC h t1 t2 t3 t4 t5).push (iN t3)
def xV (h:Heap) (t1 t2 t3 t4 t5:Addr):Heap:=(xH h t1 t2 t3 t4 t5).push (iN t4)
def xI (h:Heap) (t1 t2 t3 t4 t5:Addr):Heap:=(xV h t1 t2 t3 t4 t5).push (iN t5)
def xX (h:Heap) (t1 t2 t3 t4 t5:Addr):Heap:=(xI h t1 t2 t3 t4 t5).push (Ta (.ref h.objs.size) (.ref (w_ h t1 t2 t3 t4 t5).objs.size) (.ref (xC h t1 t2 t3 t4 t5).objs.size) (.ref (xH h t1 t2 t3 t4 t5).objs.size) (.ref (xV h t1 t2 t3 t4 t5).objs.size))
def xR (h:Heap) (t1 t2 t3 t4 t5:Addr):Heap:=(xX h t1 t2 t3 t4 t5).push (Ta .none .none .none .none .none)
def pK (h:Heap) (t1 t2 t3 t4 t5:Addr):Heap:=(xR h t1 t2 t3 t4 t5).push { cls:=.type "zip",data:=.fields #[.none,.bool false,.bool false,.ref (xI h t1 t2 t3 t4 t5).objs.size,.ref (xX h t1 t2 t3 t4 t5).objs.size] }
set_option maxHeartbeats 8000000 in
theorem B_ (t1 t2 t3 t4 t5:Addr) (X1 X2 X3 X4 X5:Array Value):Meets (Builtin.«zip.__new__» ⟨[.type "zip",.ref t1,.ref t2,.ref t3,.ref t4,.ref t5],[]⟩) (fun _ R s=>s.heap.IsList t1 X1∧s.heap.IsList t2 X2∧s.heap.IsList t3 X3∧s.heap.IsList t4 X4∧s.heap.IsList t5 X5∧R (.ok (.ret (.ref (xR s.heap t1 t2 t3 t4 t5).objs.size))) { s with heap:=pK s.heap t1 t2 t3 t4 t5 }) :=
 .of_wp fun prog w A R s h=>by
   obtain ⟨hp,g,d,tk,os⟩:=s;obtain ⟨hl1,hl2,hl3,hl4,hl5,h⟩:=h;have hsub:=sub_zip;have hL1:Heap.IsList (Shared.heap ⟨hp,g,d,tk,os⟩) t1 X1:=hl1;have hL2:Heap.IsList (Shared.heap ⟨(hp.push (iN t1)),g,d,tk,os⟩) t2 X2:=hl2.at fun o e=>Heap.get?_push_of_some _ (e);have hL3:Heap.IsList (Shared.heap ⟨((hp.push (iN t1)).push (iN t2)),g,d,tk,os⟩) t3 X3:=hl3.at fun o e=>Heap.get?_push_of_some _ (Heap.get?_push_of_some _ (e));have hL4:Heap.IsList (Shared.heap ⟨(((hp.push (iN t1)).push (iN t2)).push (iN t3)),g,d,tk,os⟩) t4 X4:=hl4.at fun o e=>Heap.get?_push_of_some _ (Heap.get?_push_of_some _ (Heap.get?_push_of_some _ (e)));have hL5:Heap.IsList (Shared.heap ⟨((((hp.push (iN t1)).push (iN t2)).push (iN t3)).push (iN t4)),g,d,tk,os⟩) t5 X5:=hl5.at fun o e=>Heap.get?_push_of_some _ (Heap.get?_push_of_some _ (Heap.get?_push_of_some _ (Heap.get?_push_of_some _ (e))))
   wp_walk using wpAny_pyIter_list hL1,wpAny_pyIter_list hL2,wpAny_pyIter_list hL3,wpAny_pyIter_list hL4,wpAny_pyIter_list hL5
   exact ⟨_,rfl,h⟩
theorem Bp (y1 y2 y3 y4 y5:Value):checkTypeCall "zip" ⟨[y1,y2,y3,y4,y5],[]⟩=pure ():=by kernel_rfl
theorem A2 (y1 y2 y3 y4 y5:Value):checkBuiltinCall "zip.__new__" ⟨[.type "zip",y1,y2,y3,y4,y5],[]⟩=pure ():=by kernel_rfl
theorem Bs (y0 y1 y2 y3 y4 y5:Value):argsOk "object.__init__" ⟨[y0,y1,y2,y3,y4,y5],[]⟩:=by unfold argsOk;rw [signature?_of (id:="object.__init__") (n:=['_','_','t','i','n','i','_','_']) (o:=['t','c','e','j','b','o']) (by kernel_rfl) PySem.F.owner_object];kernel_rfl
section
variable {prog:Program} {w:World} {A:Around} {E:Value→Shared→Prop} {s:Shared}
theorem CQ {t1 t2 t3 t4 t5 : Addr} {X1 X2 X3 X4 X5 : Array Value} {Q : Value → Shared → Prop} (h1 : s.heap.IsList t1 X1) (h2 : s.heap.IsList t2 X2) (h3 : s.heap.IsList t3 X3) (h4 : s.heap.IsList t4 X4) (h5 : s.heap.IsList t5 X5)
   (q : ∀ h' n, n = s.heap.objs.size → IsZip h' (n + 7) (n + 5) (n + 6) .none → du h' (n + 5) (.ref n) (.ref (n + 1)) (.ref (n + 2)) (.ref (n + 3)) (.ref (n + 4)) → du h' (n + 6) .none .none .none .none .none → h'.IsListIter n t1 0 → h'.IsListIter (n + 1) t2 0 → h'.IsListIter (n + 2) t3 0 → h'.IsListIter (n + 3) t4 0 → h'.IsListIter (n + 4) t5 0 →
     (∀ c o,s.heap.get? c=some o→h'.get? c=some o)→Q (.ref (n+7)) { s with heap:=h' }):wpAny (model prog w) A (call (.type "zip") [.ref t1,.ref t2,.ref t3,.ref t4,.ref t5]) Q E s:=by
 refine callType_new F.called_zip (by decide) (Bp _ _ _ _ _) (A2 _ _ _ _ _) (fun obj=>Bs obj _ _ _ _ _) F.entry_zip_new (B_ t1 t2 t3 t4 t5 X1 X2 X3 X4 X5) ⟨h1,h2,h3,h4,h5,?_⟩;have z1:(w_ s.heap t1 t2 t3 t4 t5).objs.size=s.heap.objs.size+1:=Heap.size_push ..;have z2:(xC s.heap t1 t2 t3 t4 t5).objs.size=s.heap.objs.size+2:=(Heap.size_push ..).trans (congrArg (· + 1) z1);have z3:(xH s.heap t1 t2 t3 t4 t5).objs.size=s.heap.objs.size+3:=(Heap.size_push ..).trans (congrArg (· + 1) z2);have z4:(xV s.heap t1 t2 t3 t4 t5).objs.size=s.heap.objs.size+4:=(Heap.size_push ..).trans (congrArg (· + 1) z3);have z5:(xI s.heap t1 t2 t3 t4 t5).objs.size=s.heap.objs.size+5:=(Heap.size_push ..).trans (congrArg (· + 1) z4);have z6:(xX s.heap t1 t2 t3 t4 t5).objs.size=s.heap.objs.size+6:=(Heap.size_push ..).trans (congrArg (· + 1) z5);have z7:(xR s.heap t1 t2 t3 t4 t5).objs.size=s.heap.objs.size+7:=(Heap.size_push ..).trans (congrArg (· + 1) z6);have p8:∀ c o,(xR s.heap t1 t2 t3 t4 t5).get? c=some o→(pK s.heap t1 t2 t3 t4 t5).get? c=some o:=fun c o e=>Heap.get?_push_of_some _ e;have p7:∀ c o,(xX s.heap t1 t2 t3 t4 t5).get? c=some o→(pK s.heap t1 t2 t3 t4 t5).get? c=some o:=fun c o e=>p8 c o (Heap.get?_push_of_some _ e);have p6:∀ c o,(xI s.heap t1 t2 t3 t4 t5).get? c=some o→(pK s.heap t1 t2 t3 t4 t5).get? c=some o:=fun c o e=>p7 c o (Heap.get?_push_of_some _ e);have p5:∀ c o,(xV s.heap t1 t2 t3 t4 t5).get? c=some o→(pK s.heap t1 t2 t3 t4 t5).get? c=some o:=fun c o e=>p6 c o (Heap.get?_push_of_some _ e);have p4:∀ c o,(xH s.heap t1 t2 t3 t4 t5).get? c=some o→(pK s.heap t1 t2 t3 t4 t5).get? c=some o:=fun c o e=>p5 c o (Heap.get?_push_of_some _ e);have p3:∀ c o,(xC s.heap t1 t2 t3 t4 t5).get? c=some o→(pK s.heap t1 t2 t3 t4 t5).get? c=some o:=fun c o e=>p4 c o (Heap.get?_push_of_some _ e);have p2:∀ c o,(w_ s.heap t1 t2 t3 t4 t5).get? c=some o→(pK s.heap t1 t2 t3 t4 t5).get? c=some o:=fun c o e=>p3 c o (Heap.get?_push_of_some _ e);have e8:(pK s.heap t1 t2 t3 t4 t5).get? (xR s.heap t1 t2 t3 t4 t5).objs.size=some _:=Heap.get?_push_size _ rfl;have e7:=p8 _ _ (show (xR s.heap t1 t2 t3 t4 t5).get? (xX s.heap t1 t2 t3 t4 t5).objs.size=some _ from Heap.get?_push_size _ rfl);have e6:=p7 _ _ (show (xX s.heap t1 t2 t3 t4 t5).get? (xI s.heap t1 t2 t3 t4 t5).objs.size=some _ from Heap.get?_push_size _ rfl);have e5:=p6 _ _ (show (xI s.heap t1 t2 t3 t4 t5).get? (xV s.heap t1 t2 t3 t4 t5).objs.size=some _ from Heap.get?_push_size _ rfl);have e4:=p5 _ _ (show (xV s.heap t1 t2 t3 t4 t5).get? (xH s.heap t1 t2 t3 t4 t5).objs.size=some _ from Heap.get?_push_size _ rfl);have e3:=p4 _ _ (show (xH s.heap t1 t2 t3 t4 t5).get? (xC s.heap t1 t2 t3 t4 t5).objs.size=some _ from Heap.get?_push_size _ rfl);have e2:=p3 _ _ (show (xC s.heap t1 t2 t3 t4 t5).get? (w_ s.heap t1 t2 t3 t4 t5).objs.size=some _ from Heap.get?_push_size _ rfl);have e1:=p2 _ _ (show (w_ s.heap t1 t2 t3 t4 t5).get? s.heap.objs.size=some _ from Heap.get?_push_size _ rfl);rw [z5,z6,z7] at e8;rw [z6] at e7;rw [z5,z1,z2,z3,z4] at e6;rw [z4] at e5;rw [z3] at e4;rw [z2] at e3;rw [z1] at e2;show _∧_;rw [z7];exact ⟨⟨_,e8,rfl⟩,q _ _ rfl e8 e6 e7 ⟨_,e1,rfl,rfl⟩ ⟨_,e2,rfl,rfl⟩ ⟨_,e3,rfl,rfl⟩ ⟨_,e4,rfl,rfl⟩ ⟨_,e5,rfl,rfl⟩ fun c o x=>p2 c o (Heap.get?_push_of_some _ x)⟩
theorem u_ {z TI TO i1 i2 i3 i4 i5 t1 t2 t3 t4 t5 : Addr} {k : Nat} {X1 X2 X3 X4 X5 : Array Value} {a1 a2 a3 a4 a5 : Value} {Q : Option Value → Shared → Prop} (D : uQ z TI TO i1 i2 i3 i4 i5 t1 t2 t3 t4 t5) (hz : IsZip s.heap z TI TO .none) (hTI : du s.heap TI (.ref i1) (.ref i2) (.ref i3) (.ref i4) (.ref i5)) (hTO : du s.heap TO a1 a2 a3 a4 a5)
   (h1:s.heap.IsListIter i1 t1 k) (h2:s.heap.IsListIter i2 t2 k) (h3:s.heap.IsListIter i3 t3 k) (h4:s.heap.IsListIter i4 t4 k) (h5:s.heap.IsListIter i5 t5 k) (ht1:s.heap.IsList t1 X1) (ht2:s.heap.IsList t2 X2) (ht3:s.heap.IsList t3 X3) (ht4:s.heap.IsList t4 X4) (ht5:s.heap.IsList t5 X5)
   (q1 : ∀ x1 x2 x3 x4 x5, X1[k]? = some x1 → X2[k]? = some x2 → X3[k]? = some x3 → X4[k]? = some x4 → X5[k]? = some x5 → ∀ h', IsZip h' z TI TO (rawInt s.heap.objs.size) → du h' TO x1 x2 x3 x4 x5 → h'.IsListIter i1 t1 (k + 1) → h'.IsListIter i2 t2 (k + 1) → h'.IsListIter i3 t3 (k + 1) → h'.IsListIter i4 t4 (k + 1) → h'.IsListIter i5 t5 (k + 1) → du h' s.heap.objs.size x1 x2 x3 x4 x5 →
     (∀ c o,c≠z→c≠TO→c≠i1→c≠i2→c≠i3→c≠i4→c≠i5→s.heap.get? c=some o→h'.get? c=some o)→Q (some (.ref s.heap.objs.size)) { s with heap:=h' })
   (q2:(X1[k]? = none∨X2[k]? = none∨X3[k]? = none∨X4[k]? = none∨X5[k]? = none)→A.handled=none∧∀ h',(∀ c o,c≠z→c≠TO→c≠i1→c≠i2→c≠i3→c≠i4→c≠i5→s.heap.get? c=some o→h'.get? c=some o)→Q none { s with heap:=h' }) :
   wpAny (model prog w) A (pyNext (.ref z)) Q E s:=by
 have hT:s.TypeIs (.ref z) "zip":=⟨_,hz,rfl⟩;unfold pyNext;refine wpAny_bind (wpAny_attempt (wpAny_callSpecial?_slot (name:=Str.ofString "__next__") hT F.slot_zip_next (wpAny_call_entry F.slot_zip_next hT F.entry_zip_next ?_ (F.args_zip_next_1 _))));refine Vt D hz hTI hTO h1 h2 h3 h4 h5 ht1 ht2 ht3 ht4 ht5 (fun x1 x2 x3 x4 x5 hx1 hx2 hx3 hx4 hx5 h' y1 y2 b1 b2 b3 b4 b5 y3 y4=>⟨_,rfl,wpAny_pure (q1 x1 x2 x3 x4 x5 hx1 hx2 hx3 hx4 hx5 h' y1 y2 b1 b2 b3 b4 b5 y3 y4)⟩) fun he=>⟨(q2 he).1,fun h' e kk ho=>?_⟩;obtain ⟨o,ho,hc⟩:=ho;exact wpAny_bind (wpAny_isInstance (T:="StopIteration") (b:=true) ⟨o,ho,hc⟩ isSubtype_stop (wpAny_pure ((q2 he).2 _ kk)))
end
end L3
namespace L3
open PySem PySem.Spec PyProof.Rows L2
def yG (K:W.Frag) (l1 l2 l3 l4 l5:Addr):It :=
 ⟨fun i H => ∃ X1 X2 X3 X4 X5 x1 x2 x3 x4 x5, aA K H l1 X1 ∧ aA K H l2 X2 ∧ aA K H l3 X3 ∧ aA K H l4 X4 ∧ aA K H l5 X5 ∧ X1[i]? = some x1 ∧ X2[i]? = some x2 ∧ X3[i]? = some x3 ∧ X4[i]? = some x4 ∧ X5[i]? = some x5,
  fun i H v H'=>∃ T x1 x2 x3 x4 x5,v=.ref T∧H T=none∧H'=upd H T (.tup [x1,x2,x3,x4,x5])∧∀ X1 X2 X3 X4 X5,aA K H l1 X1→aA K H l2 X2→aA K H l3 X3→aA K H l4 X4→aA K H l5 X5→X1[i]? = some x1∧X2[i]? = some x2∧X3[i]? = some x3∧X4[i]? = some x4∧X5[i]? = some x5,
  fun i H=>∃ X1 X2 X3 X4 X5,aA K H l1 X1∧aA K H l2 X2∧aA K H l3 X3∧aA K H l4 X4∧aA K H l5 X5∧(X1.length≤i∨X2.length≤i∨X3.length≤i∨X4.length≤i∨X5.length≤i)⟩
theorem Al {P : Program} {w : World} {K : W.Frag} {es : List Expr} {n : Nat} {pos : Pos} {l1 l2 l3 l4 l5 z TI TO i1 i2 i3 i4 i5 : Addr} (D : uQ z TI TO i1 i2 i3 i4 i5 l1 l2 l3 l4 l5) :
   Turn P w K (.Tuple es n pos) (yG K l1 l2 l3 l4 l5) [z,TI,TO,i1,i2,i3,i4,i5] z (fun i h=>IsZip h z TI TO .none∧du h TI (.ref i1) (.ref i2) (.ref i3) (.ref i4) (.ref i5)∧(∃ x1 x2 x3 x4 x5,du h TO x1 x2 x3 x4 x5)∧h.IsListIter i1 l1 i∧h.IsListIter i2 l2 i∧h.IsListIter i3 l3 i∧h.IsListIter i4 l4 i∧h.IsListIter i5 l5 i) where
 mem:=by simp
 obj:=fun i h st d hd=>by
   obtain ⟨hz,hI,⟨x1,x2,x3,x4,x5,hO⟩,⟨o1,e1,_,d1⟩,⟨o2,e2,_,d2⟩,⟨o3,e3,_,d3⟩,⟨o4,e4,_,d4⟩,⟨o5,e5,_,d5⟩⟩:=st;have hd:d=z∨d=TI∨d=TO∨d=i1∨d=i2∨d=i3∨d=i4∨d=i5:=by simpa using hd
   rcases hd with rfl | rfl | rfl | rfl | rfl | rfl | rfl | rfl
   · exact ⟨_,hz,fun v e=>by cases e⟩
   · exact ⟨_,hI,fun v e=>by cases e⟩
   · exact ⟨_,hO,fun v e=>by cases e⟩
   · exact ⟨_,e1,fun v e=>by rw [d1] at e;cases e⟩
   · exact ⟨_,e2,fun v e=>by rw [d2] at e;cases e⟩
   · exact ⟨_,e3,fun v e=>by rw [d3] at e;cases e⟩
   · exact ⟨_,e4,fun v e=>by rw [d4] at e;cases e⟩
   · exact ⟨_,e5,fun v e=>by rw [d5] at e;cases e⟩
 keep:=fun i h h' st k=>by
   obtain ⟨hz,hI,⟨x1,x2,x3,x4,x5,hO⟩,h1,h2,h3,h4,h5⟩:=st;exact ⟨k z (by simp) _ hz,k TI (by simp) _ hI,⟨x1,x2,x3,x4,x5,k TO (by simp) _ hO⟩,h1.at fun o e=>k i1 (by simp) o e,h2.at fun o e=>k i2 (by simp) o e,h3.at fun o e=>k i3 (by simp) o e,h4.at fun o e=>k i4 (by simp) o e,h5.at fun o e=>k i5 (by simp) o e⟩
 item:=by
   intro X hP hw hK hc i pins s σ H E I hf st hg;subst hP hw hK;obtain ⟨hz,hI,⟨w1,w2,w3,w4,w5,hO⟩,h1,h2,h3,h4,h5⟩:=st;obtain ⟨X1,X2,X3,X4,X5,x1,x2,x3,x4,x5,hq1,hq2,hq3,hq4,hq5,hx1,hx2,hx3,hx4,hx5⟩:=hg;obtain ⟨its1,rv1,p1,_⟩:=I.list hq1;obtain ⟨its2,rv2,p2,_⟩:=I.list hq2;obtain ⟨its3,rv3,p3,_⟩:=I.list hq3;obtain ⟨its4,rv4,p4,_⟩:=I.list hq4;obtain ⟨its5,rv5,p5,_⟩:=I.list hq5;obtain ⟨u1,hu1,r1⟩:=rv1.get hx1;obtain ⟨u2,hu2,r2⟩:=rv2.get hx2;obtain ⟨u3,hu3,r3⟩:=rv3.get hx3;obtain ⟨u4,hu4,r4⟩:=rv4.get hx4;obtain ⟨u5,hu5,r5⟩:=rv5.get hx5;refine u_ D hz hI hO h1 h2 h3 h4 h5 p1.isList p2.isList p3.isList p4.isList p5.isList (fun v1 v2 v3 v4 v5 hv1 hv2 hv3 hv4 hv5 h' z1 z2 y1 y2 y3 y4 y5  z9 kk=>?_) fun he=>?_
   · have eq1 : v1 = u1 := by simpa [hu1] using hv1.symm
     have eq2:v2=u2:=by simpa [hu2] using hv2.symm
     have eq3:v3=u3:=by simpa [hu3] using hv3.symm
     have eq4:v4=u4:=by simpa [hu4] using hv4.symm
     have eq5:v5=u5:=by simpa [hu5] using hv5.symm
     subst eq1 eq2 eq3 eq4 eq5;refine ⟨_,rfl,wpAny_letOwnedTupleGo_zip z1 fun h2' hz2 s2=>?_⟩;have T0:H s.heap.objs.size=none:=I.aG.fresh (Nat.le_refl _);have tz:s.heap.objs.size≠z:=Nat.ne_of_gt (Heap.lt_size hz);have J:Inv X pins σ (upd H s.heap.objs.size (.tup [x1,x2,x3,x4,x5])) { s with heap:=h2' }:=by
       refine jy (ch:=[z,TI,TO,i1,i2,i3,i4,i5]) I hf (Nat.le_refl _) (fun d o hd e=>?_) (fun d hd=>?_) ?_
       · have c1 : d ≠ z := fun q => hd (by simp [q]);exact s2.extBut _ _ c1 (kk d o c1 (fun q=>hd (by simp [q])) (fun q=>hd (by simp [q])) (fun q=>hd (by simp [q])) (fun q=>hd (by simp [q])) (fun q=>hd (by simp [q])) (fun q=>hd (by simp [q])) e)
       · have hd : d = z ∨ d = TI ∨ d = TO ∨ d = i1 ∨ d = i2 ∨ d = i3 ∨ d = i4 ∨ d = i5 := by simpa using hd
         rcases hd with rfl | rfl | rfl | rfl | rfl | rfl | rfl | rfl
         · exact ⟨_,hz2⟩
         · exact ⟨_,s2.extBut _ _ D.TIz (kk _ _ D.TIz D.TITO D.TIi1 D.TIi2 D.uD D.G0 D.Gi hI)⟩
         · exact ⟨_,s2.extBut _ _ D.TOz z2⟩
         · obtain ⟨o,e,_⟩:=y1;exact ⟨o,s2.extBut _ _ D.i1z e⟩
         · obtain ⟨o,e,_⟩:=y2;exact ⟨o,s2.extBut _ _ D.i2z e⟩
         · obtain ⟨o,e,_⟩:=y3;exact ⟨o,s2.extBut _ _ D.jU e⟩
         · obtain ⟨o,e,_⟩:=y4;exact ⟨o,s2.extBut _ _ D.xN e⟩
         · obtain ⟨o,e,_⟩:=y5;exact ⟨o,s2.extBut _ _ D.xa e⟩
       · exact ⟨by show 5≤sizeLine;decide,[v1,v2,v3,v4,v5],(.cons r1 (.cons r2 (.cons r3 (.cons r4 (.cons r5 .nil))))),⟨_,s2.extBut _ _ tz z9,rfl,_,rfl⟩⟩
     refine ⟨.ref s.heap.objs.size,_,J,rfl,⟨_,x1,x2,x3,x4,x5,rfl,T0,rfl,fun Y1 Y2 Y3 Y4 Y5 q1 q2 q3 q4 q5=>?_⟩,⟨hz2,s2.extBut _ _ D.TIz (kk _ _ D.TIz D.TITO D.TIi1 D.TIi2 D.uD D.G0 D.Gi hI),⟨_,_,_,_,_,s2.extBut _ _ D.TOz z2⟩,y1.at fun o e=>s2.extBut _ _ D.i1z e,y2.at fun o e=>s2.extBut _ _ D.i2z e,y3.at fun o e=>s2.extBut _ _ D.jU e,y4.at fun o e=>s2.extBut _ _ D.xN e,y5.at fun o e=>s2.extBut _ _ D.xa e⟩,fun d hd=>?_⟩
     · rw [I.fc q1 hq1,I.fc q2 hq2,I.fc q3 hq3,I.fc q4 hq4,I.fc q5 hq5];exact ⟨hx1,hx2,hx3,hx4,hx5⟩
     · have hlt : d < s.heap.objs.size := by
         have hd:d=z∨d=TI∨d=TO∨d=i1∨d=i2∨d=i3∨d=i4∨d=i5:=by simpa using hd
         rcases hd with e | e | e | e | e | e | e | e <;> rw [e]
         · exact Heap.lt_size hz
         · exact Heap.lt_size hI
         · exact Heap.lt_size hO
         · obtain ⟨o,e,_⟩:=h1;exact Heap.lt_size e
         · obtain ⟨o,e,_⟩:=h2;exact Heap.lt_size e
         · obtain ⟨o,e,_⟩:=h3;exact Heap.lt_size e
         · obtain ⟨o,e,_⟩:=h4;exact Heap.lt_size e
         · obtain ⟨o,e,_⟩:=h5;exact Heap.lt_size e
       rw [aw (Nat.ne_of_lt hlt)];exact (hf d hd).1
   · exfalso
     rcases he with he | he | he | he | he
     · simp [hu1] at he
     · simp [hu2] at he
     · simp [hu3] at he
     · simp [hu4] at he
     · simp [hu5] at he
 done:=by
   intro X hP hw hK hc i pins s σ H E I hf st hg;subst hP hw hK;obtain ⟨hz,hI,⟨w1,w2,w3,w4,w5,hO⟩,h1,h2,h3,h4,h5⟩:=st;obtain ⟨X1,X2,X3,X4,X5,hq1,hq2,hq3,hq4,hq5,hl⟩:=hg;obtain ⟨its1,rv1,p1,_⟩:=I.list hq1;have Dm:=rv1.length;obtain ⟨its2,rv2,p2,_⟩:=I.list hq2;have ln2:=rv2.length;obtain ⟨its3,rv3,p3,_⟩:=I.list hq3;have Fn:=rv3.length;obtain ⟨its4,rv4,p4,_⟩:=I.list hq4;have Ff:=rv4.length;obtain ⟨its5,rv5,p5,_⟩:=I.list hq5;have ln5:=rv5.length;refine u_ D hz hI hO h1 h2 h3 h4 h5 p1.isList p2.isList p3.isList p4.isList p5.isList (fun v1 v2 v3 v4 v5 hv1 hv2 hv3 hv4 hv5 h' z1 z2 y1 y2 y3 y4 y5 z9 kk=>?_) fun he=>⟨I.ok.hd hc,fun h' kk=>⟨rfl,?_⟩⟩
   · exfalso
     have g1:i<its1.length:=by simpa using (Array.getElem?_eq_some_iff.mp hv1).1
     have g2:i<its2.length:=by simpa using (Array.getElem?_eq_some_iff.mp hv2).1
     have g3:i<its3.length:=by simpa using (Array.getElem?_eq_some_iff.mp hv3).1
     have g4:i<its4.length:=by simpa using (Array.getElem?_eq_some_iff.mp hv4).1
     have g5:i<its5.length:=by simpa using (Array.getElem?_eq_some_iff.mp hv5).1
     omega
   · have hnc : ∀ d o, d ∉ [z, TI, TO, i1, i2, i3, i4, i5] → s.heap.get? d = some o → h'.get? d = some o := fun d o hd e => kk d o (fun q => hd (by simp [q])) (fun q => hd (by simp [q])) (fun q => hd (by simp [q])) (fun q => hd (by simp [q])) (fun q => hd (by simp [q])) (fun q => hd (by simp [q])) (fun q => hd (by simp [q])) e;refine I.ko (s':={ s with heap:=h' }) (ch:=[z,TI,TO,i1,i2,i3,i4,i5]) rfl ⟨fun b o e _ _ hc=>hnc b o hc e,fun b o e _ _ hc=>⟨o.slots,hnc b o hc e⟩,fun b o e n _=>n,fun b o e hc=>⟨o,hnc b o hc e⟩,fun _ _ e=>e,fun _ _ _ e=>e,fun b ps e=>⟨#[],by rw [e];simp⟩⟩ (fun b u e=>?_) I.bare ?_
     · have nc : ∀ b u, H b = some u → b ∉ [z, TI, TO, i1, i2, i3, i4, i5] := fun b u e hb => by rw [(hf b hb).1] at e; cases e
       refine (I.aG b u e).iq (fun d v hd q=>hnc d v ?_ q) (fun _ q=>q) fun _ _ q=>q;rcases hd with q | q
       · rw [q];exact nc b u e
       · exact nc d _ q
     · intro b hb;obtain ⟨f0,f1,f2,f3,f4,f5⟩:=hf b hb;exact ⟨f3,f1,f4,f5⟩
 self:=fun _ _ _ _ _ st h=>wpAny_pyIter_zip st.1 h
def C3 (K:W.Frag) (ta:TA):TI:=fun σ H R=>ta σ H fun vs H1=>∃ l1 l2 l3 l4 l5 X1 X2 X3 X4 X5,vs=[.ref l1,.ref l2,.ref l3,.ref l4,.ref l5]∧aA K H1 l1 X1∧aA K H1 l2 X2∧aA K H1 l3 X3∧aA K H1 l4 X4∧aA K H1 l5 X5∧R (yG K l1 l2 l3 l4 l5) H1
theorem FJ {K:W.Frag} {ta:TA} {σ : St} {H:Hp} {R:It→Hp→Prop} (q:ta σ H fun vs H1=>∃ l1 l2 l3 l4 l5 X1 X2 X3 X4 X5,vs=[.ref l1,.ref l2,.ref l3,.ref l4,.ref l5]∧aA K H1 l1 X1∧aA K H1 l2 X2∧aA K H1 l3 X3∧aA K H1 l4 X4∧aA K H1 l5 X5∧R (yG K l1 l2 l3 l4 l5) H1):C3 K ta σ H R:=q
theorem Ej {X : Cx} {K : W.Frag} {es : List Expr} {n : Nat} {tpos : Pos} {m1 m2 m3 m4 m5 : Expr} {ta : TA} {p pos : Pos} (hK : X.K = K) (hg : Gl X "zip") (hm : X.mg "zip" = none) (ha : PA X [m1, m2, m3, m4, m5] ta)
   (hs:starEach [m1,m2,m3,m4,m5] X.env=[(false,eval m1 X.env),(false,eval m2 X.env),(false,eval m3 X.env),(false,eval m4 X.env),(false,eval m5 X.env)]:=by rfl) (hs2:starEach [m2,m3,m4,m5] X.env=[(false,eval m2 X.env),(false,eval m3 X.env),(false,eval m4 X.env),(false,eval m5 X.env)]:=by rfl) :
   PI X (.Tuple es n tpos) (.Call (.Name "zip" p) [m1,m2,m3,m4,m5] [] pos) (C3 K ta):=by
 subst hK;intro pins s σ H R I h;refine Call_ (gb I hg hm tX (PyProof.Rows.callWith_type1 (br (ha pos pins s σ H _ I h) fun us s1 ⟨vs,H1,I1,r1,q1⟩=>?_) (by rw [hs,hs2]) (by rw [hs2];rfl)));obtain ⟨l1,l2,l3,l4,l5,X1,X2,X3,X4,X5,e,hx1,hx2,hx3,hx4,hx5,q⟩:=q1;subst e;cases r1 with
 | cons ra1 rr =>
   cases rr with
   | cons ra2 rr =>
     cases rr with
     | cons ra3 rr =>
       cases rr with
       | cons ra4 rr =>
         cases rr with
         | cons ra5 rr =>
           cases rr
           cases ra1
           cases ra2
           cases ra3
           cases ra4
           cases ra5
           obtain ⟨its1,rv1,p1,_⟩:=I1.list hx1;have lt1:l1<s1.heap.objs.size:=p1.lt;obtain ⟨its2,rv2,p2,_⟩:=I1.list hx2;have lt2:l2<s1.heap.objs.size:=p2.lt;obtain ⟨its3,rv3,p3,_⟩:=I1.list hx3;have lt3:l3<s1.heap.objs.size:=p3.lt;obtain ⟨its4,rv4,p4,_⟩:=I1.list hx4;have lt4:l4<s1.heap.objs.size:=p4.lt;obtain ⟨its5,rv5,p5,_⟩:=I1.list hx5;have lt5:l5<s1.heap.objs.size:=p5.lt;refine CQ p1.isList p2.isList p3.isList p4.isList p5.isList fun h' m hm' z1 z2 z3 y1 y2 y3 y4 y5 kk=>?_;subst hm';refine wpAny_pyIter_zip z1 ⟨_,[s1.heap.objs.size+7,s1.heap.objs.size+5,s1.heap.objs.size+6,s1.heap.objs.size,s1.heap.objs.size+1,s1.heap.objs.size+2,s1.heap.objs.size+3,s1.heap.objs.size+4],_,_,H1,rfl,I1.kept (t':=s1.toks) kk,Al ⟨?_,?_,?_,?_,?_,?_,?_,?_,?_,?_,?_,?_,?_,?_,?_,?_,?_,?_,?_,?_,?_,?_,?_,?_,?_,?_,?_,?_,?_,?_,?_,?_,?_,?_,?_,?_,?_,?_,?_,?_,?_,?_,?_,?_,?_,?_,?_⟩,⟨z1,z2,⟨_,_,_,_,_,z3⟩,y1,y2,y3,y4,y5⟩,fun d hd=>?last,q⟩
           case last =>
             have hd:d=s1.heap.objs.size+7∨d=s1.heap.objs.size+5∨d=s1.heap.objs.size+6∨d=s1.heap.objs.size∨d=s1.heap.objs.size+1∨d=s1.heap.objs.size+2∨d=s1.heap.objs.size+3∨d=s1.heap.objs.size+4:=by simpa using hd
             have hge:s1.heap.objs.size≤d:=by rcases hd with e | e | e | e | e | e | e | e <;> rw [e] <;> first | exact Nat.le_add_right _ _ | exact Nat.le_refl _
             exact I1.jC hge (I1.aG.fresh hge)
           all_goals (intro e;have e' : @Eq Nat _ _:=e;have lt1' : @LT.lt Nat _ _ _:=lt1;have lt2' : @LT.lt Nat _ _ _:=lt2;have lt3' : @LT.lt Nat _ _ _:=lt3;have lt4' : @LT.lt Nat _ _ _:=lt4;have lt5' : @LT.lt Nat _ _ _:=lt5;omega)
theorem B7 {K : W.Frag} {l1 l2 l3 l4 l5 : Addr} {X1 X2 X3 X4 X5 : List V} {g : TG} {tb : TS} {D : Ends} {σ : St} {H : Hp} (hy2 : X2.length = X1.length) (hy3 : X3.length = X1.length) (hy4 : X4.length = X1.length) (hy5 : X5.length = X1.length) (Pv : Nat → St → Hp → Prop) (h0 : Pv 0 σ H) (hl : ∀ i σ H, i ≤ X1.length → Pv i σ H → aA K H l1 X1 ∧ aA K H l2 X2 ∧ aA K H l3 X3 ∧ aA K H l4 X4 ∧ aA K H l5 X5)
   (hs:∀ i x1 x2 x3 x4 x5 T σ H,X1[i]? = some x1→X2[i]? = some x2→X3[i]? = some x3→X4[i]? = some x4→X5[i]? = some x5→Pv i σ H→H T=none→g (.ref T) σ (upd H T (.tup [x1,x2,x3,x4,x5])) fun σ2 H2=>tb { D with nx:=Pv (i+1),ct:=Pv (i+1),bk:=D.nx } σ2 H2) (hd:∀ σ H,Pv X1.length σ H→D.nx σ H):BJ (yG K l1 l2 l3 l4 l5) g tb D σ H:=by
 refine ⟨fun i m σ H=>m=X1.length - i∧i≤X1.length∧Pv i σ H,⟨X1.length,by simp,Nat.zero_le _,h0⟩,?_⟩;rintro i m σ H ⟨rfl,hi,p⟩;obtain ⟨q1,q2,q3,q4,q5⟩:=hl i σ H hi p;by_cases hlt:i<X1.length
 · refine .inr ⟨⟨X1, X2, X3, X4, X5, X1[i], X2[i], X3[i], X4[i], X5[i], q1, q2, q3, q4, q5, by simp [hlt], by simp [hy2, hlt], by simp [hy3, hlt], by simp [hy4, hlt], by simp [hy5, hlt]⟩, Pv (i + 1), fun σ' H' p' => ⟨X1.length - (i + 1), by omega, rfl, hlt, p'⟩, fun x H' y => ?_⟩;obtain ⟨T,x1,x2,x3,x4,x5,rfl,hT,rfl,hxy⟩:=y;obtain ⟨r1,r2,r3,r4,r5⟩:=hxy _ _ _ _ _ q1 q2 q3 q4 q5;exact hs i x1 x2 x3 x4 x5 T σ H r1 r2 r3 r4 r5 p hT
 · have e : i = X1.length := by omega
   subst e;exact .inl ⟨⟨X1,X2,X3,X4,X5,q1,q2,q3,q4,q5,.inl (Nat.le_refl _)⟩,hd σ H p⟩
end L3
namespace FB
open PySem PySem.Spec PyProof.Rows L2 L3 PySem.SeqAt
local macro_rules | `(tactic| walk_at "clok") => `(tactic| repeat (first | exact True.intro | refine ⟨rfl, ?_⟩))
local macro_rules | `(tactic| walk_at "frok") => `(tactic| repeat (first | exact True.intro | refine ⟨⟨rfl, (by first | exact Or.inl rfl | exact Or.inr rfl), (by first | exact Or.inl rfl | exact Or.inr rfl), rfl⟩, ?_⟩))
local macro_rules | `(tactic| walk_at "hlk") => `(tactic| first | (with_reducible assumption) | (exact ae) | ((with_reducible refine' ay ?x ?y); (case y => with_reducible assumption); (case x => walk_at "hlk")) | ((fail_if_success (((with_reducible refine' ay ?x ?y); (case y => with_reducible assumption)))); (with_reducible refine' q0 ?x ?y); (case x => walk_at "ne"); (case y => walk_at "hlk")) | ((with_reducible refine' same_at ?x ?y); (case x => with_reducible assumption); (case y => walk_at "hlk")))
local macro_rules | `(tactic| walk_at "ne") => `(tactic| first | (with_reducible assumption) | (apply Ne.symm; (with_reducible assumption)) | ((with_reducible refine' aq ?x ?y); (case y => with_reducible assumption); (case x => walk_at "hlk")) | (apply Ne.symm; (with_reducible refine' aq ?x ?y); (case y => with_reducible assumption); (case x => walk_at "hlk")))
local macro_rules | `(tactic| walk_at "sql") => `(tactic| first | (with_reducible assumption) | (refine' aA.of ?x; (case x => first | (with_reducible assumption) | (exact ae))) | ((with_reducible refine' xo ?x ?y); (case y => with_reducible assumption); (case x => walk_at "sql")) | ((fail_if_success (((with_reducible refine' xo ?x ?y); (case y => with_reducible assumption)))); first | ((with_reducible refine' DV ?s ?h ?q); (case h => with_reducible assumption); (case s => walk_at "same"); (case q => walk_at "sql")) | (refine' aA.of ?x; (case x => (with_reducible refine' q0 ?x2 ?y2); (case x2 => walk_at "ne"); (case y2 => walk_at "hlk")))) | ((with_reducible refine' au.seq ?x ?y); (case x => with_reducible assumption); (case y => walk_at "sql")))
local macro_rules | `(tactic| walk_at "sqt") => `(tactic| first | (with_reducible assumption) | (refine' aZ.of ?x; (case x => first | (with_reducible assumption) | (exact ae))) | ((with_reducible refine' xK ?x ?y); (case y => with_reducible assumption); (case x => walk_at "sqt")) | ((fail_if_success (((with_reducible refine' xK ?x ?y); (case y => with_reducible assumption)))); first | ((with_reducible refine' sqt_upd ?s ?h ?q); (case h => with_reducible assumption); (case s => walk_at "same"); (case q => walk_at "sqt")) | (refine' aZ.of ?x; (case x => (with_reducible refine' q0 ?x2 ?y2); (case x2 => walk_at "ne"); (case y2 => walk_at "hlk")))) | ((with_reducible refine' cI ?x ?y); (case x => with_reducible assumption); (case y => walk_at "sqt")))
local macro_rules | `(tactic| walk_at "lk") => `(tactic| first | (with_reducible exact vp) | (refine' D0 ?x ?y; (case x => decide +kernel); (case y => walk_at "lk")) | exact vp)
local macro_rules | `(tactic| walk_at "nolk") => `(tactic| first | (with_reducible rfl) | (refine' EO ?x ?y; (case x => decide +kernel); (case y => walk_at "nolk")) | rfl)
local macro_rules | `(tactic| walk_at "fewf") => `(tactic| first | exact Nat.lt_of_le_of_lt (Nat.le_refl 0) (by decide) | exact Nat.lt_of_le_of_lt (jM (Nat.le_refl 0)) (by decide) | exact Nat.lt_of_le_of_lt (jM (jM (Nat.le_refl 0))) (by decide) | exact Nat.lt_of_le_of_lt (jM (jM (jM (Nat.le_refl 0)))) (by decide))
local macro_rules | `(tactic| walk_at "small") => `(tactic| first | exact Nat.le_of_ble_eq_true rfl | (show _ ≤ sizeLine; rw [sizeLine_eq]; first | omega | (simp only [List.length_map, List.length_cons, List.length_nil, List.length_append, List.length_replicate, List.length_set, List.length_range]; omega)))
local macro_rules | `(tactic| walk_at "r1") => `(tactic| with_reducible first
 | refine ON (by with_unfolding_all rfl) ?_
 | refine VY ?_ | refine U8 ?_ | refine Vx ?_ | refine Eo ?_ | refine RU ?_ | refine Mf ?_ | (refine' Fy ?x ?_;(case x=>simp only [List.set_cons_succ,List.set_cons_zero];rfl)) | refine IQ ?_ | refine ND ?_ | refine EV ?_
 | refine FG ?_ | refine Ij ?_ | refine Uw ?_ | refine EF ?_ | refine Ei ?_ | refine D_ ?_ | refine MD ?_ | refine LQ ?_ | refine Ft ?_ | refine GZ ?_
 | refine K0 ?_ | refine Mg ?_ | refine UQ ?_ | refine G6 ?_ | refine Fx ?_ | refine F4 ?_ | refine r_retN ?_ | refine Uz ?_ | refine V_ ?_ | refine VI ?_
 | refine r_andV ?_ | refine Iy ?_ | refine r_notV ?_ | refine Ur ?_ | refine FU ?_ | refine B5 ?_ | refine Vq ?_ | refine Q_ ?_ | refine J6 ?_ | refine KP ?_ | refine Nc ?_
 | (refine' Cs ?x ?_;(case x=>with_unfolding_all rfl)) | (refine' Ce ?x ?_;(case x=>with_unfolding_all rfl)) | refine IE ?_ | refine G5 ?_ | refine FC ?_ | refine GF ?_ | refine G2 ?_
 | refine GG ?_ | refine EW ?_ | refine Fi ?_ | refine DQ ?_ | refine DT ?_ | refine r_notNi ?_
 | refine VN ?_ | refine VB ?_ | refine SO ?_ | refine Rq ?_
 | refine ⟨_,rfl,?_⟩)
local macro_rules | `(tactic| walk_at "r2") => `(tactic| first
 | ((with_reducible refine' zQ ?h ?c ?n ?l ?_);(case h=>walk_at "hlk");(case c=>walk_at "cls");(case n=>walk_at "noat");(case l=>walk_at "lk"))
 | ((with_reducible refine' En ?h ?c ?n ?l ?_);(case h=>walk_at "hlk");(case c=>walk_at "cls");(case n=>walk_at "noat");(case l=>walk_at "fewf"))
 | ((with_reducible refine' Ge ?h ?_);(case h=>walk_at "sql"))
 | ((with_reducible refine' fJ ?h ?_);(case h=>walk_at "sql"))
 | ((with_reducible refine' r_lenT ?h ?_);(case h=>walk_at "sqt"))
 | ((with_reducible refine' DN ?h ?_);(case h=>walk_at "sql"))
 | ((with_reducible refine' r_listT ?h ?_);(case h=>walk_at "sqt"))
 | ((with_reducible refine' Dj ?h ?_);(case h=>rfl))
 | ((with_reducible refine' C2 ?h ?_);(case h=>rfl)))
local macro_rules | `(tactic| walk_at "none") => `(tactic| first | (with_reducible assumption) | ((with_reducible refine' aQ ?x ?y); (case y => with_reducible assumption); (case x => walk_at "same")))
local macro_rules | `(tactic| walk_at "same") => `(tactic| first | (with_reducible assumption) | (with_reducible exact au.refl _) | ((with_reducible refine' same_none ?x ?y); (case y => with_reducible assumption); (case x => walk_at "same")) | ((fail_if_success (((with_reducible refine' same_none ?x ?y); (case y => with_reducible assumption)))); (with_reducible refine' bz ?x ?y); (case y => walk_at "none"); (case x => walk_at "same")) | ((with_reducible refine' au.trans ?x ?y); (case y => with_reducible assumption); (case x => walk_at "same")))
local macro_rules | `(tactic| walk_at "tt") => `(tactic| first | assumption | omega | with_unfolding_all rfl | decide | (simp only [List.length_map, List.length_cons, List.length_nil, List.length_append, List.length_replicate, List.length_set, A7]; omega))
local macro_rules | `(tactic| walk_at "nn") => `(tactic| first | assumption | omega | decide | (simp only [List.length_map, List.length_cons, List.length_nil, List.length_append, List.length_replicate, List.length_set, A7]; omega))
local macro_rules | `(tactic| walk_at "cond") => `(tactic| first
 | ((with_reducible refine' A8 ?h ?_);(case h=>first | exact ⟨by decide,by decide⟩ | (show (0:Int)<_;first | decide | omega) | (show (0:Int)≤_;first | decide | omega)))
 | ((with_reducible refine' C9 ?x ?_);(case x=>intro hh;exact absurd hh (by decide));intro _)
 | ((with_reducible refine' C9 ?_ ?x);(case x=>intro hh;exact absurd hh (by decide));intro _)
 | ((with_reducible refine' fA ?x ?_);(case x=>intro hh;exact absurd hh (by walk_at "nn"));intro _)
 | ((with_reducible refine' fA ?_ ?x);(case x=>intro hh;exact absurd (by walk_at "tt") hh);intro _)
 | ((with_reducible refine' er ?x ?_);(case x=>intro hh;exact absurd (by walk_at "tt") hh);intro _)
 | ((with_reducible refine' er ?_ ?x);(case x=>intro hh;exact absurd hh (by walk_at "nn"));intro _)
 | ((with_reducible refine' cS ?x ?_);(case x=>intro hh;exact absurd hh (by walk_at "nn"));intro _)
 | ((with_reducible refine' cS ?_ ?x);(case x=>intro hh;exact absurd (by walk_at "tt") hh);intro _)
 | ((with_reducible refine' pS ?x ?_);(case x=>intro hh;exact absurd (by walk_at "tt") hh);intro _)
 | ((with_reducible refine' pS ?_ ?x);(case x=>intro hh;exact absurd hh (by walk_at "nn"));intro _))
local macro_rules | `(tactic| walk_at "at") => `(tactic| first | assumption | ((with_reducible refine' RD ?x ?y); (case x => walk_at "tt"); (case y => walk_at "tt")) | ((with_reducible refine' gI_neg ?x ?y); (case x => walk_at "tt"); (case y => walk_at "tt")) | rfl)
local macro_rules | `(tactic| walk_at "calls") => `(tactic| first
 | ((with_reducible refine' AW ?a ?b ?_);(case a=>omega);(case b=>omega))
 | ((with_reducible refine' r_withBox ?h ?a ?b ?_);(case h=>walk_at "sql");(case a=>omega);(case b=>omega))
 | ((with_reducible refine' B2 ?h ?a ?_);(case h=>walk_at "sql");(case a=>omega))
 | (with_reducible refine r_whole ?_) | (with_reducible refine rF ?_) | (with_reducible refine CH ?_)
 | ((with_reducible refine' EI ?a ?b ?_);(case a=>omega);(case b=>omega))
 | ((with_reducible refine' CT ?a ?b ?c ?_);(case a=>omega);(case b=>omega);(case c=>omega))
 | ((with_reducible refine' r_setI ?x ?y ?z ?_);(case x=>walk_at "hlk");(case y=>walk_at "tt");(case z=>walk_at "tt"))
 | ((with_reducible refine' r_setIN ?x ?y ?z ?_);(case x=>walk_at "hlk");(case y=>walk_at "tt");(case z=>walk_at "tt"))
 | ((with_reducible refine' qc ?h ?e ?_);(case h=>walk_at "sqt");(case e=>walk_at "at"))
 | ((with_reducible refine' c6 ?h ?e ?_);(case h=>walk_at "sql");(case e=>walk_at "at"))
 | (with_reducible refine Fw ?_))
local macro_rules | `(tactic| walk_at "ty") => `(tactic| first | (with_reducible exact ee.int _) | (with_reducible exact ee.bl _) | (with_reducible exact ee.str _) | (with_reducible exact ee.aR) | (refine' ee.lst ?x; (case x => walk_at "hlk")) | (refine' ee.tup ?x; (case x => walk_at "hlk")))
local macro_rules | `(tactic| walk_at "dp") => `(tactic| first | (with_reducible exact fb _) | (with_reducible exact dp_str _) | (with_reducible exact dp_bool _) | (with_reducible exact xS) | ((with_reducible refine' xc ?x); (case x => walk_at "sql")) | ((with_reducible refine' qk ?x ?y); (case x => walk_at "sql"); (case y => walk_at "dps")) | ((with_reducible refine' kX ?x ?y); (case x => walk_at "sqt"); (case y => walk_at "dps")))
local macro_rules | `(tactic| walk_at "dps") => `(tactic| first | (with_reducible exact eA) | ((with_reducible refine' cx ?x ?y); (case x => walk_at "dp"); (case y => walk_at "dps")))
local macro_rules | `(tactic| walk_at "shaped") => `(tactic| first | exact shaped_ints _ | (unfold shaped; simp [PyData.canLay0, PyData.canLayAll0, jz, PyData.depth, PyData.depthAll, kz]))
local macro_rules | `(tactic| walk_at "eqd") => `(tactic| first
 | ((with_reducible refine' r_eqT ?d ?x ?y ?s ?_);(case x=>walk_at "dp");(case y=>walk_at "dp");(case s=>walk_at "shaped"))
 | ((with_reducible refine' C5 ?d ?x ?y ?s ?_);(case x=>walk_at "dp");(case y=>walk_at "dp");(case s=>walk_at "shaped")))
local macro_rules | `(tactic| walk_at "r3") => `(tactic| first
 | (with_reducible refine DS (fun _ _=>?_))
 | ((with_reducible refine' D1 ?x ?_);(case x=>walk_at "small"))
 | ((with_reducible refine' Vv ?x ?y ?_);(case x=>walk_at "tt");(case y=>walk_at "tt"))
 | ((with_reducible refine' r_62b ?x ?y ?z ?u ?_);(case x=>walk_at "tt");(case y=>walk_at "tt");(case z=>walk_at "tt");(case u=>walk_at "tt"))
 | ((with_reducible refine' SJ ?x ?_);(case x=>walk_at "sql"))
 | ((with_reducible refine' R3 ?x ?_);(case x=>walk_at "sqt"))
 | ((with_reducible refine' S5 ?x ?_);(case x=>walk_at "sql"))
 | ((with_reducible refine' C4 ?x ?_);(case x=>walk_at "sql"))
 | ((with_reducible refine' r_timesZ ?x ?y ?z ?_);(case x=>walk_at "hlk");(case y=>walk_at "tt");(case z=>walk_at "tt"))
 | ((with_reducible refine' r_plusII ?x ?y ?z ?_);(case x=>walk_at "hlk");(case y=>walk_at "hlk");(case z=>walk_at "small"))
 | ((with_reducible refine' O_ ?x ?_);(case x=>walk_at "hlk"))
 | ((with_reducible refine' CW ?h ?_);(case h=>walk_at "cmul"))
 | ((with_reducible refine' r_sum ?h ?_);(case h=>walk_at "sql"))
 | ((with_reducible refine' r_inT ?h ?x ?y ?_);(case h=>walk_at "sqt");(case x=>rfl);(case y=>rfl))
 | ((with_reducible refine' r_clear ?x ?_);(case x=>walk_at "hlk"))
 | ((with_reducible refine' oK ?x ?y ?_);(case x=>walk_at "hlk");(case y=>walk_at "small"))
 | ((with_reducible refine' iB ?c ?t ?e ?_);(case c=>exact fun z=>nomatch z);(case t=>walk_at "ty");(case e=>walk_at "kit")))
local macro_rules | `(tactic| walk_at "rd") => `(tactic| repeat (first | walk_at "r1" | walk_at "r3" | walk_at "r2" | walk_at "cond" | walk_at "calls" | walk_at "mine"))
local macro_rules | `(tactic| walk_at "rds") => `(tactic| repeat' (first | walk_at "r1" | walk_at "r3" | walk_at "r2" | walk_at "cond" | walk_at "calls" | walk_at "mine" | walk_at "cs"))
local macro_rules | `(tactic| walk_at "sp") => `(tactic| (repeat' split) <;> first | assumption | rfl | (exfalso; omega))
local macro_rules | `(tactic| walk_at "rok") => `(tactic| first | assumption | exact ⟨by omega, by omega⟩)
local macro_rules | `(tactic| walk_at "cmul") => `(tactic| first | exact Or.inl ⟨by decide, by decide⟩ | exact Or.inr ⟨by decide, by decide⟩ | exact Or.inl ⟨by omega, by omega⟩ | exact Or.inr ⟨by omega, by omega⟩)
set_option hygiene false
local macro_rules | `(tactic| walk_at "cs") => `(tactic| with_reducible first | refine fA (fun hh => ?_) (fun hh => ?_) | refine er (fun hh => ?_) (fun hh => ?_) | refine cS (fun hh => ?_) (fun hh => ?_) | refine pS (fun hh => ?_) (fun hh => ?_) | (refine' r_ixDi ?h (fun hh => ?_) (fun hh => ?_); (case h => walk_at "sql")) | (refine' r_ixD ?h (fun hh => ?_) (fun hh => ?_); (case h => walk_at "sql")))
local macro_rules | `(tactic| walk_at "tf") => `(tactic| (show Q _ _; refine' q _ _ _ _ ?zs ?We ?V9 ?Wj ?V6 ?V3 ?Wl ?zt ?zb ?zp; (case zt => walk_at "hlk"); (case zb => walk_at "hlk"); (case zp => walk_at "hlk"); (case zs => walk_at "same"); (case We => walk_at "none"); (case V9 => walk_at "none"); (case Wj => walk_at "none"); (case V6 => walk_at "ne"); (case V3 => walk_at "ne"); (case Wl => walk_at "ne")))
local macro_rules | `(tactic| walk_at "cls") => `(tactic| first | assumption | exact T.BE | exact T.mx | exact T.hG | exact T.mC | exact T.jX | exact T.jO | exact T.j7 | exact T.mq | exact T.lS | exact T.ki | exact T.hJ | exact T.jS | exact T.j9)
local macro_rules | `(tactic| walk_at "noat") => `(tactic| first | assumption | exact T.pG | exact T.oz | exact T.Bf | exact T.Ar | exact T.wB | exact T.ua | exact T.qj | exact T.Bd | exact T.uC | exact T.yl | exact T.yB | exact T.r6 | exact T.sO | exact T.AQ | exact T.yc | exact T.z8 | exact T.yQ | exact T.wu | exact T.so | exact T.xZ | exact T.yy)
local macro_rules | `(tactic| walk_at "kit") => `(tactic| first | assumption | exact T.wM | exact T.r0 | exact T.yf | exact T.nB | exact T.oa | exact T.kZ | exact T.lU | exact T.nW | exact T.nF | exact T.lP | exact T.lB | exact T.j3 | exact T.jN | exact T.nI | exact T.n_ | exact T.nK | exact T.og | exact T.kY | exact T.lH | exact T.jY | exact T.kh | exact T.l_ | exact T.lJ | exact T.l0 | exact T.me | exact T.lQ | exact T.lg)
set_option hygiene true
set_option maxHeartbeats 4000000
local macro_rules | `(tactic| walk_at "sc") => `(tactic| exact ⟨rfl, rfl, rfl, by decide +kernel, rfl, by decide +kernel, by decide +kernel⟩)
def top (i:Nat):Stmt:=PySem.Challenge.pw_frameback_k32_whole_the_greatest_table.main.body.getD i (.Pass ⟨0,0,0,0⟩)
abbrev rH:Stmt:=top 10
theorem yC:aE ["number","top"] ["number","top"] (av rH):=by walk_at "sc"
abbrev nZ:Stmt:=top 13
theorem vR:aE ["box"] ["box"] (av nZ):=by walk_at "sc"
abbrev lI:Stmt:=top 14
theorem sk:aE ["cell","high"] ["cell","high"] (av lI):=by walk_at "sc"
abbrev rp:Stmt:=top 15
theorem yz:aE ["places","place"] ["places","place"] (av rp):=by walk_at "sc"
abbrev uJ:Stmt:=top 16
theorem AO:aE ["places","place","source"] ["places","place","source"] (av uJ):=by walk_at "sc"
abbrev dH:Stmt:=inClass (top 17) 0
theorem dI:aE ["self","at"] ["self","at"] (av dH):=by walk_at "sc"
abbrev cQ:Stmt:=inClass (top 17) 1
theorem cY:aE ["self","high"] ["self","high"] (av cQ):=by walk_at "sc"
abbrev eU:Stmt:=inClass (top 17) 2
theorem fk:aE ["self","places","high"] ["self","places","high"] (av eU):=by walk_at "sc"
abbrev pq:Stmt:=inClass (top 18) 0
theorem wR:aE ["self","box","number"] ["self","box","number"] (av pq):=by walk_at "sc"
abbrev nv:Stmt:=inClass (top 18) 2
theorem vG:aE ["self","places","high"] ["self","places","high"] (av nv):=by walk_at "sc"
abbrev oj:Stmt:=inClass (top 19) 0
theorem uR:aE ["self","box","one"] ["self","box","one"] (av oj):=by walk_at "sc"
abbrev ma:Stmt:=inClass (top 19) 2
theorem sJ:aE ["self","places","high"] ["self","places","high"] (av ma):=by walk_at "sc"
abbrev iI:Stmt:=inClass (top 20) 0
theorem m9:aE ["self","box","one","other"] ["self","box","one","other"] (av iI):=by walk_at "sc"
abbrev ir:Stmt:=inClass (top 20) 1
theorem mf:aE ["self","places","high"] ["self","places","high"] (av ir):=by walk_at "sc"
abbrev nz:Stmt:=inClass (top 22) 0
theorem ud:aE ["self","many"] ["self","many"] (av nz):=by walk_at "sc"
abbrev kJ:Stmt:=inClass (top 22) 2
theorem qA:aE ["self","high"] ["self","high"] (av kJ):=by walk_at "sc"
abbrev kF:Stmt:=inClass (top 23) 0
theorem qF:aE ["self","many"] ["self","many"] (av kF):=by walk_at "sc"
abbrev jl:Stmt:=inClass (top 23) 2
theorem oy:aE ["self","high"] ["self","high"] (av jl):=by walk_at "sc"
abbrev jV:Stmt:=inClass (top 23) 3
theorem jt:aE ["self","places","high","gone"] ["self","places","high"] (av jV):=by walk_at "sc"
abbrev gm:Stmt:=inClass (top 24) 0
theorem iP:aE ["self","box","cell"] ["self","box","cell"] (av gm):=by walk_at "sc"
abbrev fF:Stmt:=inClass (top 24) 1
theorem ib:aE ["self","high"] ["self","high"] (av fF):=by walk_at "sc"
abbrev oi:Stmt:=inClass (top 25) 1
theorem uh:aE ["self","places","high"] ["self","places","high"] (av oi):=by walk_at "sc"
abbrev nY:Stmt:=inClass (top 26) 1
theorem vI:aE ["self","places","high"] ["self","places","high"] (av nY):=by walk_at "sc"
abbrev lR:Stmt:=inClass (top 30) 0
theorem sU:aE ["self","entries","landings"] ["self","entries","landings"] (av lR):=by walk_at "sc"
abbrev rP:Stmt:=top 31
theorem pQ:aE ["entry","kept"] ["entry"] (av rP):=by walk_at "sc"
abbrev nE:Stmt:=inClass (top 34) 0
theorem vE:aE ["self","target"] ["self","target"] (av nE):=by walk_at "sc"
abbrev nM:Stmt:=inClass (top 34) 2
theorem uj:aE ["self","at"] ["self","at"] (av nM):=by walk_at "sc"
abbrev kI:Stmt:=inClass (top 35) 0
theorem qv:aE ["self","box","target"] ["self","box","target"] (av kI):=by walk_at "sc"
abbrev kO:Stmt:=inClass (top 35) 2
theorem qN:aE ["self","at"] ["self","at"] (av kO):=by walk_at "sc"
abbrev oo:Stmt:=inClass (top 36) 0
theorem wa:aE ["self","target"] ["self","target"] (av oo):=by walk_at "sc"
abbrev lW:Stmt:=inClass (top 36) 2
theorem rY:aE ["self","places","high"] ["self","places","high"] (av lW):=by walk_at "sc"
abbrev nq:Stmt:=inClass (top 37) 0
theorem ug:aE ["self","box"] ["self","box"] (av nq):=by walk_at "sc"
abbrev nU:Stmt:=inClass (top 37) 2
theorem vA:aE ["self","at"] ["self","at"] (av nU):=by walk_at "sc"
abbrev nO:Stmt:=inClass (top 38) 0
theorem vK:aE ["self","box"] ["self","box"] (av nO):=by walk_at "sc"
abbrev nR:Stmt:=inClass (top 38) 2
theorem uS:aE ["self","at"] ["self","at"] (av nR):=by walk_at "sc"
abbrev ui:Stmt:=top 41
theorem zK:aE ["number","entries"] ["number","entries"] (av ui):=by walk_at "sc"
abbrev iu:Stmt:=top 42
theorem fe:aE ["entry","high","beyond"] ["entry"] (av iu):=by walk_at "sc"
abbrev kK:Stmt:=top 43
theorem qx:aE ["row","entry"] ["row","entry"] (av kK):=by walk_at "sc"
abbrev jq:Stmt:=top 44
theorem oN:aE ["row","entry"] ["row","entry"] (av jq):=by walk_at "sc"
abbrev ju:Stmt:=top 45
theorem dO:aE ["row","entry","coming","entries","there","name","ours","theirs"] ["row","entry","coming","entries"] (av ju):=by walk_at "sc"
abbrev hW:Stmt:=top 46
theorem kU:aE ["row","entries"] ["row","entries"] (av hW):=by walk_at "sc"
abbrev nX:Stmt:=top 47
theorem jf:aE ["numbers","told","number"] ["numbers"] (av nX):=by walk_at "sc"
abbrev iK:Stmt:=top 48
theorem dG:aE ["code","entries","at","row","entry","own","found"] ["code","entries","at"] (av iK):=by walk_at "sc"
abbrev gD:Stmt:=top 49
theorem gv:aE ["code","entries","at","landing","entry"] ["code","entries","at","landing"] (av gD):=by walk_at "sc"
abbrev rA:Stmt:=top 50
theorem eK:aE ["code","table","entries","complaints","at","landing","what"] ["code","table"] (av rA):=by walk_at "sc"
abbrev rC:Stmt:=top 52
theorem pA:aE ["code","landings","at","ways"] ["code","landings","at"] (av rC):=by walk_at "sc"
abbrev xn:Stmt:=top 53
theorem B0:aE ["heights","waiting","at","high"] ["heights","waiting","at","high"] (av xn):=by walk_at "sc"
abbrev lM:Stmt:=top 54
theorem dX:aE ["code","ways","heights","waiting","at","behind","coming"] ["code","ways"] (av lM):=by walk_at "sc"
abbrev vZ:Stmt:=top 55
theorem rK:aE ["sets","changed","at","places","left"] ["sets","changed","at","places"] (av vZ):=by walk_at "sc"
abbrev nJ:Stmt:=top 56
theorem dm:aE ["code","ways","heights","first","sets","changed","wave","at","kept","coming"] ["code","ways","heights","first"] (av nJ):=by walk_at "sc"
abbrev mh:Stmt:=top 57
theorem cq:aE ["code","landings","ways","heights","found","entries","high","back","four","five","six"] ["code","landings"] (av mh):=by walk_at "sc"
abbrev xv:Stmt:=top 58
theorem oZ:aE ["code","landings","known","table"] ["code","landings"] (av xv):=by walk_at "sc"
abbrev kQ:Stmt:=top 60
theorem qW:aE ["_law_script","_law_k"] ["_law_script","_law_k"] (av kQ):=by walk_at "sc"
abbrev rk:Stmt:=top 61
theorem iD:aE ["_law_told","_law_word","_law_box","_law_part"] ["_law_told"] (av rk):=by walk_at "sc"
abbrev qi:Stmt:=top 62
theorem eR:aE ["_law_cells","_law_saved","_law_spare","_law_at","_law_rows","_law_cell","_law_kind","_law_box","_law_kept"] ["_law_cells","_law_saved","_law_spare","_law_at"] (av qi):=by walk_at "sc"
abbrev kd:Stmt:=top 63
theorem bt:aE ["_law_cell","_law_cells","_law_at","_law_saved","_law_height","_law_turn","_law_places","_law_spare","_law_rows","_law_cut","_law_end"] ["_law_cell","_law_cells","_law_at"] (av kd):=by walk_at "sc"
abbrev pX:Stmt:=top 64
theorem b9:aE ["_law_script","_law_many","_law_rows","_law_starts","_law_landings","_law_k","_law_part","_law_end","_law_j","_law_way","_law_found","_law_told"] ["_law_script"] (av pX):=by walk_at "sc"
abbrev kG:Stmt:=top 65
theorem fC:aE ["_law_cell","_law_many","_law_kind","_law_box","_law_part"] ["_law_cell","_law_many"] (av kG):=by walk_at "sc"
abbrev jW:Stmt:=top 66
theorem d9:aE ["_law_script","_law_many","_law_rows","_law_landings","_law_cell"] ["_law_script"] (av jW):=by walk_at "sc"
abbrev jv:Stmt:=top 67
theorem dR:aE ["_law_cell","_law_height","_law_many","_law_part","_law_kept"] ["_law_cell"] (av jv):=by walk_at "sc"
abbrev ji:Stmt:=top 68
theorem c_:aE ["_law_cell","_law_many","_law_box","_law_some"] ["_law_cell","_law_many"] (av ji):=by walk_at "sc"
abbrev nj:Stmt:=top 69
theorem gk:aE ["_law_code_here","_law_landings","_law_table"] ["_law_code_here","_law_landings"] (av nj):=by walk_at "sc"
abbrev lY:Stmt:=top 70
theorem dB:aE ["_law_entries","_law_cell","_law_at","_law_kind","_law_height","_law_back","_law_kept","_law_sets"] ["_law_entries","_law_cell"] (av lY):=by walk_at "sc"
abbrev lE:Stmt:=top 71
theorem sM:aE ["_law_entry","_law_other"] ["_law_entry","_law_other"] (av lE):=by walk_at "sc"
abbrev rD:Stmt:=top 72
theorem eC:aE ["_law_script","_law_rows","_law_landings","_law_code_here","_law_entries","_law_k","_law_found"] ["_law_script"] (av rD):=by walk_at "sc"
abbrev jg:Stmt:=top 73
theorem fj:aE ["_law_script","_law_rows","_law_landings","_law_first","_law_other","_law_code_here","_law_found","_law_entries","_law_cell","_law_k"] ["_law_script"] (av jg):=by walk_at "sc"
abbrev dh (K:W.Frag) (mg:Str→Option Value) (x:Str) (st:Stmt) (ps:List Str):Prop:=∃ f fd,fL K x x st f fd∧mg x=some (.ref f)∧Binds K fd ps []
abbrev dg (K:W.Frag) (C:Addr) (x q:Str) (st:Stmt) (ps:List Str):Prop:=∃ f fd,fL K x q st f fd∧vH K C x f∧Binds K fd ps []
abbrev kE (K:W.Frag) (C:Addr) (q:Str) (st:Stmt) (ps:List Str):Prop:=∃ f fd,fL K "__init__" q st f fd∧Mk K C f∧Binds K fd ps []
abbrev eY (K:W.Frag) (C D:Addr) (b:Bool):Prop:=W.kitOne K (.ref C) (.ref D)=some b
abbrev kR (K:W.Frag) (C:Addr):Prop:=W.findIn K (.ref C) "__class__" = some (some (.builtin "object.__class__"))∧W.mroIn K C (.type "object")=some true
structure Txt (K:W.Frag) (mg:Str→Option Value) (a:cM):Prop where
 Dh:mg "all" = none
 R_:mg "any" = none
 Gb:mg "dict" = none
 tE:mg "int" = none
 dS:mg "isinstance" = none
 bS:mg "len" = none
 pY:mg "list" = none
 IV:mg "max" = none
 dJ:mg "range" = none
 CU:mg "sorted" = none
 tG:mg "zip" = none
 fV:∃ t,mg "FIRST_CELL_BIT" = some (Value.int 8 t)
 l7:mg "KEPT_BOXES" = some (.ref a.gq)
 iO:(∀ H,aZ K H a.gq [.int 4,.int 5,.int 6])
 qG:∃ t,mg "LOST_BY_CALL" = some (Value.int 143 t)
 nH:mg "SET_NAMES" = some (.ref a.gY)
 jA:(∀ H,aZ K H a.gY [.str "back",.int 4,.int 5,.int 6])
 iE:mg "START" = some (.ref a.f_)
 j8:∃ q0_START:Addr,(∀ H,aZ K H a.f_ [.int 0,.int 128,.ref q0_START])∧(∀ H,aZ K H q0_START [.int 16,.int 32,.int 64])
 dw:∃ t,mg "TOP_BOX" = some (Value.int 7 t)
 eV:∃ t,mg "TOP_CELLS" = some (Value.int 4000 t)
 iV:∃ t,mg "TOP_TARGET" = some (Value.int 2000 t)
 wX:∃ t,mg "TOP_VALUE" = some (Value.int 4294967295 t)
 NQ:mg "Add" = some (.ref a.c7)
 zD:mg "Back" = some (.ref a.bC)
 Bz:mg "Branch" = some (.ref a.bV)
 jT:mg "Call" = some (.ref a.bq)
 FN:mg "Copy" = some (.ref a.cE)
 GU:mg "Drop" = some (.ref a.cK)
 Nb:mg "Get" = some (.ref a.dj)
 Fm:mg "Grow" = some (.ref a.cL)
 Gd:mg "Jump" = some (.ref a.cJ)
 VV:mg "NoRow" = some (.ref a.Eh)
 Th:mg "NoTable" = some (.ref a.fh)
 KW:mg "Put" = some (.ref a.dk)
 Ss:mg "Set" = some (.ref a.di)
 Cn:mg "Shrink" = some (.ref a.bZ)
 ER:mg "Table" = some (.ref a.bT)
 BE:eo K a.bT
 pG:bL K a.bT "entries"
 oz:bL K a.bT "landings"
 D6:∃ f fd,fm K "__init__" "Table.__init__" lR f fd∧Mk K a.bT f∧Binds K fd ["self","entries","landings"] []∧Binds K fd ["self","entries","landings"] [.none]
 mx:eo K a.c7
 Bf:bL K a.c7 "box"
 Ar:bL K a.c7 "one"
 wB:bL K a.c7 "other"
 LG:kE K a.c7 "Reckoning.__init__" iI ["self","box","one","other"]
 zi:dg K a.c7 "goes" "Row.goes" dH ["self","at"]
 uo:dg K a.c7 "height" "Row.height" cQ ["self","high"]
 wZ:dg K a.c7 "keeps" "Reckoning.keeps" ir ["self","places","high"]
 hG:eo K a.bV
 ua:bL K a.bV "box"
 qj:bL K a.bV "target"
 CP:kE K a.bV "Branch.__init__" kI ["self","box","target"]
 sQ:dg K a.bV "goes" "Branch.goes" kO ["self","at"]
 pF:dg K a.bV "height" "Row.height" cQ ["self","high"]
 qV:dg K a.bV "keeps" "Row.keeps" eU ["self","places","high"]
 mC:eo K a.di
 Bd:bL K a.di "box"
 uC:bL K a.di "number"
 Kv:kE K a.di "Set.__init__" pq ["self","box","number"]
 yZ:dg K a.di "goes" "Row.goes" dH ["self","at"]
 uI:dg K a.di "height" "Row.height" cQ ["self","high"]
 wF:dg K a.di "keeps" "Set.keeps" nv ["self","places","high"]
 jX:eo K a.cE
 yl:bL K a.cE "box"
 yB:bL K a.cE "one"
 Hd:kE K a.cE "Copy.__init__" oj ["self","box","one"]
 wN:dg K a.cE "goes" "Row.goes" dH ["self","at"]
 sW:dg K a.cE "height" "Row.height" cQ ["self","high"]
 uL:dg K a.cE "keeps" "Copy.keeps" ma ["self","places","high"]
 jO:eo K a.cJ
 r6:bL K a.cJ "target"
 Gq:kE K a.cJ "Jump.__init__" nE ["self","target"]
 wO:dg K a.cJ "goes" "Jump.goes" nM ["self","at"]
 tu:dg K a.cJ "height" "Row.height" cQ ["self","high"]
 vq:dg K a.cJ "keeps" "Row.keeps" eU ["self","places","high"]
 j7:eo K a.bq
 sO:bL K a.bq "target"
 FZ:kE K a.bq "Call.__init__" oo ["self","target"]
 wG:dg K a.bq "goes" "Row.goes" dH ["self","at"]
 sj:dg K a.bq "height" "Row.height" cQ ["self","high"]
 vh:dg K a.bq "keeps" "Call.keeps" lW ["self","places","high"]
 mq:eo K a.dk
 AQ:bL K a.dk "box"
 yc:bL K a.dk "cell"
 N_:kE K a.dk "Reaching.__init__" gm ["self","box","cell"]
 ye:dg K a.dk "goes" "Row.goes" dH ["self","at"]
 vk:dg K a.dk "height" "Reaching.height" fF ["self","high"]
 wq:dg K a.dk "keeps" "Put.keeps" oi ["self","places","high"]
 lS:eo K a.dj
 z8:bL K a.dj "box"
 yQ:bL K a.dj "cell"
 K_:kE K a.dj "Reaching.__init__" gm ["self","box","cell"]
 yb:dg K a.dj "goes" "Row.goes" dH ["self","at"]
 uz:dg K a.dj "height" "Reaching.height" fF ["self","high"]
 wJ:dg K a.dj "keeps" "Get.keeps" nY ["self","places","high"]
 ki:eo K a.cL
 wu:bL K a.cL "many"
 FH:kE K a.cL "Grow.__init__" nz ["self","many"]
 wx:dg K a.cL "goes" "Row.goes" dH ["self","at"]
 sm:dg K a.cL "height" "Grow.height" kJ ["self","high"]
 t7:dg K a.cL "keeps" "Row.keeps" eU ["self","places","high"]
 hJ:eo K a.bZ
 so:bL K a.bZ "many"
 BP:kE K a.bZ "Shrink.__init__" kF ["self","many"]
 sr:dg K a.bZ "goes" "Row.goes" dH ["self","at"]
 qd:dg K a.bZ "height" "Shrink.height" jl ["self","high"]
 qK:dg K a.bZ "keeps" "Shrink.keeps" jV ["self","places","high"]
 jS:eo K a.bC
 xZ:bL K a.bC "box"
 Ha:kE K a.bC "Back.__init__" nq ["self","box"]
 wz:dg K a.bC "goes" "Back.goes" nU ["self","at"]
 rW:dg K a.bC "height" "Row.height" cQ ["self","high"]
 vj:dg K a.bC "keeps" "Row.keeps" eU ["self","places","high"]
 j9:eo K a.cK
 yy:bL K a.cK "box"
 FP:kE K a.cK "Drop.__init__" nO ["self","box"]
 wY:dg K a.cK "goes" "Drop.goes" nR ["self","at"]
 tD:dg K a.cK "height" "Row.height" cQ ["self","high"]
 um:dg K a.cK "keeps" "Row.keeps" eU ["self","places","high"]
 Ao:kR K a.di
 nB:eY K a.di a.bq false
 oa:eY K a.di a.bC false
 xu:kR K a.cE
 kZ:eY K a.cE a.bq false
 lU:eY K a.cE a.bC false
 zr:kR K a.c7
 nW:eY K a.c7 a.bq false
 nF:eY K a.c7 a.bC false
 xq:kR K a.cL
 lP:eY K a.cL a.bq false
 lB:eY K a.cL a.bC false
 rS:kR K a.bZ
 j3:eY K a.bZ a.bq false
 jN:eY K a.bZ a.bC false
 Ag:kR K a.dk
 nI:eY K a.dk a.bq false
 n_:eY K a.dk a.bC false
 A3:kR K a.dj
 nK:eY K a.dj a.bq false
 og:eY K a.dj a.bC false
 xf:kR K a.cJ
 kY:eY K a.cJ a.bq false
 lH:eY K a.cJ a.bC false
 rm:kR K a.bV
 jY:eY K a.bV a.bq false
 kh:eY K a.bV a.bC false
 xD:kR K a.bq
 l_:eY K a.bq a.bq true
 lJ:eY K a.bq a.bC false
 xW:kR K a.bC
 l0:eY K a.bC a.bq false
 me:eY K a.bC a.bC true
 xY:kR K a.cK
 lQ:eY K a.cK a.bq false
 lg:eY K a.cK a.bC false
 kN:W.specialIn K (.builtin "object.__class__") "__get__" = some (some (.builtin "getset_descriptor.__get__"))
 kD:W.takesIn K (.builtin "object.__class__")=some true
 g0:vc K mg "NoTable" a.fh
 QG:Vi K a.fh
 wM:W.kitOne K (.type "list") (.type "list")=some true
 r0:W.kitOne K (.type "tuple") (.type "tuple")=some true
 yf:W.kitOne K (.type "int") (.type "bool")=some false
 yN:dh K mg "bounded" rH ["number","top"]
 vQ:dh K mg "box_place" nZ ["box"]
 r9:dh K mg "cell_place" lI ["cell","high"]
 zj:dh K mg "without" rp ["places","place"]
 AY:dh K mg "filled" uJ ["places","place","source"]
 yY:dh K mg "sets_of" rP ["entry"]
 Ax:dh K mg "is_row" ui ["number","entries"]
 mD:dh K mg "has_wrong_place" iu ["entry"]
 qu:dh K mg "may_go_back" kK ["row","entry"]
 oP:dh K mg "own_complaint" jq ["row","entry"]
 oM:dh K mg "way_complaint" ju ["row","entry","coming","entries"]
 kT:dh K mg "target_complaint" hW ["row","entries"]
 uX:dh K mg "each_once" nX ["numbers"]
 m6:dh K mg "row_complaints" iK ["code","entries","at"]
 kn:dh K mg "landing_complaint" gD ["code","entries","at","landing"]
 yk:dh K mg "checked" rA ["code","table"]
 x6:dh K mg "ways_on" rC ["code","landings","at"]
 BL:dh K mg "reach" xn ["heights","waiting","at","high"]
 rX:dh K mg "heights_of" lM ["code","ways"]
 Ay:dh K mg "narrow" vZ ["sets","changed","at","places"]
 t8:dh K mg "places_of" nJ ["code","ways","heights","first"]
 sd:dh K mg "entries_of" mh ["code","landings"]
 Cq:∃ f fd,fm K "guess" "guess" xv f fd∧mg "guess" = some (.ref f)∧Binds K fd ["code","landings"] []∧Binds K fd ["code","landings"] [.none]
 qE:dh K mg "_law_cell_at" kQ ["_law_script","_law_k"]
 ya:dh K mg "_law_row" rk ["_law_told"]
 wW:dh K mg "_law_body" qi ["_law_cells","_law_saved","_law_spare","_law_at"]
 pU:dh K mg "_law_function" kd ["_law_cell","_law_cells","_law_at"]
 wI:dh K mg "_law_code" pX ["_law_script"]
 qD:dh K mg "_law_any_row" kG ["_law_cell","_law_many"]
 pI:dh K mg "_law_any_code" jW ["_law_script"]
 oX:dh K mg "_law_any_entry" jv ["_law_cell"]
 oC:dh K mg "_law_other_row" ji ["_law_cell","_law_many"]
 uk:dh K mg "_law_guess" nj ["_law_code_here","_law_landings"]
 sq:dh K mg "_law_turned" lY ["_law_entries","_law_cell"]
 sV:dh K mg "_law_within" lE ["_law_entry","_law_other"]
 yI:dh K mg "_law_any" rD ["_law_script"]
 V8:dh K mg "law" jg ["_law_script"]
structure Ent where
 h:Int
 b:Int
 v4:Int
 v5:Int
 v6:Int
def Ent.dC (e:Ent):List Int:=[e.b,e.v4,e.v5,e.v6]
def gR (K:W.Frag) (H:Hp) (p:Addr) (e:Ent):Prop:=∃ q,aZ K H p [.int e.h,.int e.b,.ref q]∧aZ K H q [.int e.v4,.int e.v5,.int e.v6]
theorem gR.same {K:W.Frag} {H H':Hp} {p:Addr} {e:Ent} (h:gR K H p e) (s:au H H'):gR K H' p e:=let ⟨q,h1,h2⟩:=h;⟨q,cI s h1,cI s h2⟩
def gz (K : W.Frag) (H : Hp) (v : V) : Option Ent → Prop
 | none=>v=.aR
 | some e=>∃ p,v=.ref p∧gR K H p e
theorem gz.same {K:W.Frag} {H H':Hp} {v:V} {oe:Option Ent} (h:gz K H v oe) (s:au H H'):gz K H' v oe:=by
 cases oe with
 | none=>exact h
 | some e=>obtain ⟨p,e1,e2⟩:=h;exact ⟨p,e1,e2.same s⟩
def bQ (K:W.Frag) (H:Hp) (vs:List V) (es:List (Option Ent)):Prop:=vs.length=es.length∧∀ (i:Nat) (oe:Option Ent),es[i]? = some oe→∃ v,vs[i]? = some v∧gz K H v oe
theorem bQ.same {K:W.Frag} {H H':Hp} {vs:List V} {es:List (Option Ent)} (h:bQ K H vs es) (s:au H H'):bQ K H' vs es :=
 ⟨h.1,fun i oe e=>let ⟨v,e1,e2⟩:=h.2 i oe e;⟨v,e1,e2.same s⟩⟩
theorem bQ.snoc {K:W.Frag} {H:Hp} {vs:List V} {es:List (Option Ent)} {v:V} {oe:Option Ent} (h:bQ K H vs es) (hv:gz K H v oe):bQ K H (vs++[v]) (es++[oe]):=by
 refine ⟨by rw [List.length_append,List.length_append,h.1];rfl,fun i o e=>?_⟩;by_cases hi:i<es.length
 · rw [List.getElem?_append_left hi] at e;obtain ⟨u,e1,e2⟩:=h.2 i o e;exact ⟨u,by rw [List.getElem?_append_left (by rw [h.1];exact hi)];exact e1,e2⟩
 · rw [List.getElem?_append_right (by omega)] at e;have hi':i - es.length=0:=by
     rcases Nat.eq_zero_or_pos (i - es.length) with z | z
     · exact z
     · rw [List.getElem?_eq_none (by simp;omega)] at e;cases e
   rw [hi'] at e;cases e
   exact ⟨v,by rw [List.getElem?_append_right (by rw [h.1];omega),h.1,hi'];rfl,hv⟩
theorem bQ.nil {K:W.Frag} {H:Hp}:bQ K H [] []:=⟨rfl,fun i oe e=>by simp at e⟩
def fG : Option Ent → PyData
 | none=>.none
 | some e=>.tuple [.int e.h,.int e.b,.tuple [.int e.v4,.int e.v5,.int e.v6]]
theorem gz.dp {K:W.Frag} {H:Hp} {v:V} {oe:Option Ent} (h:gz K H v oe):Dp K H (fG oe) v:=by
 cases oe with
 | none=>cases h;exact xS
 | some e =>
   obtain ⟨p,rfl,q,h1,h2⟩:=h;exact kX h1 (cx (fb _) (cx (fb _) (cx (kX h2 (cx (fb _) (cx (fb _) (cx (fb _) eA)))) eA)))
theorem ix (e:Option Ent):shaped (fG e)=true:=by cases e <;> rfl
structure VZ where
 r:Int
 a:Int
 b:Int
 c:Int
 n:Int
def Wp (H:Hp) (v:V) (c:VZ):Prop:=∃ t q,v=.ref t∧H t=some (.tup [.int c.r,.ref q,.int c.n])∧H q=some (.tup [.int c.a,.int c.b,.int c.c])
theorem FO {K:W.Frag} {p:Addr} {xs:List V} {n:Nat} {t:om} {σ : L2.St} {H:Hp} {Q:L2.St→Hp→Prop} (h:aZ K H p xs) (hl:xs.length=n) (q:t xs σ H Q):Cj K n t (.ref p) σ H Q:=⟨p,xs,rfl,h,hl,q⟩
theorem xy {t:TG} {u:om} {v:V} {r:List V} {σ : L2.St} {H:Hp} {Q:L2.St→Hp→Prop} (q:t v σ H fun σ' H'=>u r σ' H' Q):DC t u (v::r) σ H Q:=⟨v,r,rfl,q⟩
theorem Aw {σ : L2.St} {H:Hp} {Q:L2.St→Hp→Prop} (q:Q σ H):Hf [] σ H Q:=⟨rfl,q⟩
theorem E4:bootBuiltins "dict" = some (.type "dict"):=by decide +kernel
def fq (l d:Addr):List (Str×V):=aL "landings" (.ref d) (aL "entries" (.ref l) [])
def kA (K : W.Frag) (C : Addr) : Sp := fun vs H Q _ => ∃ (x dx pe : Addr) (lv : V) (xs : List V) (kvs : List (Key × V)), vs = [.ref x, .ref pe, lv] ∧ H x = some (.ins C dx []) ∧ aA K H pe xs ∧
 ((lv=.aR∧kvs=[])∨∃ pd,lv=.ref pd∧H pd=some (.dK kvs)) ∧
 ∀ l d H',H l=none→H d=none→l≠d→(∀ b o,H b=some o→b≠x→H' b=some o)→H' x=some (.ins C dx (fq l d))→H' l=some (.lst xs)→H' d=some (.dK kvs)→Q .aR H'
def Ah (K:W.Frag):Sp:=fun vs H Q _=>∃ (p:Addr) (e:Ent),vs=[.ref p]∧gR K H p e∧∀ t,H t=none→Q (.ref t) (upd H t (.tup (e.dC.map V.int)))
theorem BR:bootBuiltins "sorted" = some (.builtin "sorted"):=by decide +kernel
def iw (a b:Option Ent):Bool:=PyData.eqv (fG a) (fG b)
theorem Af {a b:Option Ent} (h:iw a b=true):a=b:=by
 cases a with
 | none => cases b with
   | none=>rfl
   | some e=>simp [iw,fG,PyData.eqv] at h
 | some e => cases b with
   | none=>simp [iw,fG,PyData.eqv] at h
   | some f =>
     obtain ⟨h1,h2,h3,h4,h5⟩:=e;obtain ⟨g1,g2,g3,g4,g5⟩:=f;simp [iw,fG,PyData.eqv,PyData.eqvAll] at h;obtain ⟨rfl,rfl,rfl,rfl,rfl⟩:=h;rfl
def Rw.here : Rw → Prop
 | .set ..=>True
 | .copy ..=>True
 | .add ..=>True
 | .sub ..=>False
 | .mul ..=>False
 | .less ..=>False
 | .grow ..=>True
 | .shrink ..=>True
 | .put ..=>True
 | .get ..=>True
 | .dD ..=>True
 | .branch ..=>True
 | .call ..=>True
 | .back ..=>True
 | .drop ..=>True
def Rw.isCall : Rw → Bool
 | .call _=>true
 | _=>false
def Rw.F_ : Rw → Bool
 | .back _=>true
 | _=>false
def bY (a:cM) (H:Hp) (prs:List Addr) (rs:List Rw):Prop:=prs.length=rs.length∧∀ (i:Nat) (p:Addr) (r:Rw),prs[i]? = some p→rs[i]? = some r→bX a H p r
theorem bY.to {a:cM} {H H':Hp} {prs:List Addr} {rs:List Rw} (h:bY a H prs rs) (k:∀ p∈prs,∀ o,H p=some o→H' p=some o):bY a H' prs rs :=
 ⟨h.1,fun i p r e1 e2=>let ⟨dx,e⟩:=h.2 i p r e1 e2;⟨dx,k p (List.mem_of_getElem? e1) _ e⟩⟩
theorem bY.same {a:cM} {H H':Hp} {prs:List Addr} {rs:List Rw} (h:bY a H prs rs) (s:au H H'):bY a H' prs rs:=h.to fun _ _ _ e=>s _ _ e
theorem bY.nil {a:cM} {H:Hp}:bY a H [] []:=⟨rfl,fun i p r e=>by simp at e⟩
theorem bY.snoc {a:cM} {H:Hp} {prs:List Addr} {rs:List Rw} {p:Addr} {r:Rw} (h:bY a H prs rs) (q:bX a H p r):bY a H (prs++[p]) (rs++[r]):=by
 refine ⟨by rw [List.length_append,List.length_append,h.1];rfl,fun i p' r' e1 e2=>?_⟩;by_cases hi:i<rs.length
 · rw [List.getElem?_append_left (by rw [h.1]; exact hi)] at e1;rw [List.getElem?_append_left hi] at e2;exact h.2 i p' r' e1 e2
 · have hi' : i = rs.length := by
     have:=(List.getElem?_eq_some_iff.mp e2).1
     rw [List.length_append] at this;simp at this;omega
   subst hi';rw [List.getElem?_append_right (by omega)] at e2;rw [List.getElem?_append_right (by rw [h.1];omega),h.1] at e1;simp at e1 e2;subst e1 e2;exact q
def bp (l:List (Int×Int)):List (Key×V):=l.map fun p=>((Sum.inl p.1:Key),V.int p.2)
theorem vm {l:List (Int×Int)} {c r:Int} (h:dU (bp l) (.inl c)=none):putK (bp l) (.inl c) (.int r)=bp (l++[(c,r)]):=by
 rw [BF _ h];unfold bp;rw [List.map_append];rfl
def lv (ls:List (Int×Int)) (k:Int):Int:=((ls.find? fun p=>decide (p.1=k)).map (·.2)).getD 0
theorem gG : ∀ {ls : List (Int × Int)}, (ls.map (·.1)).Nodup → ∀ p ∈ ls, dU (bp ls) (.inl p.1) = some (.int p.2) ∧ lv ls p.1 = p.2
 | [],_,_,h=>nomatch h
 | (c, r) :: ls, hn, p, hp => by
   rw [List.map_cons,List.nodup_cons] at hn;rcases List.mem_cons.mp hp with rfl | hp
   · refine ⟨?_, ?_⟩
     · show dU ((Sum.inl c, V.int r) :: bp ls) (.inl c) = _;rw [kl rfl]
     · unfold lv;rw [List.find?_cons,decide_eq_true rfl];rfl
   · have ne : ¬ c = p.1 := fun z => hn.1 (List.mem_map.mpr ⟨p, hp, z.symm⟩);obtain ⟨i1,i2⟩:=gG hn.2 p hp;refine ⟨?_,?_⟩
     · show dU ((Sum.inl c, V.int r) :: bp ls) (.inl p.1) = _;rw [iR (fun z=>ne (Sum.inl.inj z))];exact i1
     · unfold lv at i2 ⊢;rw [List.find?_cons,decide_eq_false ne];exact i2
theorem jh : ∀ {ls : List (Int × Int)} {c : Int}, c ∉ ls.map (·.1) → dU (bp ls) (.inl c) = none
 | [],_,_=>rfl
 | (d, r) :: ls, c, h => by
   rw [List.map_cons,List.mem_cons,not_or] at h;show dU ((Sum.inl d,V.int r)::bp ls) (.inl c)=_;rw [iR (fun z=>h.1 (Sum.inl.inj z).symm)];exact jh h.2
theorem zY (ls:List (Int×Int)):(bp ls).map (·.1)=(ls.map (·.1)).map Sum.inl:=by
 unfold bp;rw [List.map_map,List.map_map];rfl
theorem Lo:bootBuiltins "any" = some (.builtin "any"):=by decide +kernel
inductive Wt where
 | place | aY | back | row | aR | start | call | length | b4 | b5 | b6
def Wt.v : Wt → V
 | .place=>.str "place" | .aY=>.str "height" | .back=>.str "back" | .row=>.str "row" | .aR=>.str "none" | .start=>.str "start" | .call=>.str "call" | .length=>.str "length"
 | .b4=>.int 4 | .b5=>.int 5 | .b6=>.int 6
def oV : Option Wt → V
 | none=>.aR
 | some w=>w.v
def iJ:Option Ent:=some ⟨0,128,16,32,64⟩
def dN (h s:Int):Bool:=decide (s≤0) || !decide (s/2 ^ (8+h).toNat=0)
def cP (e:Ent):Bool:=decide (e.h<0) || (decide (4000<e.h) || e.dC.any (dN e.h))
def i8 (b:Int) (e:Ent):Bool:=decide (e.h=0) && ((Builtin.bitAnd e.b ((2 ^ b.toNat:Nat):Int) != 0) && ((Builtin.bitAnd e.v4 16 != 0) && ((Builtin.bitAnd e.v5 32 != 0) && (Builtin.bitAnd e.v6 64 != 0))))
def dW (r:Rw) (e:Ent):Option Wt:=if cP e=true then some .place else if r.aY e.h=none then some .aY else match r with | .back b=>if i8 b e=true then none else some .back | _=>none
def d_ (r:Rw) (e t:Ent):Option Wt:=if Bt.wo t.b.toNat (r.keep e.b.toNat e.h)≠0 then some .back else if Bt.wo t.v4.toNat (r.keep e.v4.toNat e.h)≠0 then some .b4 else if Bt.wo t.v5.toNat (r.keep e.v5.toNat e.h)≠0 then some .b5 else if Bt.wo t.v6.toNat (r.keep e.v6.toNat e.h)≠0 then some .b6 else none
def eL (r:Rw) (e:Ent) (c:Int) (es:List (Option Ent)):Option Wt:=if 0≤c∧c<es.length then (match es[c.toNat]?.join with | none=>some .aR | some t=>if r.aY e.h=some t.h then d_ r e t else some .aY) else some .row
def ej (t:Int) (es:List (Option Ent)):Option Wt:=if 0≤t∧t<es.length then (if iw (es[t.toNat]?.join) iJ=true then none else some .start) else some .row
def Ent.nn (e:Ent):Prop:=0≤e.b∧0≤e.v4∧0≤e.v5∧0≤e.v6
def xh (K:W.Frag):Sp:=fun vs H Q _=>∃ (n:Int) (p:Addr) (us:List V),vs=[.int n,.ref p]∧aA K H p us∧Q (.bl (decide (0≤n∧n<us.length))) H
def xj (K:W.Frag):Sp:=fun vs H Q _=>∃ (p:Addr) (e:Ent),vs=[.ref p]∧gR K H p e∧∀ H',au H H'→Q (.bl (cP e)) H'
def zZ (K:W.Frag) (a:cM):Sp:=fun vs H Q _=>∃ (x p:Addr) (b:Int) (e:Ent),vs=[.ref x,.ref p]∧bX a H x (.back b)∧0≤b∧b≤7∧gR K H p e∧∀ H',au H H'→Q (.bl (i8 b e)) H'
def Bl (K:W.Frag) (a:cM):Sp:=fun vs H Q _=>∃ (x p:Addr) (r:Rw) (e:Ent),vs=[.ref x,.ref p]∧bX a H x r∧r.ok∧r.here∧gR K H p e∧∀ H',au H H'→Q (oV (dW r e)) H'
def Bc (K:W.Frag) (a:cM):Sp:=fun vs H Q _=>∃ (x p l:Addr) (c:Int) (r:Rw) (e:Ent) (ev:List V) (es:List (Option Ent)),vs=[.ref x,.ref p,.int c,.ref l]∧bX a H x r∧r.ok∧r.here∧gR K H p e∧e.nn∧0≤e.h∧e.h≤4000∧(r.aY e.h).isSome=true∧H l=some (.lst ev)∧bQ K H ev es∧(∀ t,some t∈es→t.nn)∧∀ H',au H H'→Q (oV (eL r e c es)) H'
def A5 (K:W.Frag) (a:cM):Sp:=fun vs H Q _=>∃ (x l:Addr) (t:Int) (ev:List V) (es:List (Option Ent)),vs=[.ref x,.ref l]∧bX a H x (.call t)∧H l=some (.lst ev)∧bQ K H ev es∧∀ H',au H H'→Q (oV (ej t es)) H'
def once (ns:List Int):List Int:=ns.foldl (fun t n=>if n∈t then t else t++[n]) []
def AZ (K:W.Frag):Sp:=fun vs H Q _=>∃ (p:Addr) (ns:List Int),vs=[.ref p]∧aA K H p (ns.map V.int)∧ns.length≤4000∧∀ q H',au H H'→H' q=some (.lst ((once ns).map V.int))→Q (.ref q) H'
theorem AI (ns:List Int):(ns.map V.int).all eI=true:=by rw [List.all_map];exact List.all_eq_true.mpr fun _ _=>rfl
theorem BQ (n:Int) (ns:List Int):fE (.int n) (ns.map V.int)=decide (n∈ns):=by
 unfold fE;rw [List.any_map]
 induction ns with
 | nil=>rfl
 | cons p ps ih =>
   rw [List.any_cons,ih];show (k8 (.int p) (.int n) || _)=_;by_cases e:n=p
   · subst e;simp [k8]
   · have : ¬ p = n := fun z => e z.symm;simp [k8,e,this]
theorem bQ.at {K:W.Frag} {H:Hp} {vs:List V} {es:List (Option Ent)} {c:Int} (h:bQ K H vs es) (h0 : 0≤c) (h1:c<es.length):∃ v oe,dz vs c=some v∧es[c.toNat]? = some oe∧oe∈es∧gz K H v oe:=by
 have hi:c.toNat<es.length:=by omega
 obtain ⟨v,e1,e2⟩:=h.2 c.toNat _ (List.getElem?_eq_getElem hi);exact ⟨v,_,by rw [show c=((c.toNat:Nat):Int) from by omega];exact cn e1,List.getElem?_eq_getElem hi,List.getElem_mem hi,e2⟩
theorem vV {K:W.Frag} {H:Hp} {s q:Addr} (h1:aZ K H s [.int 0,.int 128,.ref q]) (h2:aZ K H q [.int 16,.int 32,.int 64]):Dp K H (fG iJ) (.ref s):=kX h1 (cx (fb _) (cx (fb _) (cx (kX h2 (cx (fb _) (cx (fb _) (cx (fb _) eA)))) eA)))
theorem SI {K:W.Frag} {x y:V} {H:Hp} {Q:VK} (a b:Option Ent) (hx:Dp K H (fG a) x) (hy:Dp K H (fG b) y) (q:Q (.bl (iw a b)) H):uw K x y H Q:=.inr ⟨fG a,fG b,hx,hy,ix a,ix b,q⟩
theorem OZ {K:W.Frag} {x y:V} {H:Hp} {Q:VK} (a b:Option Ent) (hx:Dp K H (fG a) x) (hy:Dp K H (fG b) y) (q:Q (.bl (!iw a b)) H):il K x y H Q:=.inr ⟨fG a,fG b,hx,hy,ix a,ix b,q⟩
theorem FY {w:Wt} {H:Hp} {Q:VK} (q:Q (.bl true) H):gW w.v .aR H Q:=⟨rfl,by rw [decide_eq_false (fun z=>by cases w <;> cases z)];exact q⟩
structure Cm where
 i:Int
 at_:Int
 w:Wt
def Bj (H:Hp) (v:V) (c:Cm):Prop:=∃ q,v=.ref q∧H q=some (.tup [.int c.i,.int c.at_,c.w.v])
def cB (H:Hp) (vs:List V) (cs:List Cm):Prop:=vs.length=cs.length∧∀ (i:Nat) (c:Cm),cs[i]? = some c→∃ v,vs[i]? = some v∧Bj H v c
theorem Bj.same {H H':Hp} {v:V} {c:Cm} (h:Bj H v c) (s:au H H'):Bj H' v c:=let ⟨q,e,k⟩:=h;⟨q,e,s _ _ k⟩
theorem cB.same {H H':Hp} {vs:List V} {cs:List Cm} (h:cB H vs cs) (s:au H H'):cB H' vs cs:=⟨h.1,fun i c e=>let ⟨v,e1,e2⟩:=h.2 i c e;⟨v,e1,e2.same s⟩⟩
theorem cB.nil {H:Hp}:cB H [] []:=⟨rfl,fun i c e=>by simp at e⟩
theorem cB.app {H:Hp} {vs us:List V} {cs ds:List Cm} (h:cB H vs cs) (k:cB H us ds):cB H (vs++us) (cs++ds):=by
 refine ⟨by rw [List.length_append,List.length_append,h.1,k.1],fun i o e=>?_⟩;by_cases hi:i<cs.length
 · rw [List.getElem?_append_left hi] at e;obtain ⟨u,e1,e2⟩:=h.2 i o e;exact ⟨u,by rw [List.getElem?_append_left (by rw [h.1];exact hi)];exact e1,e2⟩
 · rw [List.getElem?_append_right (by omega)] at e;obtain ⟨u,e1,e2⟩:=k.2 _ o e;exact ⟨u,by rw [List.getElem?_append_right (by rw [h.1];omega),h.1];exact e1,e2⟩
theorem cB.one {H:Hp} {v:V} {c:Cm} (h:Bj H v c):cB H [v] [c]:=⟨rfl,fun i c' e=>by
 cases i with
 | zero=>simp at e;subst e;exact ⟨v,rfl,h⟩
 | succ i=>simp at e⟩
def lC (r:Rw) (i:Int) (es:List (Option Ent)):List Cm:=match r with | .call t=>((ej t es).map fun w=>Cm.mk i t w).toList | _=>[]
def jK (r:Rw) (e:Ent) (i:Int) (es:List (Option Ent)):List Cm:=match dW r e with
 | some w=>[⟨i,i,w⟩]
 | none=>((once (r.dM i)).filterMap fun c=>(eL r e c es).map fun w=>Cm.mk i c w)++lC r i es
def jr (rs:List Rw) (es:List (Option Ent)) (i:Nat):List Cm:=match rs[i]?,es[i]?.join with
 | some r,some e=>jK r e i es
 | _,_=>[]
def jn (r:Rw) (oe:Option Ent) (at_:Int) (es:List (Option Ent)):Option Wt:=if r.isCall=true then (match oe with | none=>none | some e=>if (dW r e).isSome=true then none else eL r e at_ es) else some .call
def gX (rs:List Rw) (es:List (Option Ent)) (i at_:Int):Option Wt :=
 if 0≤i∧i<es.length then (match rs[i.toNat]?,es[i.toNat]?.join with
   | some r,oe=>jn r oe at_ es
   | none,_=>some .call) else some .call
structure CD (rs:List Rw) (es:List (Option Ent)):Prop where
 ok:∀ r∈rs,r.ok∧r.here
 nn:∀ t,some t∈es→t.nn
 nr:rs.length≤2000
 ne:es.length≤2000
def z_ (K : W.Frag) (a : cM) : Sp := fun vs H Q _ => ∃ (c l : Addr) (i : Nat) (prs : List Addr) (rs : List Rw) (ev : List V) (es : List (Option Ent)), vs = [.ref c, .ref l, .int (i : Int)] ∧ H c = some (.lst (prs.map V.ref)) ∧ bY a H prs rs ∧ H l = some (.lst ev) ∧ bQ K H ev es ∧ CD rs es ∧ i < rs.length ∧ rs.length = es.length ∧
 ∀ p us H',au H H'→H' p=some (.lst us)→cB H' us (jr rs es i)→H p=none→Q (.ref p) H'
def xE (K : W.Frag) (a : cM) : Sp := fun vs H Q _ => ∃ (c l : Addr) (i z : Int) (prs : List Addr) (rs : List Rw) (ev : List V) (es : List (Option Ent)), vs = [.ref c, .ref l, .int i, .int z] ∧ H c = some (.lst (prs.map V.ref)) ∧ bY a H prs rs ∧ H l = some (.lst ev) ∧ bQ K H ev es ∧ CD rs es ∧ rs.length = es.length ∧
 ∀ H',au H H'→Q (oV (gX rs es i z)) H'
def dF (rs:List Rw) (es:List (Option Ent)):List Cm:=if 0<rs.length then (if iw (es[0]?.join) iJ=true then [] else [⟨-1,0,.start⟩]) else []
def gZ (rs:List Rw) (es:List (Option Ent)) (ls:List (Int×Int)) (ks:List Int):List Cm:=ks.flatMap fun k=>((gX rs es k (lv ls k)).map fun w=>Cm.mk k (lv ls k) w).toList
def fN (rs:List Rw) (es:List (Option Ent)) (n:Nat):List Cm:=(List.range n).flatMap fun i=>jr rs es i
def c9 (rs:List Rw) (es:List (Option Ent)) (ls:List (Int×Int)) (ks:List Int):List Cm :=
 if es.length=rs.length then dF rs es++fN rs es rs.length++gZ rs es ls ks else [⟨-1,-1,.length⟩]
theorem nQ (rs:List Rw) (es:List (Option Ent)) (n:Nat):fN rs es (n+1)=fN rs es n++jr rs es n:=by
 unfold fN;rw [List.range_succ,List.flatMap_append];simp
theorem B8 (r:Rw) (e:Ent) (i:Int) (es:List (Option Ent)):(jK r e i es).length≤10:=by
 unfold jK;split
 · exact Nat.le_of_ble_eq_true rfl
 · rw [List.length_append];have h1:=List.length_filterMap_le (fun c=>(eL r e c es).map fun w=>Cm.mk i c w) (once (r.dM i));have h2:(once (r.dM i)).length≤9:=by
     cases r <;> simp [Rw.dM,once]
     split <;> simp
   have h3:(lC r i es).length≤1:=by
     unfold lC;split
     · cases ej _ es <;> exact Nat.le_of_ble_eq_true rfl
     · exact Nat.zero_le _
   omega
theorem rN (rs:List Rw) (es:List (Option Ent)) (i:Nat):(jr rs es i).length≤10:=by
 unfold jr;split
 · exact B8 _ _ _ _
 · exact Nat.zero_le _
theorem kq (rs : List Rw) (es : List (Option Ent)) : ∀ n, (fN rs es n).length ≤ 10 * n
 | 0=>Nat.le_refl _
 | n + 1 => by
   rw [nQ,List.length_append]
   have:=kq rs es n
   have:=rN rs es n
   omega
theorem zc (rs:List Rw) (es:List (Option Ent)):(dF rs es).length≤1:=by
 unfold dF;split
 · split <;> exact Nat.le_of_ble_eq_true rfl
 · exact Nat.zero_le _
def TabOf (K:W.Frag) (a:cM) (H:Hp) (t:Addr) (ev:List V) (ls:List (Int×Int)):Prop:=∃ dt l d,H t=some (.ins a.bT dt (fq l d))∧H l=some (.lst ev)∧H d=some (.dK (bp ls))
def j5 (K : W.Frag) (a : cM) : Sp := fun vs H Q _ => ∃ (c t : Addr) (prs : List Addr) (rs : List Rw) (ev : List V) (es : List (Option Ent)) (ls : List (Int × Int)), vs = [.ref c, .ref t] ∧ H c = some (.lst (prs.map V.ref)) ∧ bY a H prs rs ∧ TabOf K a H t ev ls ∧ bQ K H ev es ∧ CD rs es ∧ (ls.map (·.1)).Nodup ∧ ls.length < 64 ∧
 ∀ p us ks H',au H H'→H' p=some (.lst us)→(es.length=rs.length→ks.Perm (ls.map (·.1))∧ks.Pairwise (· ≤ ·))→cB H' us (c9 rs es ls ks)→Q (.ref p) H'
local macro_rules | `(tactic| walk_at "mine") => `(tactic| first | (with_reducible refine FY ?_) | (with_reducible refine r_isW ?_) | (with_reducible refine D3 ?_) | (with_reducible refine Kf ?_) | (with_reducible refine E9 ?_) | (with_reducible refine Fd ?_) | (with_reducible refine FD ?_) | (with_reducible refine r_makeD _ _ _ ?_) | (with_reducible refine r_bitlen ?_) | (with_reducible refine r_tyI ?_) | (with_reducible refine r_low ?_) | (with_reducible refine xy ?_) | (with_reducible refine Aw ?_) | ((with_reducible refine' FO ?x ?y ?_); (case x => walk_at "sqt"); (case y => with_unfolding_all rfl)) | ((with_reducible refine' F8 ?x ?_); (case x => walk_at "hlk")) | ((with_reducible refine' j4 ?x ?y ?_); (case x => walk_at "hlk"); (case y => walk_at "small")) | ((with_reducible refine' EA ?x ?y ?z ?_); (case x => walk_at "hlk"); (case y => walk_at "hlk"); (case z => walk_at "small")))
local macro_rules | `(tactic| walk_at "rk") => `(tactic| repeat (first | walk_at "r1" | walk_at "r3" | walk_at "cond" | walk_at "calls" | walk_at "mine" | ((with_reducible refine' Dj ?h ?_); (case h => rfl)) | ((with_reducible refine' C2 ?h ?_); (case h => rfl)) | ((with_reducible refine' zQ ?h ?c ?n ?l ?_); (case h => walk_at "hlk"); (case c => walk_at "cls"); (case n => walk_at "noat"); (case l => walk_at "lk"))))
section
variable {P:Program} {w:World} {K:W.Frag} {mg:Str→Option Value} {base:Heap} {a:cM}
theorem gF {A:Hp} {l b:Addr} {x:HO} (h:(upd A l x) b=none):A b=none∧b≠l:=by
 by_cases e:b=l
 · rw [e,ae] at h;cases h
 · rw [aw e] at h;exact ⟨h,e⟩
def cN (rs:List Rw) (ls:List (Int×Int)) (i:Nat):List Int:=match rs[i]? with
 | some r=>r.dM i++(if r.isCall=true∧(i:Int)∈ls.map (·.1) then [lv ls i] else [])
 | none=>[]
inductive RH (rs : List Rw) (ls : List (Int × Int)) : Int → Int → Prop
 | start:RH rs ls 0 0
 | way {i:Nat} {h h' w:Int} {r:Rw}:RH rs ls (i:Int) h→rs[i]? = some r→r.aY h=some h'→w∈cN rs ls i→RH rs ls w h'
 | call {i:Nat} {h t:Int}:RH rs ls (i:Int) h→rs[i]? = some (.call t)→RH rs ls t 0
def qf (rs:List Rw) (ls:List (Int×Int)):Prop:=∃ (i h:Int),RH rs ls i h∧(i<0∨(rs.length:Int)≤i∨(∃ r,rs[i.toNat]? = some r∧r.aY h=none)∨∃ h2,RH rs ls i h2∧h2≠h)
structure oF (rs:List Rw) (ls:List (Int×Int)) (hs:List (Option Int)):Prop where
 len:hs.length=rs.length
 rh:∀ (i:Nat) (h:Int),hs[i]? = some (some h)→RH rs ls (i:Int) h
 start:hs[0]? = some (some 0)
 cl:∀ (i:Nat) (h:Int) (r:Rw),hs[i]? = some (some h)→rs[i]? = some r→∃ h',r.aY h=some h'∧∀ w∈cN rs ls i,0≤w∧hs[w.toNat]? = some (some h')
 tg:∀ (i:Nat) (h t:Int),hs[i]? = some (some h)→rs[i]? = some (.call t)→0≤t∧hs[t.toNat]? = some (some 0)
def nV (k:Nat):V:=.int (k:Int)
def mL (H:Hp) (ly:Addr) (rs:List Rw) (ls:List (Int×Int)):Prop:=∃ wps:List Addr,H ly=some (.lst (wps.map V.ref))∧wps.length=rs.length∧∀ (i:Nat) (p:Addr),wps[i]? = some p→H p=some (.lst ((cN rs ls i).map V.int))
theorem mL.same {H H':Hp} {ly:Addr} {rs:List Rw} {ls:List (Int×Int)} (h:mL H ly rs ls) (s:au H H'):mL H' ly rs ls:=let ⟨wps,h1,h2,h3⟩:=h;⟨wps,s _ _ h1,h2,fun i p e=>s _ _ (h3 i p e)⟩
def uG (K : W.Frag) (a : cM) : Sp := fun vs H Q _ => ∃ (c d : Addr) (i : Nat) (prs : List Addr) (rs : List Rw) (ls : List (Int × Int)), vs = [.ref c, .ref d, .int (i : Int)] ∧ H c = some (.lst (prs.map V.ref)) ∧ bY a H prs rs ∧ (∀ r ∈ rs, r.ok ∧ r.here) ∧ H d = some (.dK (bp ls)) ∧ (ls.map (·.1)).Nodup ∧ i < rs.length ∧
 ∀ p H',au H H'→H p=none→H' p=some (.lst ((cN rs ls i).map V.int))→Q (.ref p) H'
def qP (a : cM) : Sp := fun vs H Q E => ∃ (lh lw : Addr) (n high : Int) (hs : List (Option Int)) (ws : List Nat), vs = [.ref lh, .ref lw, .int n, .int high] ∧ H lh = some (.lst (hs.map cv)) ∧ H lw = some (.lst (ws.map nV)) ∧ hs.length ≤ 2000 ∧ ws.length ≤ 2000 ∧ -10000 ≤ n ∧ n ≤ 10000 ∧ lh ≠ lw ∧
 ((n<0∨(hs.length:Int)≤n∨∃ h2,hs[n.toNat]? = some (some h2)∧h2≠high)→E (.ref a.fh) none H)∧(0≤n→hs[n.toNat]? = some (some high)→Q .aR H) ∧
 (0≤n→hs[n.toNat]? = some none→Q .aR (upd (upd H lh (.lst ((hs.set n.toNat (some high)).map cv))) lw (.lst ((ws++[n.toNat]).map nV))))
def b8 (ks:List Nat):List (Key×V):=ks.map fun k:Nat=>((Sum.inl (k:Int):Key),V.bl true)
def cC : Option Nat → V
 | none=>.aR
 | some s=>.int (s:Int)
def jb (ks:List Nat) (k:Nat):List Nat:=if k∈ks then ks else ks++[k]
def iy (o:Option Nat) (p:Nat):Nat:=match o with
 | none=>p
 | some s=>s &&& p
def oq : Sp := fun vs H Q _ => ∃ (lsx dc : Addr) (n p : Nat) (ss : List (Option Nat)) (ks : List Nat) (o : Option Nat), vs = [.ref lsx, .ref dc, .int (n : Int), .int (p : Int)] ∧ H lsx = some (.lst (ss.map cC)) ∧ H dc = some (.dK (b8 ks)) ∧ ss.length ≤ 2000 ∧ ks.length ≤ 2000 ∧ ks.Nodup ∧ ss[n]? = some o ∧
 (o=some (iy o p)→Q .aR H)∧(o≠some (iy o p)→Q .aR (upd (upd H lsx (.lst ((ss.set n (some (iy o p))).map cC))) dc (.dK (b8 (jb ks n)))))
theorem yU {n k:Nat} (h:k<n):j_ n (k:Int)=some k:=by
 unfold j_;rw [if_pos (by omega),if_pos (by omega)];rfl
theorem Cy {ks:List Nat} (n:Nat):putK (b8 ks) (.inl (n:Int)) (.bl true)=b8 (jb ks n):=by
 unfold putK jb;have e:((b8 ks).any fun kv=>decide (kv.1=(Sum.inl (n:Int):Key)))=decide (n∈ks):=by
   unfold b8;rw [List.any_map]
   induction ks with
   | nil=>rfl
   | cons k r ih =>
     rw [List.any_cons,ih];by_cases h:k=n
     · subst h;simp
     · have h2 : ¬ n = k := fun z => h z.symm;have h3 : ¬ ((Sum.inl (k:Int):Key)=Sum.inl (n:Int)):=fun z=>h (by have:=Sum.inl.inj z;omega);simp only [Function.comp_apply,List.mem_cons,h2,false_or];rw [decide_eq_false h3,Bool.false_or]
 rw [e];by_cases h:n∈ks
 · rw [if_pos (decide_eq_true h), if_pos h];unfold b8;rw [List.map_map];refine congrArg (fun f=>ks.map f) (funext fun k=>?_);show (if _ then _ else _)=_;split <;> rfl
 · rw [if_neg (by rw [decide_eq_false h]; exact Bool.false_ne_true), if_neg h];unfold b8;rw [List.map_append];rfl
theorem DR {ks:List Nat} (h:ks.Nodup) (n:Nat):(jb ks n).Nodup:=by
 unfold jb;split
 · exact h
 · rename_i hn;exact List.nodup_append.mpr ⟨h,(by simp),fun a ha b hb=>by rw [List.mem_singleton.mp hb];exact fun z=>hn (z ▸ ha)⟩
theorem Aj (ks:List Nat):(b8 ks).map (·.1)=(ks.map fun k:Nat=>(k:Int)).map Sum.inl:=by
 unfold b8;rw [List.map_map,List.map_map];rfl
theorem mH {α : Type} (f : α→V) (xs:List α) (n:Nat) (x : α):(xs.map f).set n (f x)=(xs.set n x).map f:=by rw [List.map_set]
theorem js {n:Int} (h1 : -10000≤n) (h2:n≤10000):n.natAbs.log2<1900:=by
 by_cases h:n.natAbs=0
 · rw [h];decide
 · exact (Nat.log2_lt h).mpr (Nat.lt_of_lt_of_le (show n.natAbs<2 ^ 14 by omega) (Nat.pow_le_pow_right (by decide) (by decide)))
def eW (ls:List (Int×Int)):Prop:=(ls.map (·.1)).Nodup∧ls.length<64∧∀ p∈ls,-10000≤p.2∧p.2≤10000
theorem FX {ls:List (Int×Int)} {k:Int} (h:k∈ls.map (·.1)):∃ p∈ls,lv ls k=p.2:=by
 unfold lv;obtain ⟨p,hp,e⟩:=List.mem_map.mp h;cases hf:ls.find? fun p=>decide (p.1=k) with
 | none =>
   have:=List.find?_eq_none.mp hf p hp
   rw [decide_eq_true e] at this;exact absurd rfl this
 | some q=>exact ⟨q,List.mem_of_find?_eq_some hf,rfl⟩
theorem yP {rs:List Rw} {ls:List (Int×Int)} (aG:∀ r∈rs,r.ok∧r.here) (hl:eW ls) (hn:rs.length≤2000) {i:Nat}:∀ w∈cN rs ls i,-10000≤w∧w≤10000:=by
 intro w hw;unfold cN at hw;cases h:rs[i]? with
 | none=>rw [h] at hw;cases hw
 | some r =>
   rw [h] at hw;have hi:=(List.getElem?_eq_some_iff.mp h).1;have ho:=(aG r (List.mem_of_getElem? h)).1;rcases List.mem_append.mp hw with hw | hw
   · cases r <;> simp only [Rw.dM,List.mem_cons,List.not_mem_nil,or_false] at hw <;> simp only [Rw.ok,aU,isVal,aM,bb] at ho <;> omega
   · split at hw
     · rename_i hc;rw [List.mem_singleton.mp hw];obtain ⟨p,hp,e⟩:=FX hc.2;rw [e];exact hl.2.2 p hp
     · cases hw
def nN (hs:List (Option Int)):Nat:=(hs.filter fun o=>o.isNone).length
theorem uM : ∀ {hs : List (Option Int)} {n : Nat} {x : Int}, hs[n]? = some none → nN (hs.set n (some x)) + 1 = nN hs
 | [],n,x,h=>by simp at h
 | o :: r, 0, x, h => by
   have e:o=none:=by simpa using h
   subst e;rfl
 | o :: r, n + 1, x, h => by
   have ih:=@uM r n x (by simpa using h);unfold nN at ih ⊢;rw [List.set_cons_succ,List.filter_cons,List.filter_cons];split
   · rw [List.length_cons,List.length_cons];omega
   · exact ih
theorem G1 (n:Nat):nN (List.replicate n none)=n:=by
 unfold nN;rw [List.filter_eq_self.mpr (fun a ha=>by rw [List.eq_of_mem_replicate ha];rfl),List.length_replicate]
def Fv (rs : List Rw) (ls : List (Int × Int)) (hs : List (Option Int)) (i : Nat) : Prop := ∀ (h : Int) (r : Rw), hs[i]? = some (some h) → rs[i]? = some r →
 (∃ h',r.aY h=some h'∧∀ w∈cN rs ls i,0≤w∧hs[w.toNat]? = some (some h'))∧∀ t,r=.call t→0≤t∧hs[t.toNat]? = some (some 0)
structure HI (rs:List Rw) (ls:List (Int×Int)) (hs:List (Option Int)) (ws:List Nat) (ex:Option Nat):Prop where
 len:hs.length=rs.length
 rh:∀ (i:Nat) (h:Int),hs[i]? = some (some h)→RH rs ls (i:Int) h
 Dg:∀ k∈ws,∃ h,hs[k]? = some (some h)
 cl:∀ i,i ∉ ws→some i≠ex→Fv rs ls hs i
 CY:ws.length+nN hs≤hs.length
theorem gj {hs:List (Option Int)} {n i:Nat} {x h:Int} (e:hs[n]? = some none) (hi:hs[i]? = some (some h)):(hs.set n (some x))[i]? = some (some h):=by
 have ne:n≠i:=fun z=>by rw [z,hi] at e;cases e
 rw [List.getElem?_set_ne ne];exact hi
theorem HI.new {rs:List Rw} {ls:List (Int×Int)} {hs:List (Option Int)} {ws:List Nat} {ex:Option Nat} {n:Nat} {x:Int} (I:HI rs ls hs ws ex) (e:hs[n]? = some none) (r:RH rs ls (n:Int) x):HI rs ls (hs.set n (some x)) (ws++[n]) ex:=by
 have hn:=(List.getElem?_eq_some_iff.mp e).1;refine ⟨by rw [List.length_set];exact I.len,fun i h hi=>?_,fun k hk=>?_,fun i hi hx h r' hh hr'=>?_,?_⟩
 · by_cases z : n = i
   · subst z;rw [List.getElem?_set_self hn] at hi;cases hi;exact r
   · rw [List.getElem?_set_ne z] at hi;exact I.rh i h hi
 · rcases List.mem_append.mp hk with hk | hk
   · obtain ⟨h, hh⟩ := I.Dg k hk;exact ⟨h,gj e hh⟩
   · rw [List.mem_singleton.mp hk];exact ⟨x,List.getElem?_set_self hn⟩
 · have z : n ≠ i := fun z => hi (List.mem_append_right _ (List.mem_singleton.mpr z.symm));rw [List.getElem?_set_ne z] at hh;obtain ⟨⟨h',a1,a2⟩,a3⟩:=I.cl i (fun hm=>hi (List.mem_append_left _ hm)) hx h r' hh hr';exact ⟨⟨h',a1,fun w hw=>⟨(a2 w hw).1,gj e (a2 w hw).2⟩⟩,fun t ht=>⟨(a3 t ht).1,gj e (a3 t ht).2⟩⟩
 · have h1 := uM (x := x) e;have h2:=I.CY;rw [List.length_append,List.length_set];show _+1+_≤_;omega
def Dx (K : W.Frag) (a : cM) : Sp := fun vs H Q E => ∃ (c ly : Addr) (prs : List Addr) (rs : List Rw) (ls : List (Int × Int)), vs = [.ref c, .ref ly] ∧ H c = some (.lst (prs.map V.ref)) ∧ bY a H prs rs ∧ (∀ r ∈ rs, r.ok ∧ r.here) ∧ 0 < rs.length ∧ rs.length ≤ 2000 ∧ eW ls ∧ mL H ly rs ls ∧
 (qf rs ls→∀ H',au H H'→E (.ref a.fh) none H')∧∀ l hs H',au H H'→H l=none→H' l=some (.lst (hs.map cv))→oF rs ls hs→Q (.ref l) H'
theorem HI.reach {rs:List Rw} {ls:List (Int×Int)} {hs:List (Option Int)} {ws:List Nat} {ex:Option Nat} {n x:Int} (I:HI rs ls hs ws ex) (r:RH rs ls n x):(n<0∨(hs.length:Int)≤n∨∃ h2,hs[n.toNat]? = some (some h2)∧h2≠x)→qf rs ls:=by
 intro hb;by_cases h0:n<0
 · exact ⟨n,x,r,.inl h0⟩
 · rcases hb with hb | hb | ⟨h2, e2, n2⟩
   · exact absurd hb h0
   · exact ⟨n,x,r,.inr (.inl (by rw [← I.len];exact hb))⟩
   · have e3 := I.rh _ _ e2;rw [show ((n.toNat:Nat):Int)=n by omega] at e3;exact ⟨n,x,r,.inr (.inr (.inr ⟨h2,e3,n2⟩))⟩
theorem HI.close {rs:List Rw} {ls:List (Int×Int)} {hs:List (Option Int)} {ws:List Nat} {k:Nat} (I:HI rs ls hs ws (some k)) (c:Fv rs ls hs k):HI rs ls hs ws none:=⟨I.len,I.rh,I.Dg,fun i hi _=>by
 by_cases z:i=k
 · rw [z];exact c
 · exact I.cl i hi (fun e=>z (Option.some.inj e)),I.CY⟩
theorem pB : ∀ (n : Nat) (ks : List Nat), ks.Nodup → (∀ k ∈ ks, k < n) → ks.length ≤ n
 | 0, ks, _, h => by
   cases ks with
   | nil=>exact Nat.le_refl _
   | cons k r=>exact absurd (h k (List.mem_cons_self ..)) (Nat.not_lt_zero k)
 | n + 1, ks, hnd, h => by
   by_cases hm:n∈ks
   · have := pB n (ks.erase n) (hnd.erase n) fun k hk => by
       have h1:=hnd.mem_erase_iff.mp hk
       have:=h k h1.2
       have:=h1.1
       omega
     rw [List.length_erase_of_mem hm] at this;omega
   · have := pB n ks hnd fun k hk => by
       have h1:=h k hk;have h2:k≠n:=fun z=>hm (z ▸ hk);omega
     omega
def Sub (x y:Nat):Prop:=x &&& y=x
theorem Sub.iff {x y:Nat}:Sub x y ↔ ∀ i,x.testBit i=true→y.testBit i=true:=by
 unfold Sub
 constructor
 · intro h i hi
   have:=congrArg (fun z=>z.testBit i) h
   simp only [Nat.testBit_and,hi,Bool.true_and] at this;exact this
 · intro h;apply Nat.eq_of_testBit_eq;intro i;rw [Nat.testBit_and];cases hx:x.testBit i with
   | false=>rfl
   | true=>rw [h i hx];rfl
theorem Sub.refl (x:Nat):Sub x x:=Nat.and_self x
theorem Sub.trans {x y z:Nat} (h:Sub x y) (k:Sub y z):Sub x z:=Sub.iff.mpr fun i hi=>Sub.iff.mp k i (Sub.iff.mp h i hi)
theorem Sub.left (x y:Nat):Sub (x &&& y) x:=Sub.iff.mpr fun i hi=>by rw [Nat.testBit_and,Bool.and_eq_true] at hi;exact hi.1
theorem Sub.right (x y:Nat):Sub (x &&& y) y:=Sub.iff.mpr fun i hi=>by rw [Nat.testBit_and,Bool.and_eq_true] at hi;exact hi.2
theorem Sub.both {g x y:Nat} (h:Sub g x) (k:Sub g y):Sub g (x &&& y):=Sub.iff.mpr fun i hi=>by rw [Nat.testBit_and,Sub.iff.mp h i hi,Sub.iff.mp k i hi];rfl
theorem Aq {x y p:Nat} (h:Sub x y):Sub (Bt.wo x p) (Bt.wo y p):=Sub.iff.mpr fun i hi=>by
 rw [Bt.p9,Bool.and_eq_true] at hi ⊢;exact ⟨Sub.iff.mp h i hi.1,hi.2⟩
theorem AR {x y p q:Nat} (h:Sub x y):Sub (gr x p q) (gr y p q):=by
 unfold gr;by_cases hx:x &&& q=0
 · rw [if_pos hx];by_cases hy:y &&& q=0
   · rw [if_pos hy];exact Aq h
   · rw [if_neg hy];refine Sub.iff.mpr fun i hi=>?_;rw [Bt.p9,Bool.and_eq_true] at hi;rw [Nat.testBit_or,Sub.iff.mp h i hi.1];rfl
 · have hy : ¬ y &&& q = 0 := fun z => hx (by
     apply Nat.eq_of_testBit_eq;intro i
     have:=congrArg (fun z=>z.testBit i) z
     simp only [Nat.testBit_and,Nat.zero_testBit] at this ⊢;cases hxi:x.testBit i with
     | false=>rfl
     | true=>rw [Sub.iff.mp h i hxi] at this;exact this)
   rw [if_neg hx,if_neg hy];refine Sub.iff.mpr fun i hi=>?_;rw [Nat.testBit_or,Bool.or_eq_true] at hi ⊢;rcases hi with hi | hi
   · exact .inl (Sub.iff.mp h i hi)
   · exact .inr hi
theorem B6 {x y:Nat} (r:Rw) (h:Int) (k:Sub x y):Sub (r.keep x h) (r.keep y h):=by
 cases r
 all_goals first | exact k | exact Aq k | exact AR k
theorem yh (x p:Nat):Bt.wo x p≤x:=by
 have:Sub (Bt.wo x p) x:=Sub.iff.mpr fun i hi=>by rw [Bt.p9,Bool.and_eq_true] at hi;exact hi.1
 rw [← this];exact Nat.and_le_right
theorem gH {x p q n:Nat} (h:x<2 ^ n) (k:p<2 ^ n):gr x p q<2 ^ n:=by
 unfold gr;split
 · exact Nat.lt_of_le_of_lt (yh _ _) h
 · exact Nat.or_lt_two_pow h k
theorem Ee {r:Rw} {x:Nat} {h:Int} (ho:r.ok) (h0 : 0≤h) (h1:h≤4000) (hx:x<2 ^ 4100):r.keep x h<2 ^ 4100:=by
 have ml:∀ m:Nat,m<4100→2 ^ m<2 ^ 4100:=fun m hm=>Nat.pow_lt_pow_right (by decide) hm;cases r
 case copy=>exact gH hx (ml _ (by simp only [Rw.ok,aU] at ho;omega))
 case put=>exact gH hx (ml _ (by simp only [Rw.ok,aU,aM] at ho;omega))
 case get=>exact gH hx (ml _ (by simp only [Rw.ok,aU,aM] at ho;omega))
 all_goals first | exact hx | exact Nat.lt_of_le_of_lt (yh _ _) hx
theorem Bq {r:Rw} {h h':Int} (ho:r.ok) (hb : 0≤h∧h≤4000) (hh:r.aY h=some h') : 0≤h'∧h'≤4000:=by
 cases r
 case grow m =>
   simp only [Rw.aY] at hh;simp only [Rw.ok,aM] at ho;split at hh
   · cases hh
   · have:=Option.some.inj hh;omega
 case shrink m =>
   simp only [Rw.aY] at hh;simp only [Rw.ok,aM] at ho;split at hh
   · cases hh
   · have:=Option.some.inj hh;omega
 case put b c =>
   simp only [Rw.aY] at hh;split at hh
   · cases hh
   · have:=Option.some.inj hh;omega
 case get b c =>
   simp only [Rw.aY] at hh;split at hh
   · cases hh
   · have:=Option.some.inj hh;omega
 all_goals (have:=Option.some.inj (show some h=some h' from hh);omega)
theorem yW {rs:List Rw} {ls:List (Int×Int)} (aG:∀ r∈rs,r.ok∧r.here) {i h:Int} (r:RH rs ls i h) : 0≤h∧h≤4000:=by
 induction r with
 | start=>exact ⟨by decide,by decide⟩
 | way _ hr hh _ ih=>exact Bq (aG _ (List.mem_of_getElem? hr)).1 ih hh
 | call=>exact ⟨by decide,by decide⟩
def Cons (rs:List Rw) (ls:List (Int×Int)) (hs:List (Option Int)) (first:Nat) (g:Nat→Nat):Prop:=Sub (g 0) first∧∀ (i:Nat) (h:Int) (r:Rw),hs[i]? = some (some h)→rs[i]? = some r→(∀ w∈cN rs ls i,Sub (g w.toNat) (r.keep (g i) h))∧∀ t,r=.call t→Sub (g t.toNat) first
def EX (rs : List Rw) (ls : List (Int × Int)) (hs : List (Option Int)) (first : Nat) (ss : List (Option Nat)) (i : Nat) : Prop := ∀ (s : Nat) (h : Int) (r : Rw), ss[i]? = some (some s) → hs[i]? = some (some h) → rs[i]? = some r →
 (∀ w∈cN rs ls i,∃ s',ss[w.toNat]? = some (some s')∧Sub s' (r.keep s h))∧∀ t,r=.call t→∃ s',ss[t.toNat]? = some (some s')∧Sub s' first
structure PI (rs:List Rw) (ls:List (Int×Int)) (hs:List (Option Int)) (first:Nat) (ss:List (Option Nat)) (pend:Nat→Prop):Prop where
 len:ss.length=rs.length
 rd:∀ (i s:Nat),ss[i]? = some (some s)→∃ h,hs[i]? = some (some h)
 bd:∀ (i s:Nat),ss[i]? = some (some s)→s<2 ^ 4100
 cl:∀ i,¬ pend i→EX rs ls hs first ss i
 up:∀ g,Cons rs ls hs first g→∀ (i s:Nat),ss[i]? = some (some s)→Sub (g i) s
def fH (ss ss':List (Option Nat)):Prop:=∀ (i s:Nat),ss[i]? = some (some s)→∃ s',ss'[i]? = some (some s')∧Sub s' s
theorem fH.refl (ss:List (Option Nat)):fH ss ss:=fun i s h=>⟨s,h,Sub.refl s⟩
theorem fH.trans {a b c:List (Option Nat)} (h:fH a b) (k:fH b c):fH a c:=fun i s e=>by
 obtain ⟨s1,e1,q1⟩:=h i s e;obtain ⟨s2,e2,q2⟩:=k i s1 e1;exact ⟨s2,e2,q2.trans q1⟩
def cm : List (Option Nat) → Nat
 | []=>0
 | none::r=>2 ^ 4200+cm r
 | some s::r=>s+cm r
theorem oS : ∀ {ss : List (Option Nat)} {n : Nat} {o : Option Nat} {x : Nat}, ss[n]? = some o → (∀ s, o = some s → x < s) → x < 2 ^ 4200 → cm (ss.set n (some x)) < cm ss
 | [],n,o,x,h,_,_=>by simp at h
 | none::r,0,o,x,h,_,hx=>by show x+cm r<2 ^ 4200+cm r;omega
 | some s :: r, 0, o, x, h, k, _ => by
   have:=k s (by simpa using h.symm)
   show x+cm r<s+cm r;omega
 | none :: r, n + 1, o, x, h, k, hx => by
   have:=oS (ss:=r) (n:=n) (o:=o) (x:=x) (by simpa using h) k hx
   show 2 ^ 4200+cm (r.set n (some x))<2 ^ 4200+cm r;omega
 | some s :: r, n + 1, o, x, h, k, hx => by
   have:=oS (ss:=r) (n:=n) (o:=o) (x:=x) (by simpa using h) k hx
   show s+cm (r.set n (some x))<s+cm r;omega
section
variable {rs:List Rw} {ls:List (Int×Int)} {hs:List (Option Int)} {first:Nat} {ss:List (Option Nat)} {pend:Nat→Prop} {n p:Nat} {o:Option Nat}
theorem vT (ho:ss[n]? = some o):fH ss (ss.set n (some (iy o p))):=fun i s e=>by
 have hn:=(List.getElem?_eq_some_iff.mp ho).1;by_cases z:n=i
 · subst z;rw [ho] at e;cases e
   exact ⟨_,List.getElem?_set_self hn,Sub.left s p⟩
 · exact ⟨s,by rw [List.getElem?_set_ne z];exact e,Sub.refl s⟩
theorem xP (ho:ss[n]? = some o) (hne:o≠some (iy o p)) (hb:p<2 ^ 4100):cm (ss.set n (some (iy o p)))<cm ss:=by
 have ml:(2:Nat) ^ 4100<2 ^ 4200:=Nat.pow_lt_pow_right (by decide) (by decide);refine oS ho (fun s e=>?_) ?_
 · subst e;have h1:s &&& p≤s:=Nat.and_le_left;have h2:s &&& p≠s:=fun z=>hne (by show some s=some (s &&& p);rw [z]);show s &&& p<s;omega
 · cases o with
   | none=>show p<_;omega
   | some s=>exact Nat.lt_of_le_of_lt (show s &&& p≤p from Nat.and_le_right) (by omega)
theorem PI.narrow (I:PI rs ls hs first ss pend) (ho:ss[n]? = some o) (hh:∃ h,hs[n]? = some (some h)) (hb:p<2 ^ 4100) (hg:∀ g,Cons rs ls hs first g→Sub (g n) p):PI rs ls hs first (ss.set n (some (iy o p))) (fun i=>pend i∨i=n):=by
 have hn:=(List.getElem?_eq_some_iff.mp ho).1;have hl:=vT (p:=p) ho;have hleft:Sub (iy o p) p:=by cases o with | none=>exact Sub.refl p | some s=>exact Sub.right s p
 refine ⟨by rw [List.length_set];exact I.len,fun i s e=>?_,fun i s e=>?_,fun i hi s h r e1 e2 e3=>?_,fun g cg i s e=>?_⟩
 · by_cases z : n = i
   · subst z;exact hh
   · rw [List.getElem?_set_ne z] at e;exact I.rd i s e
 · by_cases z : n = i
   · subst z;rw [List.getElem?_set_self hn] at e;cases e
     cases o with
     | none=>exact hb
     | some s=>exact Nat.lt_of_le_of_lt (show s &&& p≤p from Nat.and_le_right) hb
   · rw [List.getElem?_set_ne z] at e;exact I.bd i s e
 · have z : n ≠ i := fun z => hi (.inr z.symm);rw [List.getElem?_set_ne z] at e1;obtain ⟨a1,a2⟩:=I.cl i (fun k=>hi (.inl k)) s h r e1 e2 e3;refine ⟨fun w hw=>?_,fun t ht=>?_⟩
   · obtain ⟨s', b1, b2⟩ := a1 w hw;obtain ⟨s2,c1,c2⟩:=hl _ _ b1;exact ⟨s2,c1,c2.trans b2⟩
   · obtain ⟨s', b1, b2⟩ := a2 t ht;obtain ⟨s2,c1,c2⟩:=hl _ _ b1;exact ⟨s2,c1,c2.trans b2⟩
 · by_cases z : n = i
   · subst z;rw [List.getElem?_set_self hn] at e;cases e
     cases o with
     | none=>exact hg g cg
     | some s0=>exact (I.up g cg n s0 ho).both (hg g cg)
   · rw [List.getElem?_set_ne z] at e;exact I.up g cg i s e
theorem PI.weak {pend':Nat→Prop} (I:PI rs ls hs first ss pend) (h:∀ i,pend i→pend' i):PI rs ls hs first ss pend':=⟨I.len,I.rd,I.bd,fun i hi=>I.cl i fun k=>hi (h i k),I.up⟩
theorem PI.done {pend':Nat→Prop} (I:PI rs ls hs first ss pend) (h:∀ i,¬ pend' i→¬ pend i∨EX rs ls hs first ss i):PI rs ls hs first ss pend':=⟨I.len,I.rd,I.bd,fun i hi=>by
 rcases h i hi with k | k
 · exact I.cl i k
 · exact k,I.up⟩
end
structure jG (rs:List Rw) (ls:List (Int×Int)) (hs:List (Option Int)) (first:Nat) (ss:List (Option Nat)):Prop where
 pi:PI rs ls hs first ss (fun _=>False)
 st:∃ s0,ss[0]? = some (some s0)∧Sub s0 first
def C7 (K : W.Frag) (a : cM) : Sp := fun vs H Q _ => ∃ (c ly lh : Addr) (prs : List Addr) (rs : List Rw) (ls : List (Int × Int)) (hs : List (Option Int)) (first : Nat), vs = [.ref c, .ref ly, .ref lh, .int (first : Int)] ∧ H c = some (.lst (prs.map V.ref)) ∧ bY a H prs rs ∧ (∀ r ∈ rs, r.ok ∧ r.here) ∧ 0 < rs.length ∧ rs.length ≤ 2000 ∧ eW ls ∧ mL H ly rs ls ∧ H lh = some (.lst (hs.map cv)) ∧ oF rs ls hs ∧ first < 2 ^ 4100 ∧
 ∀ l ss H',au H H'→H l=none→H' l=some (.lst (ss.map cC))→jG rs ls hs first ss→Q (.ref l) H'
theorem uF {rs:List Rw} {ls:List (Int×Int)} {hs:List (Option Int)} {first:Nat} {ss:List (Option Nat)} (P:jG rs ls hs first ss) {i h:Int} (r:RH rs ls i h):∃ s,ss[i.toNat]? = some (some s):=by
 induction r with
 | start=>obtain ⟨s0,e,_⟩:=P.st;exact ⟨s0,e⟩
 | way _ hr hh hw ih =>
   obtain ⟨s,e⟩:=ih;rw [Int.toNat_natCast] at e;obtain ⟨h0,e0⟩:=P.pi.rd _ _ e;obtain ⟨s',e',_⟩:=(P.pi.cl _ (fun z=>z) s h0 _ e e0 hr).1 _ hw;exact ⟨s',e'⟩
 | call _ hr ih =>
   obtain ⟨s,e⟩:=ih;rw [Int.toNat_natCast] at e;obtain ⟨h0,e0⟩:=P.pi.rd _ _ e;obtain ⟨s',e',_⟩:=(P.pi.cl _ (fun z=>z) s h0 _ e e0 hr).2 _ rfl;exact ⟨s',e'⟩
theorem qm {rs:List Rw} {ls:List (Int×Int)} {hs:List (Option Int)} {first:Nat} {ss:List (Option Nat)} (O:oF rs ls hs) (P:jG rs ls hs first ss) {i:Nat} {h:Int} (e:hs[i]? = some (some h)):∃ s,ss[i]? = some (some s):=by
 obtain ⟨s,e1⟩:=uF P (O.rh i h e);rw [Int.toNat_natCast] at e1;exact ⟨s,e1⟩
structure V1 (rs:List Rw) (ls:List (Int×Int)) (hs:List (Option Int)) (sb s4 s5 s6:List (Option Nat)):Prop where
 ht:oF rs ls hs
 pb:jG rs ls hs 128 sb
 p4:jG rs ls hs 16 s4
 p5:jG rs ls hs 32 s5
 p6:jG rs ls hs 64 s6
def gN (ss:List (Option Nat)) (i:Nat):Int:=(((ss[i]?).join).getD 0:Nat)
def eJ (hs:List (Option Int)) (sb s4 s5 s6:List (Option Nat)) (i:Nat):Option Ent:=((hs[i]?).join).map fun h=>⟨h,gN sb i,gN s4 i,gN s5 i,gN s6 i⟩
structure jH (rs:List Rw) (ls:List (Int×Int)) (es:List (Option Ent)):Prop where
 len:es.length=rs.length
 of : 0<rs.length→∃ (hs:List (Option Int)) (sb s4 s5 s6:List (Option Nat)),V1 rs ls hs sb s4 s5 s6∧∀ i,i<rs.length→es[i]? = some (eJ hs sb s4 s5 s6 i)
def Ba (K : W.Frag) (a : cM) : Sp := fun vs H Q E => ∃ (c d : Addr) (prs : List Addr) (rs : List Rw) (ls : List (Int × Int)), vs = [.ref c, .ref d] ∧ H c = some (.lst (prs.map V.ref)) ∧ bY a H prs rs ∧ (∀ r ∈ rs, r.ok ∧ r.here) ∧ rs.length ≤ 2000 ∧ eW ls ∧ H d = some (.dK (bp ls)) ∧
 ((0<rs.length∧qf rs ls)→∀ H',au H H'→E (.ref a.fh) none H')∧∀ l ev es H',au H H'→H l=none→H' l=some (.lst ev)→bQ K H' ev es→jH rs ls es→Q (.ref l) H'
def Gk (K:W.Frag) (a:cM) (H H':Hp) (t:Addr) (ev:List V) (ls:List (Int×Int)):Prop:=∃ dt l d,H l=none∧H d=none∧H' t=some (.ins a.bT dt (fq l d))∧H' l=some (.lst ev)∧H' d=some (.dK (bp ls))
def mF (K : W.Frag) (a : cM) : Sp := fun vs H Q E => ∃ (c : Addr) (lvv : V) (prs : List Addr) (rs : List Rw) (ls : List (Int × Int)), vs = [.ref c, lvv] ∧ H c = some (.lst (prs.map V.ref)) ∧ bY a H prs rs ∧ (∀ r ∈ rs, r.ok ∧ r.here) ∧ rs.length ≤ 2000 ∧ eW ls ∧ ((lvv = .aR ∧ ls = []) ∨ ∃ d, lvv = .ref d ∧ H d = some (.dK (bp ls))) ∧
 (((0<rs.length∧qf rs ls)∨∃ es ks,jH rs ls es∧ks.Perm (ls.map (·.1))∧c9 rs es ls ks≠[])→∀ H',au H H'→E (.ref a.fh) none H') ∧
 ∀ t ev es ks H',au H H'→H t=none→Gk K a H H' t ev ls→bQ K H' ev es→jH rs ls es→ks.Perm (ls.map (·.1))→c9 rs es ls ks=[]→Q (.ref t) H'
theorem mU {rs:List Rw} {ls:List (Int×Int)} {es:List (Option Ent)} (G:jH rs ls es):∀ t,some t∈es→t.nn:=by
 intro t ht;obtain ⟨i,hi,e⟩:=List.getElem_of_mem ht;have hn:i<rs.length:=by rw [← G.len];exact hi
 obtain ⟨hs,sb,s4,s5,s6,_,he⟩:=G.of (by omega);have e1:=he i hn;rw [List.getElem?_eq_getElem hi,e] at e1;have e2:eJ hs sb s4 s5 s6 i=some t:=(Option.some.inj e1).symm;unfold eJ at e2;obtain ⟨h,_,e3⟩:=Option.map_eq_some_iff.mp e2;rw [← e3];exact ⟨Int.natCast_nonneg _,Int.natCast_nonneg _,Int.natCast_nonneg _,Int.natCast_nonneg _⟩
def E1 (H : Hp) (v : V) : Option Ent → Prop
 | none=>v=.aR
 | some e=>∃ p q,v=.ref p∧H p=some (.tup [.int e.h,.int e.b,.ref q])∧H q=some (.tup [.int e.v4,.int e.v5,.int e.v6])
def kL (H:Hp) (vs:List V) (es:List (Option Ent)):Prop:=vs.length=es.length∧∀ (i:Nat) (oe:Option Ent),es[i]? = some oe→∃ v,vs[i]? = some v∧E1 H v oe
theorem kL.to {H H':Hp} {vs:List V} {es:List (Option Ent)} (h:kL H vs es) (k:∀ b xs,H b=some (.tup xs)→H' b=some (.tup xs)):kL H' vs es:=⟨h.1,fun i oe e=>by
 obtain ⟨v,e1,e2⟩:=h.2 i oe e;refine ⟨v,e1,?_⟩;cases oe with
 | none=>exact e2
 | some en=>obtain ⟨p,q,a1,a2,a3⟩:=e2;exact ⟨p,q,a1,k _ _ a2,k _ _ a3⟩⟩
theorem kL.nil {H:Hp}:kL H [] []:=⟨rfl,fun i oe e=>by simp at e⟩
theorem kL.snoc {H:Hp} {vs:List V} {es:List (Option Ent)} {v:V} {o:Option Ent} (h:kL H vs es) (q:E1 H v o):kL H (vs++[v]) (es++[o]):=by
 refine ⟨by rw [List.length_append,List.length_append,h.1];rfl,fun i oe e=>?_⟩;by_cases hi:i<es.length
 · rw [List.getElem?_append_left hi] at e;obtain ⟨v',e1,e2⟩:=h.2 i oe e;exact ⟨v',by rw [List.getElem?_append_left (by rw [h.1];exact hi)];exact e1,e2⟩
 · rw [List.getElem?_append_right (by omega)] at e;cases hj:i - es.length with
   | zero =>
     rw [hj] at e
     have:o=oe:=by simpa using e
     subst this;exact ⟨v,by rw [List.getElem?_append_right (by rw [h.1];omega),h.1,hj];rfl,q⟩
   | succ j=>rw [hj] at e;simp at e
theorem kL.ents {K:W.Frag} {H:Hp} {vs:List V} {es:List (Option Ent)} (h:kL H vs es):bQ K H vs es:=⟨h.1,fun i oe e=>by
 obtain ⟨v,e1,e2⟩:=h.2 i oe e;refine ⟨v,e1,?_⟩;cases oe with
 | none=>exact e2
 | some en=>obtain ⟨p,q,a1,a2,a3⟩:=e2;exact ⟨p,a1,q,aZ.of a2,aZ.of a3⟩⟩
theorem mQ {H:Hp} {l:Addr} {ys:List V} {o:HO} (h:H l=some (.lst ys)) (b:Addr) (xs:List V) (e:H b=some (.tup xs)):(upd H l o) b=some (.tup xs):=by
 rw [aw (fun z=>by subst z;rw [h] at e;cases e)];exact e
def firstsD:List Nat:=[128,16,32,64]
theorem tT {K : W.Frag} {C pe x dx : Addr} {lv : V} {xs : List V} {kvs : List (Key × V)} {H : Hp} {R : VK} {E : XK} (hx : H x = none) (hdx : H dx = none) (h1 : aA K H pe xs) (h2 : (lv = .aR ∧ kvs = []) ∨ ∃ pd, lv = .ref pd ∧ H pd = some (.dK kvs))
   (q:∀ l d H',au H H'→H l=none→H d=none→l≠d→x≠l→x≠d→H' x=some (.ins C dx (aL "landings" (.ref d) (aL "entries" (.ref l) [])))→H' l=some (.lst xs)→H' d=some (.dK kvs)→R .aR H') :
   kA K C [.ref x,.ref pe,lv] (upd (upd H dx (.own x)) x (.ins C dx [])) R E:=by
 have s1:au H (upd (upd H dx (.own x)) x (.ins C dx [])):=fun b o e=>by rw [aw (aq e hx),aw (aq e hdx)];exact e
 refine ⟨x,dx,pe,lv,xs,kvs,rfl,ae,au.seq s1 h1,?_,fun l d H' nl nd nld kp hx' hl' hd'=>?_⟩
 · rcases h2 with h2 | ⟨pd, e, h2⟩
   · exact .inl h2
   · exact .inr ⟨pd,e,s1 _ _ h2⟩
 · have nl1 := ff nl;have nd1:=ff nd;exact q l d H' (fun b o e=>kp b o (s1 b o e) (aq e hx)) (ff nl1.1).1 (ff nd1.1).1 nld nl1.2.symm nd1.2.symm hx' hl' hd'
theorem BC {c:Int} {ns:List Int} (h:c∈ns):c∈once ns:=by
 have gen:∀ (ns t:List Int),(c∈ns∨c∈t)→c∈ns.foldl (fun t n=>if n∈t then t else t++[n]) t:=by
   intro ns
   induction ns with
   | nil=>intro t h;rcases h with h | h;cases h;exact h
   | cons n r ih =>
     intro t h;rw [List.foldl_cons];refine ih _ ?_;by_cases hn:n∈t
     · rw [if_pos hn];rcases h with h | h
       · rcases List.mem_cons.mp h with rfl | h
         · exact .inr hn
         · exact .inl h
       · exact .inr h
     · rw [if_neg hn];rcases h with h | h
       · rcases List.mem_cons.mp h with rfl | h
         · exact .inr (List.mem_append_right _ (List.mem_singleton.mpr rfl))
         · exact .inl h
       · exact .inr (List.mem_append_left _ h)
 exact gen ns [] (.inl h)
theorem Cb {c:Int} {ns:List Int} (h:c∈once ns):c∈ns:=by
 have gen:∀ (ns t:List Int),c∈ns.foldl (fun t n=>if n∈t then t else t++[n]) t→c∈ns∨c∈t:=by
   intro ns
   induction ns with
   | nil=>intro t h;exact .inr h
   | cons n r ih =>
     intro t h;rw [List.foldl_cons] at h;rcases ih _ h with h | h
     · exact .inl (List.mem_cons_of_mem _ h)
     · by_cases hn : n ∈ t
       · rw [if_pos hn] at h;exact .inr h
       · rw [if_neg hn] at h;rcases List.mem_append.mp h with h | h
         · exact .inr h
         · rw [List.mem_singleton.mp h];exact .inl (List.mem_cons_self ..)
 rcases gen ns [] h with h | h
 · exact h
 · cases h
structure Lb (rs:List Rw) (es:List (Option Ent)) (ls:List (Int×Int)):Prop where
 len:es.length=rs.length
 start : 0<rs.length→es[0]?.join=iJ
 own:∀ (i:Nat) (r:Rw) (e:Ent),rs[i]? = some r→es[i]?.join=some e→dW r e=none
 way:∀ (i:Nat) (r:Rw) (e:Ent) (c:Int),rs[i]? = some r→es[i]?.join=some e→c∈r.dM i→eL r e c es=none
 Dn:∀ (i:Nat) (t:Int) (e:Ent),rs[i]? = some (.call t)→es[i]?.join=some e→ej t es=none
 land:∀ k∈ls.map (·.1),gX rs es k (lv ls k)=none
theorem toL_none {α β : Type} {o:Option α} {f : α→β} (h:(o.map f).toList=[]):o=none:=by cases o with | none=>rfl | some x=>cases h
theorem x9 {rs:List Rw} {es:List (Option Ent)} {ls:List (Int×Int)} {ks:List Int} (hz:c9 rs es ls ks=[]) (hp:ks.Perm (ls.map (·.1))):Lb rs es ls:=by
 have hl:es.length=rs.length:=by
   by_cases h:es.length=rs.length
   · exact h
   · unfold c9 at hz;rw [if_neg h] at hz;cases hz
 unfold c9 at hz;rw [if_pos hl] at hz;obtain ⟨h12,h3⟩:=List.append_eq_nil_iff.mp hz;obtain ⟨h1,h2⟩:=List.append_eq_nil_iff.mp h12;have hrow:∀ (i:Nat) (r:Rw) (e:Ent),rs[i]? = some r→es[i]?.join=some e→jK r e i es=[]:=fun i r e hr he=>by
   have z:=List.flatMap_eq_nil_iff.mp h2 i (List.mem_range.mpr (List.getElem?_eq_some_iff.mp hr).1);unfold jr at z;rw [hr,he] at z;exact z
 have hown:∀ (i:Nat) (r:Rw) (e:Ent),rs[i]? = some r→es[i]?.join=some e→dW r e=none:=fun i r e hr he=>by
   have z:=hrow i r e hr he;unfold jK at z;cases ho:dW r e with
   | none=>rfl
   | some w=>rw [ho] at z;cases z
 have hrest:∀ (i:Nat) (r:Rw) (e:Ent),rs[i]? = some r→es[i]?.join=some e→((once (r.dM i)).filterMap fun c=>(eL r e c es).map fun w=>Cm.mk i c w)=[]∧lC r i es=[]:=fun i r e hr he=>by
   have z:=hrow i r e hr he;unfold jK at z;rw [hown i r e hr he] at z;exact List.append_eq_nil_iff.mp z
 refine ⟨hl,fun h0=>?_,hown,fun i r e c hr he hc=>?_,fun i t e hr he=>?_,fun k hk=>?_⟩
 · unfold dF at h1;rw [if_pos h0] at h1;by_cases h:iw (es[0]?.join) iJ=true
   · exact Af h
   · rw [if_neg h] at h1;cases h1
 · have z := (hrest i r e hr he).1;rw [List.filterMap_eq_nil_iff] at z
   have:=z c (BC hc)
   cases hw:eL r e c es with
   | none=>rfl
   | some w=>rw [hw] at this;cases this
 · exact toL_none (hrest i _ e hr he).2
 · exact toL_none (List.flatMap_eq_nil_iff.mp h3 k (hp.mem_iff.mpr hk))
theorem yH {rs:List Rw} {es:List (Option Ent)} {ls:List (Int×Int)} {ks:List Int} (L:Lb rs es ls) (hp:ks.Perm (ls.map (·.1))):c9 rs es ls ks=[]:=by
 unfold c9;rw [if_pos L.len];refine List.append_eq_nil_iff.mpr ⟨List.append_eq_nil_iff.mpr ⟨?_,?_⟩,?_⟩
 · unfold dF;by_cases h : 0<rs.length
   · rw [if_pos h,L.start h,if_pos (by unfold iw;decide +kernel)]
   · rw [if_neg h]
 · unfold fN;refine List.flatMap_eq_nil_iff.mpr fun i _=>?_;unfold jr;cases hr:rs[i]? with
   | none=>rfl
   | some r =>
     cases he:es[i]?.join with
     | none=>rfl
     | some e =>
       show jK r e i es=[]
       unfold jK;rw [L.own i r e hr he];refine List.append_eq_nil_iff.mpr ⟨?_,?_⟩
       · rw [List.filterMap_eq_nil_iff];intro c hc;rw [L.way i r e c hr he (Cb hc)];rfl
       · unfold lC;split
         · rename_i t;rw [L.Dn i t e hr he];rfl
         · rfl
 · unfold gZ;refine List.flatMap_eq_nil_iff.mpr fun k hk=>?_;rw [L.land k (hp.mem_iff.mp hk)];rfl
theorem Ad {r:Rw} {e:Ent} {c:Int} {es:List (Option Ent)} (h:eL r e c es=none) : 0≤c∧c<es.length∧∃ t,es[c.toNat]?.join=some t∧r.aY e.h=some t.h∧d_ r e t=none:=by
 unfold eL at h;by_cases hb : 0≤c∧c<es.length
 · rw [if_pos hb] at h;refine ⟨hb.1,hb.2,?_⟩;cases ht:es[c.toNat]?.join with
   | none=>rw [ht] at h;cases h
   | some t =>
     rw [ht] at h;have h:(if r.aY e.h=some t.h then d_ r e t else some Wt.aY)=none:=h;by_cases hh:r.aY e.h=some t.h
     · rw [if_pos hh] at h;exact ⟨t,rfl,hh,h⟩
     · rw [if_neg hh] at h;cases h
 · rw [if_neg hb] at h;cases h
theorem Gz {r:Rw} {e:Ent} {c:Int} {es:List (Option Ent)} {t:Ent} (h0 : 0≤c) (h1:c<es.length) (ht:es[c.toNat]?.join=some t) (hh:r.aY e.h=some t.h) (hl:d_ r e t=none):eL r e c es=none:=by
 unfold eL;rw [if_pos ⟨h0,h1⟩,ht];show (if r.aY e.h=some t.h then d_ r e t else some Wt.aY)=none;rw [if_pos hh];exact hl
theorem f7 {x y:Nat}:Bt.wo x y=0 ↔ Sub x y:=by
 have h1:x &&& y≤x:=Nat.and_le_left;show x - (x &&& y)=0 ↔ x &&& y=x;omega
theorem mY {r:Rw} {e t:Ent} (h:d_ r e t=none):Sub t.b.toNat (r.keep e.b.toNat e.h)∧Sub t.v4.toNat (r.keep e.v4.toNat e.h)∧Sub t.v5.toNat (r.keep e.v5.toNat e.h)∧Sub t.v6.toNat (r.keep e.v6.toNat e.h):=by
 unfold d_ at h;split at h;cases h
 split at h;cases h
 split at h;cases h
 split at h;cases h
 rename_i a b c d;exact ⟨f7.mp (Decidable.of_not_not a),f7.mp (Decidable.of_not_not b),f7.mp (Decidable.of_not_not c),f7.mp (Decidable.of_not_not d)⟩
theorem DM {r:Rw} {e t:Ent} (h:Sub t.b.toNat (r.keep e.b.toNat e.h)∧Sub t.v4.toNat (r.keep e.v4.toNat e.h)∧Sub t.v5.toNat (r.keep e.v5.toNat e.h)∧Sub t.v6.toNat (r.keep e.v6.toNat e.h)):d_ r e t=none:=by
 obtain ⟨h1,h2,h3,h4⟩:=h;unfold d_;rw [if_neg (fun z=>z (f7.mpr h1)),if_neg (fun z=>z (f7.mpr h2)),if_neg (fun z=>z (f7.mpr h3)),if_neg (fun z=>z (f7.mpr h4))]
theorem rg {t:Int} {es:List (Option Ent)} (h:ej t es=none) : 0≤t∧t<es.length∧es[t.toNat]?.join=iJ:=by
 unfold ej at h;by_cases hb : 0≤t∧t<es.length
 · rw [if_pos hb] at h;by_cases he:iw (es[t.toNat]?.join) iJ=true
   · exact ⟨hb.1,hb.2,Af he⟩
   · rw [if_neg he] at h;cases h
 · rw [if_neg hb] at h;cases h
theorem Lb.GD {rs:List Rw} {es:List (Option Ent)} {ls:List (Int×Int)} (L:Lb rs es ls) {i:Nat} {r:Rw} {e:Ent} {w:Int} (hr:rs[i]? = some r) (he:es[i]?.join=some e) (hw:w∈cN rs ls i):eL r e w es=none:=by
 unfold cN at hw;rw [hr] at hw;have hw:w∈r.dM i++(if r.isCall=true∧(i:Int)∈ls.map (·.1) then [lv ls i] else []):=hw;rcases List.mem_append.mp hw with hw | hw
 · exact L.way i r e w hr he hw
 · split at hw
   · rename_i hc;rw [List.mem_singleton.mp hw];have z:=L.land _ hc.2;unfold gX at z;have hi:=(List.getElem?_eq_some_iff.mp hr).1;rw [if_pos ⟨Int.natCast_nonneg _,by rw [L.len];omega⟩,Int.toNat_natCast,hr,he] at z;have z:jn r (some e) (lv ls i) es=none:=z;unfold jn at z;rw [if_pos hc.1] at z;have z:(if (dW r e).isSome=true then none else eL r e (lv ls i) es)=none:=z;rw [L.own i r e hr he] at z;exact z
   · cases hw
theorem Lb.rh {rs:List Rw} {es:List (Option Ent)} {ls:List (Int×Int)} (L:Lb rs es ls) (h0 : 0<rs.length) {i h:Int} (R:RH rs ls i h) : 0≤i∧i<rs.length∧∃ e,es[i.toNat]?.join=some e∧e.h=h:=by
 induction R with
 | start=>exact ⟨by decide,by omega,_,L.start h0,rfl⟩
 | way _ hr hh hw ih =>
   obtain ⟨_,_,e,he,rfl⟩:=ih;rw [Int.toNat_natCast] at he;obtain ⟨c0,c1,t,ht,hth,_⟩:=Ad (L.GD hr he hw);rw [hh] at hth;exact ⟨c0,by rw [← L.len];exact c1,t,ht,(Option.some.inj hth).symm⟩
 | call _ hr ih =>
   obtain ⟨_,_,e,he,rfl⟩:=ih;rw [Int.toNat_natCast] at he;obtain ⟨t0,t1,ht⟩:=rg (L.Dn _ _ e hr he);exact ⟨t0,by rw [← L.len];exact t1,_,ht,rfl⟩
theorem iC {r:Rw} {e:Ent} (h:dW r e=none):r.aY e.h≠none∧cP e=false:=by
 unfold dW at h;by_cases hw:cP e=true
 · rw [if_pos hw] at h;cases h
 · rw [if_neg hw] at h;refine ⟨fun z=>?_,Bool.eq_false_iff.mpr hw⟩;rw [if_pos z] at h;cases h
theorem Lb.good {rs:List Rw} {es:List (Option Ent)} {ls:List (Int×Int)} (L:Lb rs es ls) : ¬ (0<rs.length∧qf rs ls):=by
 rintro ⟨h0,i,h,R,hb⟩;obtain ⟨i0,i1,e,he,rfl⟩:=L.rh h0 R;rcases hb with z | z | ⟨r,hr,hn⟩ | ⟨h2,R2,hne⟩
 · omega
 · omega
 · exact (iC (L.own _ r e hr he)).1 hn
 · obtain ⟨_, _, e2, he2, rfl⟩ := L.rh h0 R2;rw [he] at he2;cases he2
   exact hne rfl
theorem Sub.yp {x y:Nat} (h:Sub x y) (k:Sub y x):x=y:=by
 have h1:x &&& y=x:=h;have h2:y &&& x=y:=k;rw [← h1,Nat.and_comm];exact h2
theorem Sub.le {x y:Nat} (h:Sub x y):x≤y:=by
 have h1:x &&& y=x:=h;rw [← h1];exact Nat.and_le_right
theorem Sub.pos {x y:Nat} (h:Sub x y) (hx:x≠0):y≠0:=fun z=>by
 have h1:x &&& y=x:=h;rw [z,Nat.and_zero] at h1;exact hx h1.symm
theorem Sub.and {x y m:Nat} (h:Sub x y) (hx:x &&& m≠0):y &&& m≠0:=by
 refine Sub.pos (x:=x &&& m) (Sub.iff.mpr fun i hi=>?_) hx;rw [Nat.testBit_and,Bool.and_eq_true] at hi ⊢;exact ⟨Sub.iff.mp h i hi.1,hi.2⟩
theorem zP {x n m:Nat} (hx:x<2 ^ (n+m)):Bt.wo x ((2 ^ m - 1)*2 ^ n)<2 ^ n:=by
 refine Nat.lt_pow_two_of_testBit _ fun j hj=>?_;rw [Bt.p9];by_cases h:j<n+m
 · have e : ((2 ^ m - 1) * 2 ^ n).testBit j = true := by
     rw [Nat.testBit_mul_two_pow,Nat.testBit_two_pow_sub_one]
     simp;omega
   rw [e];simp
 · have e : x.testBit j = false := Nat.testBit_lt_two_pow (Nat.lt_of_lt_of_le hx (Nat.pow_le_pow_right (by decide) (by omega)));rw [e];rfl
theorem Ez {r:Rw} {x:Nat} {h h':Int} (ho:r.ok) (h0 : 0≤h) (hx:x<2 ^ (8+h).toNat) (hh:r.aY h=some h'):r.keep x h<2 ^ (8+h').toNat:=by
 have ml:∀ m n:Nat,m<n→2 ^ m<2 ^ n:=fun m n hm=>Nat.pow_lt_pow_right (by decide) hm;cases r
 case grow m =>
   simp only [Rw.aY] at hh;simp only [Rw.ok,aM] at ho;split at hh
   · cases hh
   · have e := Option.some.inj hh;exact Nat.lt_of_lt_of_le hx (Nat.pow_le_pow_right (by decide) (by omega))
 case shrink m =>
   simp only [Rw.aY] at hh;simp only [Rw.ok,aM] at ho;split at hh
   · cases hh
   · have e := Option.some.inj hh;have e1:(8+h').toNat=(8+h - m).toNat:=by omega
     rw [e1];refine zP (x:=x) (n:=(8+h - m).toNat) (m:=m.toNat) ?_;rw [show (8+h - m).toNat+m.toNat=(8+h).toNat by omega];exact hx
 case put b c =>
   simp only [Rw.aY] at hh;simp only [Rw.ok,aU,aM] at ho;split at hh
   · cases hh
   · have e := Option.some.inj hh;subst e;exact gH hx (ml _ _ (by omega))
 case get b c =>
   simp only [Rw.aY] at hh;simp only [Rw.ok,aU,aM] at ho;split at hh
   · cases hh
   · have e := Option.some.inj hh;subst e;exact gH hx (ml _ _ (by omega))
 case copy b o =>
   have e:=Option.some.inj (show some h=some h' from hh);subst e;simp only [Rw.ok,aU] at ho;exact gH hx (ml _ _ (by omega))
 all_goals (
   have e:=Option.some.inj (show some h=some h' from hh);subst e;first | exact hx | exact Nat.lt_of_le_of_lt (yh _ _) hx)
def gE (f:Ent→Int) (es:List (Option Ent)) (i:Nat):Nat:=match es[i]?.join with
 | some e=>(f e).toNat
 | none=>0
theorem pZ {f:Ent→Int} {es:List (Option Ent)} {i:Nat} {e:Ent} (h:es[i]?.join=some e):gE f es i=(f e).toNat:=by unfold gE;rw [h]
theorem cons_of {rs : List Rw} {es : List (Option Ent)} {ls : List (Int × Int)} {hs : List (Option Int)} (L : Lb rs es ls) (O : oF rs ls hs) (h0 : 0 < rs.length) {f : Ent → Int} {first : Nat} (hst : (f ⟨0, 128, 16, 32, 64⟩).toNat = first)
   (hk:∀ r e t,d_ r e t=none→Sub (f t).toNat (r.keep (f e).toNat e.h)):Cons rs ls hs first (gE f es):=by
 refine ⟨by rw [pZ (L.start h0),hst];exact Sub.refl _,fun i h r hi hr=>?_⟩;obtain ⟨_,_,e,he,rfl⟩:=L.rh h0 (O.rh i h hi);rw [Int.toNat_natCast] at he;refine ⟨fun w hw=>?_,fun t ht=>?_⟩
 · obtain ⟨_, _, t, ht, _, hl⟩ := Ad (L.GD hr he hw);rw [pZ ht,pZ he];exact hk r e t hl
 · subst ht;obtain ⟨_,_,hs2⟩:=rg (L.Dn i t e hr he);rw [pZ hs2,hst];exact Sub.refl _
theorem Qj {rs:List Rw} {ls:List (Int×Int)} {hs:List (Option Int)} {first:Nat} {ss:List (Option Nat)} (aG:∀ r∈rs,r.ok∧r.here) (O:oF rs ls hs) (P:jG rs ls hs first ss) (hf:first<256) (hu:∀ i a b,RH rs ls i a→RH rs ls i b→a=b) {i h:Int} (R:RH rs ls i h):∀ s,ss[i.toNat]? = some (some s)→s<2 ^ (8+h).toNat:=by
 have hf8:first<2 ^ (8+(0:Int)).toNat:=by show first<2 ^ 8;omega
 induction R with
 | start =>
   intro s e;obtain ⟨s0,e0,q⟩:=P.st;rw [show (0:Int).toNat=0 from rfl,e0] at e;cases e
   exact Nat.lt_of_le_of_lt q.le hf8
 | @way j a a' w r R0 hr hh hw ih =>
   intro s e;obtain ⟨s0,e0⟩:=uF P R0;have e0':=e0;rw [Int.toNat_natCast] at e0';obtain ⟨b,hb⟩:=P.pi.rd _ _ e0';obtain ⟨s',e',q⟩:=(P.pi.cl _ (fun z=>z) s0 b _ e0' hb hr).1 _ hw;rw [e'] at e;cases e
   cases hu _ _ _ R0 (O.rh _ _ hb)
   exact Nat.lt_of_le_of_lt q.le (Ez (aG _ (List.mem_of_getElem? hr)).1 (yW aG R0).1 (ih s0 e0) hh)
 | @call j a t R0 hr ih =>
   intro s e;obtain ⟨s0,e0⟩:=uF P R0;rw [Int.toNat_natCast] at e0;obtain ⟨b,hb⟩:=P.pi.rd _ _ e0;obtain ⟨s',e',q⟩:=(P.pi.cl _ (fun z=>z) s0 b _ e0 hb hr).2 _ rfl;rw [e'] at e;cases e
   exact Nat.lt_of_le_of_lt q.le hf8
theorem tW {ss:List (Option Nat)} {i s:Nat} (h:ss[i]? = some (some s)):gN ss i=(s:Int):=by unfold gN;rw [h];rfl
theorem jx {h s:Int} (hw:dN h s=false) : 0<s:=by
 unfold dN at hw;rw [Bool.or_eq_false_iff] at hw
 have:=of_decide_eq_false hw.1
 omega
theorem jw {h:Int} {s:Nat} (hs:s≠0) (hl:s<2 ^ (8+h).toNat):dN h (s:Int)=false:=by
 unfold dN;rw [decide_eq_false (by omega),Bool.false_or];have e:((s:Nat):Int)/2 ^ (8+h).toNat=0:=Int.ediv_eq_zero_of_lt (by omega) (by exact_mod_cast hl);rw [decide_eq_true e];rfl
theorem tV {rs : List Rw} {es : List (Option Ent)} {ls : List (Int × Int)} {hs : List (Option Int)} (aG : ∀ r ∈ rs, r.ok ∧ r.here) (L : Lb rs es ls) (O : oF rs ls hs) (h0 : 0 < rs.length) {f : Ent → Int} {first : Nat} {ss : List (Option Nat)} (P : jG rs ls hs first ss) (hf : first < 256) (hst : (f ⟨0, 128, 16, 32, 64⟩).toNat = first)
   (hk:∀ r e t,d_ r e t=none→Sub (f t).toNat (r.keep (f e).toNat e.h)) {i:Nat} {h:Int} {e:Ent} (hi:hs[i]? = some (some h)) (he:es[i]?.join=some e):∃ s,ss[i]? = some (some s)∧Sub (f e).toNat s∧s<2 ^ (8+h).toNat:=by
 obtain ⟨s,hs1⟩:=qm O P hi;refine ⟨s,hs1,?_,?_⟩
 · have z := P.pi.up _ (cons_of L O h0 hst hk) i s hs1;rw [pZ he] at z;exact z
 · exact Qj aG O P hf (fun j a b Ra Rb => by
     obtain ⟨_,_,e1,x1,rfl⟩:=L.rh h0 Ra;obtain ⟨_,_,e2,x2,rfl⟩:=L.rh h0 Rb;rw [x1] at x2;cases x2;rfl) (O.rh i h hi) s (by rw [Int.toNat_natCast];exact hs1)
theorem Gc {r:Rw} {e t:Ent} (h:d_ r e t=none):Sub t.b.toNat (r.keep e.b.toNat e.h):=(mY h).1
theorem Fz {r:Rw} {e t:Ent} (h:d_ r e t=none):Sub t.v4.toNat (r.keep e.v4.toNat e.h):=(mY h).2.1
theorem Fu {r:Rw} {e t:Ent} (h:d_ r e t=none):Sub t.v5.toNat (r.keep e.v5.toNat e.h):=(mY h).2.2.1
theorem E_ {r:Rw} {e t:Ent} (h:d_ r e t=none):Sub t.v6.toNat (r.keep e.v6.toNat e.h):=(mY h).2.2.2
theorem Bh {e:Ent} (h:cP e=false):dN e.h e.b=false∧dN e.h e.v4=false∧dN e.h e.v5=false∧dN e.h e.v6=false:=by
 unfold cP at h;rw [Bool.or_eq_false_iff,Bool.or_eq_false_iff] at h;have z:=h.2.2;rw [List.any_eq_false] at z;refine ⟨?_,?_,?_,?_⟩
 · exact Bool.eq_false_iff.mpr (z e.b (by simp [Ent.dC]))
 · exact Bool.eq_false_iff.mpr (z e.v4 (by simp [Ent.dC]))
 · exact Bool.eq_false_iff.mpr (z e.v5 (by simp [Ent.dC]))
 · exact Bool.eq_false_iff.mpr (z e.v6 (by simp [Ent.dC]))
theorem mO {x s m:Nat} {y:Int} (hy : 0<y) (hs:Sub y.toNat s) (h:(Builtin.bitAnd y (m:Int) != 0)=true):(Builtin.bitAnd (s:Int) (m:Int) != 0)=true:=by
 have e:y=((y.toNat:Nat):Int):=by omega
 rw [e,gw] at h;rw [gw];have h1:y.toNat &&& m≠0:=fun z=>by rw [z] at h;exact absurd h (by decide)
 have h2:=Sub.and hs h1
 simpa using h2
theorem rQ {rs:List Rw} {es:List (Option Ent)} {k at_:Int} (hl:es.length=rs.length) (h:gX rs es k at_=none) : 0≤k∧k<es.length∧∃ r,rs[k.toNat]? = some r∧r.isCall=true:=by
 unfold gX at h;by_cases hb : 0≤k∧k<es.length
 · rw [if_pos hb] at h;have hi:k.toNat<rs.length:=by omega
   rw [List.getElem?_eq_getElem hi] at h;refine ⟨hb.1,hb.2,_,List.getElem?_eq_getElem hi,?_⟩;unfold jn at h;by_cases hc:rs[k.toNat].isCall=true
   · exact hc
   · simp [hc] at h
 · rw [if_neg hb] at h;cases h
structure Te (e' e:Ent):Prop where
 h:e'.h=e.h
 p : 0<e'.b∧0<e'.v4∧0<e'.v5∧0<e'.v6
 n:e.nn
 b:Sub e'.b.toNat e.b.toNat
 v4:Sub e'.v4.toNat e.v4.toNat
 v5:Sub e'.v5.toNat e.v5.toNat
 v6:Sub e'.v6.toNat e.v6.toNat
theorem great {rs:List Rw} {es' es:List (Option Ent)} {ls:List (Int×Int)} (aG:∀ r∈rs,r.ok∧r.here) (L:Lb rs es' ls) (G:jH rs ls es):Lb rs es ls∧∀ (i:Nat) (e:Ent),es[i]?.join=some e→∃ e',es'[i]?.join=some e'∧Te e' e:=by
 by_cases h0 : 0<rs.length
 case neg =>
   have hn:∀ i:Nat,rs[i]? = none:=fun i=>List.getElem?_eq_none (by omega);have hn2:∀ i:Nat,es[i]? = none:=fun i=>List.getElem?_eq_none (by rw [G.len];omega);refine ⟨⟨G.len,fun z=>absurd z h0,fun i r e hr=>?_,fun i r e c hr=>?_,fun i t e hr=>?_,fun k hk=>?_⟩,fun i e he=>?_⟩
   · rw [hn i] at hr;cases hr
   · rw [hn i] at hr;cases hr
   · rw [hn i] at hr;cases hr
   · obtain ⟨a, b, _⟩ := rQ L.len (L.land k hk)
     have:=L.len
     omega
   · rw [hn2 i] at he;cases he
 obtain ⟨hs,sb,s4,s5,s6,PP,he⟩:=G.of h0;have O:=PP.ht;have entA:∀ (i:Nat) (h:Int),hs[i]? = some (some h)→es[i]?.join=some ⟨h,gN sb i,gN s4 i,gN s5 i,gN s6 i⟩:=fun i h hi=>by
   have hlt:i<rs.length:=by rw [← O.len];exact (List.getElem?_eq_some_iff.mp hi).1
   rw [he i hlt];show eJ hs sb s4 s5 s6 i=_;unfold eJ;rw [hi];rfl
 have entB:∀ (i:Nat) (e:Ent),es[i]?.join=some e→∃ h,hs[i]? = some (some h):=fun i e hi=>by
   have hlt:i<rs.length:=by
     rw [← G.len];cases z:es[i]? with
     | none=>rw [z] at hi;cases hi
     | some o=>exact (List.getElem?_eq_some_iff.mp z).1
   rw [he i hlt] at hi;have hi:eJ hs sb s4 s5 s6 i=some e:=hi;unfold eJ at hi;cases z:hs[i]? with
   | none=>rw [z] at hi;cases hi
   | some o => cases o with
     | none=>rw [z] at hi;cases hi
     | some h=>exact ⟨h,rfl⟩
 have key : ∀ (i : Nat) (h : Int), hs[i]? = some (some h) → ∃ (e' : Ent) (b c d f : Nat), es'[i]?.join = some e' ∧ e'.h = h ∧ sb[i]? = some (some b) ∧ s4[i]? = some (some c) ∧ s5[i]? = some (some d) ∧ s6[i]? = some (some f) ∧ es[i]?.join = some ⟨h, b, c, d, f⟩ ∧
     (Sub e'.b.toNat b∧Sub e'.v4.toNat c∧Sub e'.v5.toNat d∧Sub e'.v6.toNat f)∧b<2 ^ (8+h).toNat∧c<2 ^ (8+h).toNat∧d<2 ^ (8+h).toNat∧f<2 ^ (8+h).toNat:=fun i h hi=>by
   obtain ⟨_,_,e',x1,x2⟩:=L.rh h0 (O.rh i h hi);rw [Int.toNat_natCast] at x1;obtain ⟨b,b1,b2,b3⟩:=tV aG L O h0 (f:=Ent.b) PP.pb (by decide) rfl (fun _ _ _=>Gc) hi x1;obtain ⟨c,c1,c2,c3⟩:=tV aG L O h0 (f:=Ent.v4) PP.p4 (by decide) rfl (fun _ _ _=>Fz) hi x1;obtain ⟨d,d1,d2,d3⟩:=tV aG L O h0 (f:=Ent.v5) PP.p5 (by decide) rfl (fun _ _ _=>Fu) hi x1;obtain ⟨f,f1,f2,f3⟩:=tV aG L O h0 (f:=Ent.v6) PP.p6 (by decide) rfl (fun _ _ _=>E_) hi x1;have z:=entA i h hi;rw [tW b1,tW c1,tW d1,tW f1] at z;exact ⟨e',b,c,d,f,x1,x2,b1,c1,d1,f1,z,⟨b2,c2,d2,f2⟩,b3,c3,d3,f3⟩
 have rowAt:∀ (i:Nat) (h:Int),hs[i]? = some (some h)→∃ r,rs[i]? = some r:=fun i h hi=>by
   have hlt:i<rs.length:=by rw [← O.len];exact (List.getElem?_eq_some_iff.mp hi).1
   exact ⟨_,List.getElem?_eq_getElem hlt⟩
 have posS:∀ (i:Nat) (r:Rw) (e':Ent),rs[i]? = some r→es'[i]?.join=some e'→0<e'.b∧0<e'.v4∧0<e'.v5∧0<e'.v6:=fun i r e' hr x1=>by
   obtain ⟨w1,w2,w3,w4⟩:=Bh (iC (L.own i r e' hr x1)).2;exact ⟨jx w1,jx w2,jx w3,jx w4⟩
 have wy:∀ (i:Nat) (r:Rw) (e:Ent) (w:Int),rs[i]? = some r→es[i]?.join=some e→w∈cN rs ls i→eL r e w es=none:=fun i r e w hr hee hw=>by
   obtain ⟨h,hi⟩:=entB i e hee;obtain ⟨e',b,c,d,f,x1,x2,b1,c1,d1,f1,z,_⟩:=key i h hi;rw [z] at hee;cases hee
   obtain ⟨h',hh,hcl⟩:=O.cl i h r hi hr;obtain ⟨w0,hw1⟩:=hcl w hw;obtain ⟨e2,b2,c2,d2,f2,y1,y2,y3,y4,y5,y6,y7,_⟩:=key w.toNat h' hw1;have hlt:=(List.getElem?_eq_some_iff.mp hw1).1;rw [O.len] at hlt;obtain ⟨t1,u1,v1⟩:=(PP.pb.pi.cl i (fun z=>z) b h r b1 hi hr).1 w hw;obtain ⟨t2,u2,v2⟩:=(PP.p4.pi.cl i (fun z=>z) c h r c1 hi hr).1 w hw;obtain ⟨t3,u3,v3⟩:=(PP.p5.pi.cl i (fun z=>z) d h r d1 hi hr).1 w hw;obtain ⟨t4,u4,v4⟩:=(PP.p6.pi.cl i (fun z=>z) f h r f1 hi hr).1 w hw;rw [y3] at u1;cases u1;rw [y4] at u2;cases u2;rw [y5] at u3;cases u3;rw [y6] at u4;cases u4;exact Gz w0 (by rw [G.len];omega) y7 hh (DM ⟨v1,v2,v3,v4⟩)
 have startAt:∀ (i:Nat),hs[i]? = some (some 0)→es'[i]?.join=iJ→(∀ s,sb[i]? = some (some s)→Sub s 128)→(∀ s,s4[i]? = some (some s)→Sub s 16)→(∀ s,s5[i]? = some (some s)→Sub s 32)→(∀ s,s6[i]? = some (some s)→Sub s 64)→es[i]?.join=iJ:=fun i hi hst q1 q2 q3 q4=>by
   obtain ⟨e',b,c,d,f,x1,x2,b1,c1,d1,f1,z,⟨g1,g2,g3,g4⟩,_⟩:=key i 0 hi;rw [hst] at x1;have x1:(⟨0,128,16,32,64⟩:Ent)=e':=Option.some.inj x1;subst x1;rw [z,Sub.yp (q1 b b1) g1,Sub.yp (q2 c c1) g2,Sub.yp (q3 d d1) g3,Sub.yp (q4 f f1) g4];rfl
 refine ⟨⟨G.len,fun _=>?_,fun i r e hr hee=>?_,fun i r e c hr hee hc=>?_,fun i t e hr hee=>?_,fun k hk=>?_⟩,fun i e hee=>?_⟩
 · refine startAt 0 O.start (L.start h0) ?_ ?_ ?_ ?_
   · obtain ⟨s0,a1,a2⟩:=PP.pb.st;intro s hs1;rw [a1] at hs1;cases hs1;exact a2
   · obtain ⟨s0,a1,a2⟩:=PP.p4.st;intro s hs1;rw [a1] at hs1;cases hs1;exact a2
   · obtain ⟨s0,a1,a2⟩:=PP.p5.st;intro s hs1;rw [a1] at hs1;cases hs1;exact a2
   · obtain ⟨s0,a1,a2⟩:=PP.p6.st;intro s hs1;rw [a1] at hs1;cases hs1;exact a2
 · obtain ⟨h, hi⟩ := entB i e hee;obtain ⟨e',b,c,d,f,x1,x2,b1,c1,d1,f1,z,⟨g1,g2,g3,g4⟩,l1,l2,l3,l4⟩:=key i h hi;rw [z] at hee;cases hee
   obtain ⟨p1,p2,p3,p4⟩:=posS i r e' hr x1;obtain ⟨hb0,hb1⟩:=yW aG (O.rh i h hi);have hw:cP ⟨h,b,c,d,f⟩=false:=by
     unfold cP;show (decide (h<0) || (decide (4000<h) || _))=false;rw [decide_eq_false (by omega),decide_eq_false (by omega),Bool.false_or,Bool.false_or];show ([(b:Int),(c:Int),(d:Int),(f:Int)].any (dN h))=false;simp only [List.any_cons,List.any_nil,Bool.or_false];rw [jw (g1.pos (by omega)) l1,jw (g2.pos (by omega)) l2,jw (g3.pos (by omega)) l3,jw (g4.pos (by omega)) l4];rfl
   obtain ⟨h',hh,_⟩:=O.cl i h r hi hr;unfold dW;rw [if_neg (by rw [hw];decide),if_neg (show ¬ r.aY h=none by rw [hh];intro z;cases z)];split
   · rename_i bx;have o1:=L.own i _ e' hr x1;unfold dW at o1;rw [if_neg (by rw [(iC (L.own i _ e' hr x1)).2];decide),if_neg (iC (L.own i _ e' hr x1)).1] at o1;have o1:(if i8 bx e'=true then none else some Wt.back)=none:=o1;have o2:i8 bx e'=true:=by
       by_cases z:i8 bx e'=true
       · exact z
       · rw [if_neg z] at o1;cases o1
     rw [if_pos];unfold i8 at o2 ⊢;rw [Bool.and_eq_true,Bool.and_eq_true,Bool.and_eq_true,Bool.and_eq_true] at o2 ⊢;obtain ⟨m0,m1,m2,m3,m4⟩:=o2;refine ⟨?_,mO (x:=0) p1 g1 m1,mO (x:=0) (m:=16) p2 g2 m2,mO (x:=0) (m:=32) p3 g3 m3,mO (x:=0) (m:=64) p4 g4 m4⟩;rw [x2] at m0;exact m0
   · rfl
 · refine wy i r e c hr hee ?_;unfold cN;rw [hr];exact List.mem_append_left _ hc
 · obtain ⟨h, hi⟩ := entB i e hee;obtain ⟨e',b,c,d,f,x1,x2,b1,c1,d1,f1,z,_⟩:=key i h hi;obtain ⟨t0,ht⟩:=O.tg i h t hi hr;obtain ⟨_,_,hst⟩:=rg (L.Dn i t e' hr x1);have hlt:=(List.getElem?_eq_some_iff.mp ht).1;rw [O.len] at hlt
   have z := startAt t.toNat ht hst
     (by obtain ⟨s0,a1,a2⟩:=(PP.pb.pi.cl i (fun z=>z) b h _ b1 hi hr).2 t rfl;intro s hs1;rw [a1] at hs1;cases hs1;exact a2)
     (by obtain ⟨s0,a1,a2⟩:=(PP.p4.pi.cl i (fun z=>z) c h _ c1 hi hr).2 t rfl;intro s hs1;rw [a1] at hs1;cases hs1;exact a2)
     (by obtain ⟨s0,a1,a2⟩:=(PP.p5.pi.cl i (fun z=>z) d h _ d1 hi hr).2 t rfl;intro s hs1;rw [a1] at hs1;cases hs1;exact a2)
     (by obtain ⟨s0,a1,a2⟩:=(PP.p6.pi.cl i (fun z=>z) f h _ f1 hi hr).2 t rfl;intro s hs1;rw [a1] at hs1;cases hs1;exact a2)
   unfold ej;rw [if_pos ⟨t0,by rw [G.len];omega⟩,z,if_pos (by unfold iw;decide +kernel)]
 · obtain ⟨k0, k1, r, hr, hc⟩ := rQ L.len (L.land k hk);rw [L.len] at k1;have ek:((k.toNat:Nat):Int)=k:=by omega
   unfold gX;rw [if_pos ⟨k0,by rw [G.len];omega⟩,hr];show jn r (es[k.toNat]?.join) (lv ls k) es=none;unfold jn;rw [if_pos hc];cases hee:es[k.toNat]?.join with
   | none=>rfl
   | some e =>
     show (if (dW r e).isSome=true then none else eL r e (lv ls k) es)=none;by_cases hos:(dW r e).isSome=true
     · rw [if_pos hos]
     · rw [if_neg hos];refine wy k.toNat r e (lv ls k) hr hee ?_;unfold cN;rw [hr];refine List.mem_append_right _ ?_;rw [if_pos ⟨hc,by rw [ek];exact hk⟩,ek];exact List.mem_singleton.mpr rfl
 · obtain ⟨h, hi⟩ := entB i e hee;obtain ⟨r,hr⟩:=rowAt i h hi;obtain ⟨e',b,c,d,f,x1,x2,b1,c1,d1,f1,z,⟨g1,g2,g3,g4⟩,_⟩:=key i h hi;rw [z] at hee;cases hee
   exact ⟨e',x1,x2,posS i r e' hr x1,⟨Int.natCast_nonneg _,Int.natCast_nonneg _,Int.natCast_nonneg _,Int.natCast_nonneg _⟩,g1,g2,g3,g4⟩
def ja (H:Hp) (v:V) (r:Rw):Prop:=∃ p,v=.ref p∧H p=some (.tup (.str r.jI.1::r.jI.2.map V.int))
theorem ja.same {H H':Hp} {v:V} {r:Rw} (h:ja H v r) (s:au H H'):ja H' v r:=let ⟨p,e,k⟩:=h;⟨p,e,s _ _ k⟩
def jd (r:Rw):Prop:=r.ok∧r.here
def fP (r:Rw):Prop:=jd r∨(∃ t,r=.call t)∨∃ t,r=.dD t
def ba (ok:Rw→Prop) (H:Hp) (us:List V):Prop:=∀ u∈us,∃ r,ja H u r∧ok r
theorem ba.same {ok:Rw→Prop} {H H':Hp} {us:List V} (h:ba ok H us) (s:au H H'):ba ok H' us:=fun u hu=>let ⟨r,h1,h2⟩:=h u hu;⟨r,h1.same s,h2⟩
theorem ba.app {ok:Rw→Prop} {H:Hp} {us ws:List V} (h:ba ok H us) (k:ba ok H ws):ba ok H (us++ws):=fun u hu=>by
 rcases List.mem_append.mp hu with z | z
 · exact h u z
 · exact k u z
theorem ba.one {ok:Rw→Prop} {H:Hp} {u:V} {r:Rw} (h:ja H u r) (k:ok r):ba ok H [u]:=fun v hv=>by rw [List.mem_singleton.mp hv];exact ⟨r,h,k⟩
theorem ba.nil {ok:Rw→Prop} {H:Hp}:ba ok H []:=fun u hu=>by cases hu
def vC (a:cM):Sp:=fun vs H Q _=>∃ (u:V) (r:Rw),vs=[u]∧ja H u r∧jd r∧∀ x H',au H H'→H x=none→bX a H' x r→Q (.ref x) H'
def pP:Sp:=fun vs H Q _=>∃ c m:Int,vs=[.int c,.int m]∧1≤m∧m≤450∧∀ u r H',au H H'→ja H' u r→jd r→Q u H'
def zI (K : W.Frag) : Sp := fun vs H Q _ => ∃ (lc ls : Addr) (cs ss : List Int) (sp at_ : Int), vs = [.ref lc, .ref ls, .int sp, .int at_] ∧ aA K H lc (cs.map V.int) ∧ cs.length ≤ 63 ∧ aA K H ls (ss.map V.int) ∧ ss.length ≤ 4 ∧ (∀ s ∈ ss, 0 ≤ s ∧ s ≤ 7) ∧ -1 ≤ sp ∧ sp ≤ 5 ∧ 0 ≤ at_ ∧ at_ ≤ 1000 ∧
 ∀ l us H',au H H'→H' l=some (.lst us)→us.length≤2*cs.length→ba fP H' us→Q (.ref l) H'
def pO (K : W.Frag) (N : Nat) : Sp := fun vs H Q _ => ∃ (a0 : Addr) (ns : List Int), vs = [.ref a0] ∧ aA K H a0 (ns.map V.int) ∧ ns.length ≤ 63 ∧
 ∀ t l d us ls H',au H H'→H' t=some (.tup [.ref l,.ref d])→H l=none→H d=none→l≠d→H' l=some (.lst us)→1≤us.length→us.length≤N→ba jd H' us→H' d=some (.dK (bp ls))→eW ls→Q (.ref t) H'
def pM (oe:Option Ent):Prop:=∀ e,oe=some e→e.nn∧0≤e.h∧e.h≤4000
theorem ba.cons {ok:Rw→Prop} {H:Hp} {u:V} {us:List V} {r:Rw} (h:ja H u r) (k:ok r) (t:ba ok H us):ba ok H (u::us):=fun v hv=>by
 rcases List.mem_cons.mp hv with rfl | z
 · exact ⟨r,h,k⟩
 · exact t v z
theorem mZ {K:W.Frag} {ok:Rw→Prop} {l:Addr} {us:List V} {i:Int} {H:Hp} {Q:VK} (hl:H l=some (.lst us)) (t:ba ok H us) (h0 : 0≤i) (h1:i<(us.length:Nat)) (q:∀ u r,ja H u r→ok r→Q u H):jF K (.ref l) (.int i) H Q:=by
 obtain ⟨j,rfl⟩:=Int.eq_ofNat_of_zero_le h0;have hj:j<us.length:=by omega
 obtain ⟨r,h2,h3⟩:=t us[j] (List.getElem_mem hj);exact c6 (aA.of hl) (cn (List.getElem?_eq_getElem hj)) (q _ r h2 h3)
theorem b_ {K:W.Frag} {p:Addr} {xs:List V} {x:V} {b:Bool} {H:Hp} {Q:VK} (h:H p=some (.lst xs)) (f1:eI x=true) (f2:xs.all eI=true) (e:fE x xs=b) (q:∀ Hx,au H Hx→Q (.bl b) Hx):vW K false x (.ref p) H Q:=eB (aA.of h) f1 f2 (by rw [e];exact q H (au.refl _))
def A0 (K:W.Frag):Sp:=fun vs H Q _=>∃ c:Int,vs=[.int c]∧∀ u oe H',au H H'→gz K H' u oe→pM oe→Q u H'
def pT (K:W.Frag):Sp:=fun vs H Q _=>∃ (u u':V) (oe oe':Option Ent),vs=[u,u']∧gz K H u oe∧gz K H u' oe'∧(oe=none∨∃ e e',oe=some e∧oe'=some e'∧Te e' e)∧∀ H',au H H'→Q (.bl true) H'
def pW (K:W.Frag):Sp:=fun vs H Q _=>∃ (l:Addr) (c:Int) (ev:List V) (es:List (Option Ent)),vs=[.ref l,.int c]∧H l=some (.lst ev)∧bQ K H ev es∧1≤es.length∧es.length≤2000∧(∀ oe∈es,pM oe)∧∀ u oe H',au H H'→gz K H' u oe→pM oe→Q u H'
def Cz (K : W.Frag) (a : cM) : Sp := fun vs H Q _ => ∃ (c d : Addr) (prs : List Addr) (rs : List Rw) (ls : List (Int × Int)), vs = [.ref c, .ref d] ∧ H c = some (.lst (prs.map V.ref)) ∧ bY a H prs rs ∧ (∀ r ∈ rs, r.ok ∧ r.here) ∧ rs.length ≤ 2000 ∧ eW ls ∧ H d = some (.dK (bp ls)) ∧
 ((∀ es',¬ Lb rs es' ls)→∀ H',au H H'→Q .aR H')∧∀ t ev es H',au H H'→H t=none→Gk K a H H' t ev ls→bQ K H' ev es→jH rs ls es→Lb rs es ls→Q (.ref t) H'
theorem Df {x y:Int} (hx : 0<x) (hy : 0≤y) (h:Sub x.toNat y.toNat):Builtin.bitOr x y=y:=by
 have e1:x=((x.toNat:Nat):Int):=by omega
 have e2:y=((y.toNat:Nat):Int):=by omega
 rw [e1,e2,lX];have z:x.toNat ||| y.toNat=y.toNat:=by
   refine Nat.eq_of_testBit_eq fun i=>?_;rw [Nat.testBit_or];cases hb:x.toNat.testBit i with
   | false=>rfl
   | true=>rw [Sub.iff.mp h i hb];rfl
 rw [z]
theorem oT (xs:List Int) {j k:Int} (hj : 0≤j) (h0 : 0≤k):(de xs (some j) (some (j+k))).length≤k.toNat:=by
 unfold de;obtain ⟨n,rfl⟩:=Int.eq_ofNat_of_zero_le hj;rw [show HT.bD xs.length 0 (some ((n:Nat):Int))=min n xs.length from HT.j6 _ _ n,show ((n:Nat):Int)+k=((n+k.toNat:Nat):Int) from by omega,HT.j6,List.length_take,List.length_drop];omega
theorem DW {sp:Sp} {j:Nat} {t:TA} {C:Addr} {th:TS} {D:Ends} {σ : L2.St} {H:Hp} (h:t σ H fun vs H1=>sp vs H1 (fun v H2=>D.nx (σ.set j (some v)) H2) fun c _ H2=>c=.ref C∧th { nx:=fun σ' H'=>D.nx σ' H',rt:=fun _ _=>False } σ H2):DE (Dd sp j t) C th D σ H:=h
theorem EM {ls:List (Int×Int)} {c r:Int} (h:eW ls) (hl:ls.length<60) (r1 : -10000≤r) (r2:r≤10000):∃ ls',putK (bp ls) (.inl c) (.int r)=bp ls'∧eW ls'∧ls'.length≤ls.length+1:=by
 obtain ⟨h1,h2,h3⟩:=h;by_cases hm:c∈ls.map (·.1)
 · refine ⟨ls.map fun p => if p.1 = c then (p.1, r) else p, ?_, ⟨?_, by rw [List.length_map]; omega, fun p hp => ?_⟩, by rw [List.length_map]; omega⟩
   · unfold putK;rw [je];obtain ⟨p,hp,rfl⟩:=List.mem_map.mp hm;rw [(gG h1 p hp).1,if_pos (show (some (V.int p.2)).isSome=true from rfl)];unfold bp;rw [List.map_map,List.map_map];refine List.map_congr_left fun q _=>?_;show (if (Sum.inl q.1:Key)=Sum.inl p.1 then ((Sum.inl q.1:Key),V.int r) else (Sum.inl q.1,V.int q.2))=(Sum.inl (if q.1=p.1 then (q.1,r) else q).1,V.int (if q.1=p.1 then (q.1,r) else q).2)
     by_cases e:q.1=p.1
     · rw [if_pos (by rw [e]),if_pos e]
     · rw [if_neg (fun z=>e (Sum.inl.inj z)),if_neg e]
   · rw [List.map_map, show ((fun x : Int × Int => x.1) ∘ fun p : Int × Int => if p.1 = c then (p.1, r) else p) = fun p => p.1 from funext fun p => by
       show (if p.1=c then (p.1,r) else p).1=p.1;split <;> rfl]
     exact h1
   · obtain ⟨p', hp', rfl⟩ := List.mem_map.mp hp;split
     · exact ⟨r1,r2⟩
     · exact h3 p' hp'
 · refine ⟨ls ++ [(c, r)], vm (jh hm), ⟨?_, by rw [List.length_append, List.length_singleton]; omega, fun p hp => ?_⟩, by rw [List.length_append, List.length_singleton]; omega⟩
   · rw [List.map_append, List.nodup_append];refine ⟨h1,by simp,fun x hx y hy z=>?_⟩
     have:y=c:=by simpa using hy
     rw [z,this] at hx;exact hm hx
   · rcases List.mem_append.mp hp with hp | hp
     · exact h3 p hp
     · rw [List.mem_singleton.mp hp];exact ⟨r1,r2⟩
def DI (K:W.Frag):Sp:=fun vs H Q _=>∃ (a0:Addr) (ns:List Int),vs=[.ref a0]∧aA K H a0 (ns.map V.int)∧ns.length≤63∧∀ H',au H H'→Q (.bl true) H'
theorem bc {K:W.Frag} {H H':Hp} {a:Addr} {xs:List V} (e:au H H') (h:aA K H a xs):aA K H' a xs:=by
 rcases h with (h | ⟨o,h⟩) | h
 · exact .inl (.inl (e _ _ h))
 · exact .inl (.inr ⟨o,e _ _ h⟩)
 · exact .inr h
theorem jZ {K:W.Frag} {l l2:Addr} {H:Hp} {Q:VK} (h:H l=some (.lst [])) (h2:H l2=some (.lst [])) (q:Q (.bl false) H):il K (.ref l) (.ref l2) H Q∨iY K (.ref l) (.ref l2) H Q:=.inl (C5 (.list []) (qk (aA.of h) eA) (qk (aA.of h2) eA) rfl q)
theorem rf {K:W.Frag} {l l2:Addr} {us:List V} {H:Hp} {Q:VK} (h:H l=some (.lst us)) (h2:H l2=some (.lst [])) (hu:us.length≠0) (q:Q (.bl true) H):il K (.ref l) (.ref l2) H Q∨iY K (.ref l) (.ref l2) H Q:=.inr ⟨l,l2,_,_,rfl,rfl,aA.of h,aA.of h2,hu,q⟩
theorem ba.off {ok:Rw→Prop} {H:Hp} {us xs:List V} {l:Addr} {o:HO} (h:ba ok H us) (hl:H l=some (.lst xs)):ba ok (upd H l o) us:=fun u hu=>by
 obtain ⟨r,⟨p,e,k⟩,h2⟩:=h u hu;exact ⟨r,⟨p,e,by rw [aw (fun z=>by rw [z,hl] at k;cases k)];exact k⟩,h2⟩
theorem eF {ns:List Int} {i:Int} (h0 : 0≤i) (h1:i<(ns.length:Nat)):∃ t∈ns,dz (ns.map V.int) i=some (.int t):=by
 obtain ⟨j,rfl⟩:=Int.eq_ofNat_of_zero_le h0;have hlt:j<ns.length:=by omega
 exact ⟨ns[j],List.getElem_mem hlt,cn (by rw [List.getElem?_map,List.getElem?_eq_getElem hlt];rfl)⟩
theorem A4 {K : W.Frag} {a b : Addr} {xs ys : List V} {g : TG} {tc : TT} {te : TE} {fin : List V → Hp → Prop} {σ : L2.St} {H : Hp} (hy : ys.length = xs.length) (Pv : Nat → List V → L2.St → Hp → Prop) (h0 : Pv 0 [] σ H) (hl : ∀ i zs σ H, i ≤ xs.length → Pv i zs σ H → (aA K H a xs ∧ aA K H b ys) ∧ zs.length ≤ sizeLine)
   (hs:∀ i x y T zs σ H,xs[i]? = some x→ys[i]? = some y→Pv i zs σ H→H T=none→g (.ref T) σ (upd H T (.tup [x,y])) fun σ3 H3=>tc σ3 H3 fun b H4=>if b=true then te σ3 H4 fun y H5=>Pv (i+1) (zs++[y]) σ3 H5 else Pv (i+1) zs σ3 H4) (hd:∀ zs σ H,Pv xs.length zs σ H→fin zs H):gT (zh K a b) g tc te fin σ H:=by
 refine ⟨fun i m zs σ H=>m=xs.length - i∧i≤xs.length∧Pv i zs σ H,⟨xs.length,by simp,Nat.zero_le _,h0⟩,?_⟩;rintro i m zs σ H ⟨rfl,hi,p⟩;obtain ⟨⟨q1,q2⟩,hz⟩:=hl i zs σ H hi p;by_cases hlt:i<xs.length
 · refine .inr ⟨⟨xs, ys, xs[i], ys[i]'(by omega), q1, q2, by simp [hlt], by simp [show i < ys.length by omega]⟩, Pv (i + 1), fun zs2 σ' H' p' => ⟨(hl (i + 1) zs2 σ' H' hlt p').2, xs.length - (i + 1), by omega, rfl, hlt, p'⟩, fun x H' y => ?_⟩;obtain ⟨T,x',y',rfl,hT,rfl,hxy⟩:=y;obtain ⟨z1,z2⟩:=hxy _ _ q1 q2;exact hs i x' y' T zs σ H z1 z2 p hT
 · have e : i = xs.length := by omega
   subst e;exact .inl ⟨⟨xs,ys,q1,q2,.inl (Nat.le_refl _)⟩,hz,hd zs σ H p⟩
theorem Es {ls:List (Int×Int)} {c r:Int} (h:eW ls) (hl:ls.length<63) (r1 : -10000≤r) (r2:r≤10000):∃ ls',putK (bp ls) (.inl c) (.int r)=bp ls'∧eW ls'∧ls'.length≤ls.length+1:=by
 obtain ⟨h1,h2,h3⟩:=h;by_cases hm:c∈ls.map (·.1)
 · refine ⟨ls.map fun p => if p.1 = c then (p.1, r) else p, ?_, ⟨?_, by rw [List.length_map]; omega, fun p hp => ?_⟩, by rw [List.length_map]; omega⟩
   · unfold putK;rw [je];obtain ⟨p,hp,rfl⟩:=List.mem_map.mp hm;rw [(gG h1 p hp).1,if_pos (show (some (V.int p.2)).isSome=true from rfl)];unfold bp;rw [List.map_map,List.map_map];refine List.map_congr_left fun q _=>?_;show (if (Sum.inl q.1:Key)=Sum.inl p.1 then ((Sum.inl q.1:Key),V.int r) else (Sum.inl q.1,V.int q.2))=(Sum.inl (if q.1=p.1 then (q.1,r) else q).1,V.int (if q.1=p.1 then (q.1,r) else q).2)
     by_cases e:q.1=p.1
     · rw [if_pos (by rw [e]),if_pos e]
     · rw [if_neg (fun z=>e (Sum.inl.inj z)),if_neg e]
   · rw [List.map_map, show ((fun x : Int × Int => x.1) ∘ fun p : Int × Int => if p.1 = c then (p.1, r) else p) = fun p => p.1 from funext fun p => by
       show (if p.1=c then (p.1,r) else p).1=p.1;split <;> rfl]
     exact h1
   · obtain ⟨p', hp', rfl⟩ := List.mem_map.mp hp;split
     · exact ⟨r1,r2⟩
     · exact h3 p' hp'
 · refine ⟨ls ++ [(c, r)], vm (jh hm), ⟨?_, by rw [List.length_append, List.length_singleton]; omega, fun p hp => ?_⟩, by rw [List.length_append, List.length_singleton]; omega⟩
   · rw [List.map_append, List.nodup_append];refine ⟨h1,by simp,fun x hx y hy z=>?_⟩
     have:y=c:=by simpa using hy
     rw [z,this] at hx;exact hm hx
   · rcases List.mem_append.mp hp with hp | hp
     · exact h3 p hp
     · rw [List.mem_singleton.mp hp];exact ⟨r1,r2⟩
def DF (K : W.Frag) : Sp := fun vs H Q _ => ∃ (lc : Addr) (cs : List Int) (c at_ : Int), vs = [.int c, .ref lc, .int at_] ∧ aA K H lc (cs.map V.int) ∧ cs.length ≤ 63 ∧ 0 ≤ at_ ∧ at_ ≤ 400 ∧
 ∀ t l us e H',au H H'→H' t=some (.tup [.ref l,.int e])→H' l=some (.lst us)→1≤us.length→us.length≤2*cs.length+11→ba fP H' us→0≤e→e≤1000→Q (.ref t) H'
theorem DP (xs:List Int):(de xs none (some 1)).length+(de xs (some 1) none).length=xs.length:=by
 rw [lA _ (by decide)];unfold de;rw [show HT.bD xs.length 0 (some (1:Int))=min 1 xs.length from HT.j6 _ _ 1,show HT.bD xs.length xs.length none=xs.length from rfl,List.length_take,List.length_take,List.length_drop];show min 1 xs.length+_=_;omega
theorem ba.Gf {ok:Rw→Prop} {H:Hp} {us:List V} {kv:List (Key×V)} {l:Addr} {o:HO} (h:ba ok H us) (hl:H l=some (.dK kv)):ba ok (upd H l o) us:=fun u hu=>by
 obtain ⟨r,⟨p,e,k⟩,h2⟩:=h u hu;exact ⟨r,⟨p,e,by rw [aw (fun z=>by rw [z,hl] at k;cases k)];exact k⟩,h2⟩
theorem k_ {H:Hp} {us:List V} {kv:List (Key×V)} {p l:Addr} {o:HO} (h:H p=some (.lst us)) (hl:H l=some (.dK kv)):upd H l o p=some (.lst us):=by
 rw [aw (fun z=>by rw [z,hl] at h;cases h)];exact h
theorem aZ.off {K:W.Frag} {H:Hp} {l p:Addr} {o o':HO} {ys:List V} (h:H l=some o) (ho:(∃ xs,o=.lst xs)∨∃ kvs,o=.dK kvs) (q:aZ K H p ys):aZ K (upd H l o') p ys:=by
 rcases q with (q | ⟨u,q⟩) | q
 · exact .inl (.inl (by rw [aw (fun z=>by rw [z,h] at q;cases q;rcases ho with ⟨_,e⟩ | ⟨_,e⟩ <;> cases e)];exact q))
 · exact .inl (.inr ⟨u,by rw [aw (fun z=>by rw [z,h] at q;cases q;rcases ho with ⟨_,e⟩ | ⟨_,e⟩ <;> cases e)];exact q⟩)
 · exact .inr q
theorem bQ.off {K:W.Frag} {H:Hp} {l:Addr} {o o':HO} {vs:List V} {es:List (Option Ent)} (q:bQ K H vs es) (h:H l=some o) (ho:(∃ xs,o=.lst xs)∨∃ kvs,o=.dK kvs):bQ K (upd H l o') vs es:=by
 refine ⟨q.1,fun i oe e=>?_⟩;obtain ⟨v,e1,e2⟩:=q.2 i oe e;refine ⟨v,e1,?_⟩;cases oe with
 | none=>exact e2
 | some en =>
   obtain ⟨p,rfl,qq,h1,h2⟩:=e2;exact ⟨p,rfl,qq,aZ.off h ho h1,aZ.off h ho h2⟩
def fw (K:W.Frag) (a:cM) (H:Hp) (fv:V) (n:Nat):Prop:=fv=.aR∨∃ t dt lf df ev es,fv=.ref t∧H t=some (.ins a.bT dt (fq lf df))∧H lf=some (.lst ev)∧bQ K H ev es∧es.length=n∧∀ oe∈es,pM oe
theorem zE {rs:List Rw} {es:List (Option Ent)} {ls:List (Int×Int)} (L:Lb rs es ls) (hn:∀ t,some t∈es→t.nn):∀ oe∈es,pM oe:=by
 intro oe ho e he;subst he;obtain ⟨i,hi,e2⟩:=List.getElem_of_mem ho;have hir:i<rs.length:=by rw [← L.len];exact hi
 have h:=L.own i rs[i] e (List.getElem?_eq_getElem hir) (by rw [List.getElem?_eq_getElem hi,e2];rfl);unfold dW at h;by_cases hw:cP e=true
 · rw [if_pos hw] at h;cases h
 · refine ⟨hn e ho, ?_⟩;unfold cP at hw;simp only [Bool.or_eq_true,decide_eq_true_eq,not_or] at hw;omega
theorem fw.same {K:W.Frag} {a:cM} {H H':Hp} {fv:V} {n:Nat} (h:fw K a H fv n) (s:au H H'):fw K a H' fv n:=by
 rcases h with h | ⟨t,dt,lf,df,ev,es,e,h1,h2,h3,h4,h5⟩
 · exact .inl h
 · exact .inr ⟨t,dt,lf,df,ev,es,e,s _ _ h1,s _ _ h2,h3.same s,h4,h5⟩
structure xl (H H':Hp):Prop where
 s:au H H'
theorem BW {H:Hp} {t C d1 d2 l1 l2 f1 f2:Addr} (h1:H t=some (.ins C d1 (fq l1 f1))) (h2:H t=some (.ins C d2 (fq l2 f2))):l1=l2:=by
 rw [h1] at h2;have e:fq l1 f1=fq l2 f2:=by injection h2 with z;injection z
 have e3:(fq l1 f1).lookup ("entries" : Str)=(fq l2 f2).lookup ("entries" : Str):=by rw [e]
 have e4:some (V.ref l1)=some (V.ref l2):=e3;injection e4 with e5;injection e5
theorem fw.off {K:W.Frag} {a:cM} {H:Hp} {fv:V} {n:Nat} {l:Addr} {xs:List V} {o:HO} (h:fw K a H fv n) (hl:H l=some (.lst xs)) (hn:∀ t dt lf df,fv=.ref t→H t=some (.ins a.bT dt (fq lf df))→lf≠l):fw K a (upd H l o) fv n:=by
 rcases h with h | ⟨t,dt,lf,df,ev,es,e,h1,h2,h3,h4,h5⟩
 · exact .inl h
 · exact .inr ⟨t,dt,lf,df,ev,es,e,by rw [aw (fun z=>by rw [z,hl] at h1;cases h1)];exact h1,by rw [aw (hn t dt lf df e h1)];exact h2,h3.off hl (.inl ⟨_,rfl⟩),h4,h5⟩
theorem ba.set {ok:Rw→Prop} {H:Hp} {us:List V} {u:V} {j:Nat} {r:Rw} (h:ba ok H us) (k:ja H u r) (o:ok r):ba ok H (us.set j u):=fun v hv=>by
 rcases List.mem_or_eq_of_mem_set hv with z | z
 · exact h v z
 · rw [z];exact ⟨r,k,o⟩
theorem bQ.set {K:W.Frag} {H:Hp} {vs:List V} {es:List (Option Ent)} {v:V} {oe:Option Ent} {j:Nat} (h:bQ K H vs es) (hv:gz K H v oe):bQ K H (vs.set j v) (es.set j oe):=by
 refine ⟨by rw [List.length_set,List.length_set];exact h.1,fun i o ho=>?_⟩;rw [List.getElem?_set] at ho ⊢;rw [h.1];by_cases e:j=i
 · rw [if_pos e] at ho ⊢;by_cases k:j<es.length
   · rw [if_pos k] at ho ⊢;cases ho
     exact ⟨v,rfl,hv⟩
   · rw [if_neg k] at ho;cases ho
 · rw [if_neg e] at ho ⊢;exact h.2 i o ho
theorem Br {ls:List (Int×Int)} (h:eW ls):yw (bp ls):=by
 intro p hp;unfold bp at hp;obtain ⟨x,hx,rfl⟩:=List.mem_map.mp hp;exact ⟨x.2,rfl,(gG h.1 x hx).1⟩
theorem bI (T:Txt K mg a):cG P w K mg base be 1 "bounded" mn:=by
 refine bJ (sp:=mn) 0 T.yN yC (fun vs H Q E h=>?_) (fun f cdv A outer s H vs Q E hr h=>?_)
 · obtain ⟨n, top, rfl, _⟩ := h;rfl
 · obtain ⟨n, top, rfl, h0, h1, q⟩ := h
   refine ⟨_, (aj (aS (PW.pt (fR (aB gU (pv 0) ai (aF _)) (fK (aB fB (pv 0) (pv 1) (aF _))))) (ak CC) aH)
     (ak (az (pv 0)))),?_⟩
   refine aX (σ':=[some _,some _]) rfl ?_;walk_at "rd";exact q
theorem dr (T:Txt K mg a):cG P w K mg base be 1 "box_place" qY:=by
 refine bJ (sp:=qY) 0 T.vQ vR (fun vs H Q E h=>?_) (fun f cdv A outer s H vs Q E hr h=>?_)
 · obtain ⟨b, rfl, _⟩ := h;rfl
 · obtain ⟨b, rfl, h0, h1, q⟩ := h;refine ⟨_,(ak (az (ar iG ai (pv 0)))),?_⟩;refine aX (σ':=[some _]) rfl ?_;walk_at "rd";refine A8 (mX h0 (by omega)) ?_;rw [mP];exact q
theorem kS (T:Txt K mg a):cG P w K mg base be 1 "cell_place" oI:=by
 refine bJ (sp:=oI) 0 T.r9 sk (fun vs H Q E h=>?_) (fun f cdv A outer s H vs Q E hr h=>?_)
 · obtain ⟨c, z, rfl, _⟩ := h;rfl
 · obtain ⟨c, z, rfl, h0, h1, h2, q⟩ := h;refine ⟨_,(ak (az (ar iG ai (ar d6 (ar d6 (ar (aT (K:=K) rfl) (bj (v:=.int 8) rfl T.fV.choose_spec ⟨_,rfl⟩) (pv 1)) ai) (pv 0))))),?_⟩;refine aX (σ':=[some _,some _]) rfl ?_;walk_at "rd";refine A8 (mX (by omega) (by omega)) ?_;rw [mP];exact q
theorem gf (T:Txt K mg a):cG P w K mg base be 1 "without" lO:=by
 refine bJ (sp:=lO) 0 T.zj yz (fun vs H Q E h=>?_) (fun f cdv A outer s H vs Q E hr h=>?_)
 · obtain ⟨s, p, rfl, _⟩ := h;rfl
 · obtain ⟨s, p, rfl, q⟩ := h;refine ⟨_,(ak (az (ar i9 (pv 0) (gQ AE (pv 1))))),?_⟩;refine aX (σ':=[some _,some _]) rfl ?_;walk_at "rd";rw [g_];exact q
theorem wD (T:Txt K mg a) (b o t:Int):bw P w K mg base be 1 a.c7 "goes" (cj a (.add b o t)):=by
 refine bh (sp:=(cj a (.add b o t))) 0 T.mx T.zi dI (fun vs H Q E h=>?_) (fun f cdv A outer s H vs Q E hr h=>?_)
 · obtain ⟨x, z, rfl, _⟩ := h;rfl
 · obtain ⟨x, z, rfl, ⟨dx, hx⟩, q⟩ := h
   change H x=some (.ins a.c7 dx (aL "other" (.int t) (aL "one" (.int o) (aL "box" (.int b) [])))) at hx
   refine ⟨_,(ak (az (aW (aa (ar (aT (K:=K) rfl) (pv 1) ai) ag)))),?_⟩;refine aX (σ':=[some _,some _]) rfl ?_;walk_at "rd";exact q _ (by assumption)
theorem wQ (T:Txt K mg a) (b n:Int):bw P w K mg base be 1 a.di "goes" (cj a (.set b n)):=by
 refine bh (sp:=(cj a (.set b n))) 0 T.mC T.yZ dI (fun vs H Q E h=>?_) (fun f cdv A outer s H vs Q E hr h=>?_)
 · obtain ⟨x, z, rfl, _⟩ := h;rfl
 · obtain ⟨x, z, rfl, ⟨dx, hx⟩, q⟩ := h
   change H x=some (.ins a.di dx (aL "number" (.int n) (aL "box" (.int b) []))) at hx
   refine ⟨_,(ak (az (aW (aa (ar (aT (K:=K) rfl) (pv 1) ai) ag)))),?_⟩;refine aX (σ':=[some _,some _]) rfl ?_;walk_at "rd";exact q _ (by assumption)
theorem wj (T:Txt K mg a) (b o:Int):bw P w K mg base be 1 a.cE "goes" (cj a (.copy b o)):=by
 refine bh (sp:=(cj a (.copy b o))) 0 T.jX T.wN dI (fun vs H Q E h=>?_) (fun f cdv A outer s H vs Q E hr h=>?_)
 · obtain ⟨x, z, rfl, _⟩ := h;rfl
 · obtain ⟨x, z, rfl, ⟨dx, hx⟩, q⟩ := h
   change H x=some (.ins a.cE dx (aL "one" (.int o) (aL "box" (.int b) []))) at hx
   refine ⟨_,(ak (az (aW (aa (ar (aT (K:=K) rfl) (pv 1) ai) ag)))),?_⟩;refine aX (σ':=[some _,some _]) rfl ?_;walk_at "rd";exact q _ (by assumption)
theorem ub (T:Txt K mg a) (t:Int):bw P w K mg base be 1 a.bq "goes" (cj a (.call t)):=by
 refine bh (sp:=(cj a (.call t))) 0 T.j7 T.wG dI (fun vs H Q E h=>?_) (fun f cdv A outer s H vs Q E hr h=>?_)
 · obtain ⟨x, z, rfl, _⟩ := h;rfl
 · obtain ⟨x, z, rfl, ⟨dx, hx⟩, q⟩ := h
   change H x=some (.ins a.bq dx (aL "target" (.int t) [])) at hx
   refine ⟨_,(ak (az (aW (aa (ar (aT (K:=K) rfl) (pv 1) ai) ag)))),?_⟩;refine aX (σ':=[some _,some _]) rfl ?_;walk_at "rd";exact q _ (by assumption)
theorem wA (T:Txt K mg a) (b c:Int):bw P w K mg base be 1 a.dk "goes" (cj a (.put b c)):=by
 refine bh (sp:=(cj a (.put b c))) 0 T.mq T.ye dI (fun vs H Q E h=>?_) (fun f cdv A outer s H vs Q E hr h=>?_)
 · obtain ⟨x, z, rfl, _⟩ := h;rfl
 · obtain ⟨x, z, rfl, ⟨dx, hx⟩, q⟩ := h
   change H x=some (.ins a.dk dx (aL "cell" (.int c) (aL "box" (.int b) []))) at hx
   refine ⟨_,(ak (az (aW (aa (ar (aT (K:=K) rfl) (pv 1) ai) ag)))),?_⟩;refine aX (σ':=[some _,some _]) rfl ?_;walk_at "rd";exact q _ (by assumption)
theorem wK (T:Txt K mg a) (b c:Int):bw P w K mg base be 1 a.dj "goes" (cj a (.get b c)):=by
 refine bh (sp:=(cj a (.get b c))) 0 T.lS T.yb dI (fun vs H Q E h=>?_) (fun f cdv A outer s H vs Q E hr h=>?_)
 · obtain ⟨x, z, rfl, _⟩ := h;rfl
 · obtain ⟨x, z, rfl, ⟨dx, hx⟩, q⟩ := h
   change H x=some (.ins a.dj dx (aL "cell" (.int c) (aL "box" (.int b) []))) at hx
   refine ⟨_,(ak (az (aW (aa (ar (aT (K:=K) rfl) (pv 1) ai) ag)))),?_⟩;refine aX (σ':=[some _,some _]) rfl ?_;walk_at "rd";exact q _ (by assumption)
theorem vb (T:Txt K mg a) (m:Int):bw P w K mg base be 1 a.cL "goes" (cj a (.grow m)):=by
 refine bh (sp:=(cj a (.grow m))) 0 T.ki T.wx dI (fun vs H Q E h=>?_) (fun f cdv A outer s H vs Q E hr h=>?_)
 · obtain ⟨x, z, rfl, _⟩ := h;rfl
 · obtain ⟨x, z, rfl, ⟨dx, hx⟩, q⟩ := h
   change H x=some (.ins a.cL dx (aL "many" (.int m) [])) at hx
   refine ⟨_,(ak (az (aW (aa (ar (aT (K:=K) rfl) (pv 1) ai) ag)))),?_⟩;refine aX (σ':=[some _,some _]) rfl ?_;walk_at "rd";exact q _ (by assumption)
theorem qJ (T:Txt K mg a) (m:Int):bw P w K mg base be 1 a.bZ "goes" (cj a (.shrink m)):=by
 refine bh (sp:=(cj a (.shrink m))) 0 T.hJ T.sr dI (fun vs H Q E h=>?_) (fun f cdv A outer s H vs Q E hr h=>?_)
 · obtain ⟨x, z, rfl, _⟩ := h;rfl
 · obtain ⟨x, z, rfl, ⟨dx, hx⟩, q⟩ := h
   change H x=some (.ins a.bZ dx (aL "many" (.int m) [])) at hx
   refine ⟨_,(ak (az (aW (aa (ar (aT (K:=K) rfl) (pv 1) ai) ag)))),?_⟩;refine aX (σ':=[some _,some _]) rfl ?_;walk_at "rd";exact q _ (by assumption)
theorem sN (T:Txt K mg a) (b o t:Int):bw P w K mg base be 1 a.c7 "height" (bE a (.add b o t)):=by
 refine bh (sp:=(bE a (.add b o t))) 0 T.mx T.uo cY (fun vs H Q E h=>?_) (fun f cdv A outer s H vs Q E hr h=>?_)
 · obtain ⟨x, z, rfl, _⟩ := h;rfl
 · obtain ⟨x, z, rfl, ⟨dx, hx⟩, q⟩ := h
   change H x=some (.ins a.c7 dx (aL "other" (.int t) (aL "one" (.int o) (aL "box" (.int b) [])))) at hx
   refine ⟨_,(ak (az (pv 1))),?_⟩;refine aX (σ':=[some _,some _]) rfl ?_;walk_at "rds";all_goals (try simp only [Rw.aY] at q);(repeat' split at q) <;> first | exact q | (exfalso;omega)
theorem oG (T:Txt K mg a) (b t:Int):bw P w K mg base be 1 a.bV "height" (bE a (.branch b t)):=by
 refine bh (sp:=(bE a (.branch b t))) 0 T.hG T.pF cY (fun vs H Q E h=>?_) (fun f cdv A outer s H vs Q E hr h=>?_)
 · obtain ⟨x, z, rfl, _⟩ := h;rfl
 · obtain ⟨x, z, rfl, ⟨dx, hx⟩, q⟩ := h
   change H x=some (.ins a.bV dx (aL "target" (.int t) (aL "box" (.int b) []))) at hx
   refine ⟨_,(ak (az (pv 1))),?_⟩;refine aX (σ':=[some _,some _]) rfl ?_;walk_at "rds";all_goals (try simp only [Rw.aY] at q);(repeat' split at q) <;> first | exact q | (exfalso;omega)
theorem sS (T:Txt K mg a) (b n:Int):bw P w K mg base be 1 a.di "height" (bE a (.set b n)):=by
 refine bh (sp:=(bE a (.set b n))) 0 T.mC T.uI cY (fun vs H Q E h=>?_) (fun f cdv A outer s H vs Q E hr h=>?_)
 · obtain ⟨x, z, rfl, _⟩ := h;rfl
 · obtain ⟨x, z, rfl, ⟨dx, hx⟩, q⟩ := h
   change H x=some (.ins a.di dx (aL "number" (.int n) (aL "box" (.int b) []))) at hx
   refine ⟨_,(ak (az (pv 1))),?_⟩;refine aX (σ':=[some _,some _]) rfl ?_;walk_at "rds";all_goals (try simp only [Rw.aY] at q);(repeat' split at q) <;> first | exact q | (exfalso;omega)
theorem qU (T:Txt K mg a) (b o:Int):bw P w K mg base be 1 a.cE "height" (bE a (.copy b o)):=by
 refine bh (sp:=(bE a (.copy b o))) 0 T.jX T.sW cY (fun vs H Q E h=>?_) (fun f cdv A outer s H vs Q E hr h=>?_)
 · obtain ⟨x, z, rfl, _⟩ := h;rfl
 · obtain ⟨x, z, rfl, ⟨dx, hx⟩, q⟩ := h
   change H x=some (.ins a.cE dx (aL "one" (.int o) (aL "box" (.int b) []))) at hx
   refine ⟨_,(ak (az (pv 1))),?_⟩;refine aX (σ':=[some _,some _]) rfl ?_;walk_at "rds";all_goals (try simp only [Rw.aY] at q);(repeat' split at q) <;> first | exact q | (exfalso;omega)
theorem qC (T:Txt K mg a) (t:Int):bw P w K mg base be 1 a.cJ "height" (bE a (.dD t)):=by
 refine bh (sp:=(bE a (.dD t))) 0 T.jO T.tu cY (fun vs H Q E h=>?_) (fun f cdv A outer s H vs Q E hr h=>?_)
 · obtain ⟨x, z, rfl, _⟩ := h;rfl
 · obtain ⟨x, z, rfl, ⟨dx, hx⟩, q⟩ := h
   change H x=some (.ins a.cJ dx (aL "target" (.int t) [])) at hx
   refine ⟨_,(ak (az (pv 1))),?_⟩;refine aX (σ':=[some _,some _]) rfl ?_;walk_at "rds";all_goals (try simp only [Rw.aY] at q);(repeat' split at q) <;> first | exact q | (exfalso;omega)
theorem qQ (T:Txt K mg a) (t:Int):bw P w K mg base be 1 a.bq "height" (bE a (.call t)):=by
 refine bh (sp:=(bE a (.call t))) 0 T.j7 T.sj cY (fun vs H Q E h=>?_) (fun f cdv A outer s H vs Q E hr h=>?_)
 · obtain ⟨x, z, rfl, _⟩ := h;rfl
 · obtain ⟨x, z, rfl, ⟨dx, hx⟩, q⟩ := h
   change H x=some (.ins a.bq dx (aL "target" (.int t) [])) at hx
   refine ⟨_,(ak (az (pv 1))),?_⟩;refine aX (σ':=[some _,some _]) rfl ?_;walk_at "rds";all_goals (try simp only [Rw.aY] at q);(repeat' split at q) <;> first | exact q | (exfalso;omega)
theorem qH (T:Txt K mg a) (b:Int):bw P w K mg base be 1 a.bC "height" (bE a (.back b)):=by
 refine bh (sp:=(bE a (.back b))) 0 T.jS T.rW cY (fun vs H Q E h=>?_) (fun f cdv A outer s H vs Q E hr h=>?_)
 · obtain ⟨x, z, rfl, _⟩ := h;rfl
 · obtain ⟨x, z, rfl, ⟨dx, hx⟩, q⟩ := h
   change H x=some (.ins a.bC dx (aL "box" (.int b) [])) at hx
   refine ⟨_,(ak (az (pv 1))),?_⟩;refine aX (σ':=[some _,some _]) rfl ?_;walk_at "rds";all_goals (try simp only [Rw.aY] at q);(repeat' split at q) <;> first | exact q | (exfalso;omega)
theorem qT (T:Txt K mg a) (b:Int):bw P w K mg base be 1 a.cK "height" (bE a (.drop b)):=by
 refine bh (sp:=(bE a (.drop b))) 0 T.j9 T.tD cY (fun vs H Q E h=>?_) (fun f cdv A outer s H vs Q E hr h=>?_)
 · obtain ⟨x, z, rfl, _⟩ := h;rfl
 · obtain ⟨x, z, rfl, ⟨dx, hx⟩, q⟩ := h
   change H x=some (.ins a.cK dx (aL "box" (.int b) [])) at hx
   refine ⟨_,(ak (az (pv 1))),?_⟩;refine aX (σ':=[some _,some _]) rfl ?_;walk_at "rds";all_goals (try simp only [Rw.aY] at q);(repeat' split at q) <;> first | exact q | (exfalso;omega)
theorem pC (T:Txt K mg a) (b t:Int):bw P w K mg base be 1 a.bV "keeps" (bU a (.branch b t)):=by
 refine bh (sp:=(bU a (.branch b t))) 0 T.hG T.qV fk (fun vs H Q E h=>?_) (fun f cdv A outer s H vs Q E hr h=>?_)
 · obtain ⟨x, s, z, rfl, _⟩ := h;rfl
 · obtain ⟨x, s, z, rfl, ⟨dx, hx⟩, hk, z0, z1, hs, q⟩ := h
   change H x=some (.ins a.bV dx (aL "target" (.int t) (aL "box" (.int b) []))) at hx
   obtain ⟨⟨k1,k2⟩,⟨k3,k4⟩⟩:=hk;refine ⟨_,(ak (az (pv 1))),?_⟩;refine aX (σ':=[some _,some _,some _]) rfl ?_;walk_at "rd";exact q
theorem se (T:Txt K mg a) (t:Int):bw P w K mg base be 1 a.cJ "keeps" (bU a (.dD t)):=by
 refine bh (sp:=(bU a (.dD t))) 0 T.jO T.vq fk (fun vs H Q E h=>?_) (fun f cdv A outer s H vs Q E hr h=>?_)
 · obtain ⟨x, s, z, rfl, _⟩ := h;rfl
 · obtain ⟨x, s, z, rfl, ⟨dx, hx⟩, hk, z0, z1, hs, q⟩ := h
   change H x=some (.ins a.cJ dx (aL "target" (.int t) [])) at hx
   obtain ⟨k1,k2⟩:=hk;refine ⟨_,(ak (az (pv 1))),?_⟩;refine aX (σ':=[some _,some _,some _]) rfl ?_;walk_at "rd";exact q
theorem sP (T:Txt K mg a) (m:Int):bw P w K mg base be 1 a.cL "keeps" (bU a (.grow m)):=by
 refine bh (sp:=(bU a (.grow m))) 0 T.ki T.t7 fk (fun vs H Q E h=>?_) (fun f cdv A outer s H vs Q E hr h=>?_)
 · obtain ⟨x, s, z, rfl, _⟩ := h;rfl
 · obtain ⟨x, s, z, rfl, ⟨dx, hx⟩, hk, z0, z1, hs, q⟩ := h
   change H x=some (.ins a.cL dx (aL "many" (.int m) [])) at hx
   obtain ⟨k1,k2⟩:=hk;refine ⟨_,(ak (az (pv 1))),?_⟩;refine aX (σ':=[some _,some _,some _]) rfl ?_;walk_at "rd";exact q
theorem s_ (T:Txt K mg a) (b:Int):bw P w K mg base be 1 a.bC "keeps" (bU a (.back b)):=by
 refine bh (sp:=(bU a (.back b))) 0 T.jS T.vj fk (fun vs H Q E h=>?_) (fun f cdv A outer s H vs Q E hr h=>?_)
 · obtain ⟨x, s, z, rfl, _⟩ := h;rfl
 · obtain ⟨x, s, z, rfl, ⟨dx, hx⟩, hk, z0, z1, hs, q⟩ := h
   change H x=some (.ins a.bC dx (aL "box" (.int b) [])) at hx
   obtain ⟨k1,k2⟩:=hk;refine ⟨_,(ak (az (pv 1))),?_⟩;refine aX (σ':=[some _,some _,some _]) rfl ?_;walk_at "rd";exact q
theorem r_ (T:Txt K mg a) (b:Int):bw P w K mg base be 1 a.cK "keeps" (bU a (.drop b)):=by
 refine bh (sp:=(bU a (.drop b))) 0 T.j9 T.um fk (fun vs H Q E h=>?_) (fun f cdv A outer s H vs Q E hr h=>?_)
 · obtain ⟨x, s, z, rfl, _⟩ := h;rfl
 · obtain ⟨x, s, z, rfl, ⟨dx, hx⟩, hk, z0, z1, hs, q⟩ := h
   change H x=some (.ins a.cK dx (aL "box" (.int b) [])) at hx
   obtain ⟨k1,k2⟩:=hk;refine ⟨_,(ak (az (pv 1))),?_⟩;refine aX (σ':=[some _,some _,some _]) rfl ?_;walk_at "rd";exact q
theorem qw (T:Txt K mg a) (m:Int):bw P w K mg base be 1 a.cL "height" (bE a (.grow m)):=by
 refine bh (sp:=(bE a (.grow m))) 0 T.ki T.sm qA (fun vs H Q E h=>?_) (fun f cdv A outer s H vs Q E hr h=>?_)
 · obtain ⟨x, z, rfl, _⟩ := h;rfl
 · obtain ⟨x, z, rfl, ⟨dx, hx⟩, q⟩ := h
   change H x=some (.ins a.cL dx (aL "many" (.int m) [])) at hx
   refine ⟨_, (aj (aS (aB fB (ar (aT (K := K) rfl) (pv 1) (bA (K := K) rfl (pv 0))) (bj (v := .int 4000) rfl T.eV.choose_spec ⟨_, rfl⟩) (aF _)) (ak (az bB)) aH)
     (ak (az (ar (aT (K:=K) rfl) (pv 1) (bA (K:=K) rfl (pv 0)))))),?_⟩
   refine aX (σ':=[some _,some _]) rfl ?_;walk_at "rds";all_goals (try simp only [Rw.aY] at q);(repeat' split at q) <;> first | exact q | (exfalso;omega)
theorem o7 (T:Txt K mg a) (m:Int):bw P w K mg base be 1 a.bZ "height" (bE a (.shrink m)):=by
 refine bh (sp:=(bE a (.shrink m))) 0 T.hJ T.qd oy (fun vs H Q E h=>?_) (fun f cdv A outer s H vs Q E hr h=>?_)
 · obtain ⟨x, z, rfl, _⟩ := h;rfl
 · obtain ⟨x, z, rfl, ⟨dx, hx⟩, q⟩ := h
   change H x=some (.ins a.bZ dx (aL "many" (.int m) [])) at hx
   refine ⟨_, (aj (aS (aB gU (pv 1) (bA (K := K) rfl (pv 0)) (aF _)) (ak (az bB)) aH)
     (ak (az (ar d6 (pv 1) (bA (K:=K) rfl (pv 0)))))),?_⟩
   refine aX (σ':=[some _,some _]) rfl ?_;walk_at "rds";all_goals (try simp only [Rw.aY] at q);(repeat' split at q) <;> first | exact q | (exfalso;omega)
theorem rV (T:Txt K mg a) (b c:Int):bw P w K mg base be 1 a.dk "height" (bE a (.put b c)):=by
 refine bh (sp:=(bE a (.put b c))) 0 T.mq T.vk ib (fun vs H Q E h=>?_) (fun f cdv A outer s H vs Q E hr h=>?_)
 · obtain ⟨x, z, rfl, _⟩ := h;rfl
 · obtain ⟨x, z, rfl, ⟨dx, hx⟩, q⟩ := h
   change H x=some (.ins a.dk dx (aL "cell" (.int c) (aL "box" (.int b) []))) at hx
   refine ⟨_, (aj (aS (aB tN (pv 1) (bA (K := K) rfl (pv 0)) (aF _)) (ak (az bB)) aH)
     (ak (az (pv 1)))),?_⟩
   refine aX (σ':=[some _,some _]) rfl ?_;walk_at "rds";all_goals (try simp only [Rw.aY] at q);(repeat' split at q) <;> first | exact q | (exfalso;omega)
theorem tm (T:Txt K mg a) (b c:Int):bw P w K mg base be 1 a.dj "height" (bE a (.get b c)):=by
 refine bh (sp:=(bE a (.get b c))) 0 T.lS T.uz ib (fun vs H Q E h=>?_) (fun f cdv A outer s H vs Q E hr h=>?_)
 · obtain ⟨x, z, rfl, _⟩ := h;rfl
 · obtain ⟨x, z, rfl, ⟨dx, hx⟩, q⟩ := h
   change H x=some (.ins a.dj dx (aL "cell" (.int c) (aL "box" (.int b) []))) at hx
   refine ⟨_, (aj (aS (aB tN (pv 1) (bA (K := K) rfl (pv 0)) (aF _)) (ak (az bB)) aH)
     (ak (az (pv 1)))),?_⟩
   refine aX (σ':=[some _,some _]) rfl ?_;walk_at "rds";all_goals (try simp only [Rw.aY] at q);(repeat' split at q) <;> first | exact q | (exfalso;omega)
theorem AV (T:Txt K mg a):ia P w K mg base be 1 "Table" a.bT (kA K a.bT)∧To P w K mg base be 1 "Table" a.bT (kA K a.bT):=by
 refine Ec (sp:=(kA K a.bT)) 0 T.ER T.D6 sU (fun vs H Q E h=>?_) (fun f cdv A outer s H vs Q E hr h=>?_)
 · obtain ⟨x, dx, pe, lv, xs, kvs, rfl, _⟩ := h;rfl
 · obtain ⟨x, dx, pe, lv, xs, kvs, rfl, hx, hS, hd, q⟩ := h
   refine ⟨_, (aj (ck (K := K) rfl (pv 0) (eu (pN (K := K) rfl) rfl T.pY px (aa (pv 1) ag)))
     (ak (ck (K:=K) rfl (pv 0) (iX (aB cU (pv 2) bB (aF _)) gM (eu yq rfl T.Gb E4 (aa (pv 2) ag)))))),?_⟩
   refine aX (σ':=[some _,some _,some _]) rfl ?_;rcases hd with ⟨rfl,rfl⟩ | ⟨pd,rfl,hd⟩
   · walk_at "rd";rename_i l hl d hd;have nx:=ff hd;have nl:=ff nx.1;refine q l d _ hl nl.1 nl.2.symm (fun b o e ne=>?_) ae ?_ ?_
     · rw [aw ne,aw (aq (show upd (upd H l (.lst xs)) x _ b=some o from by rw [aw ne,aw (aq e hl)];exact e) hd),aw ne,aw (aq e hl)];exact e
     · rw [aw (aq hx hl).symm,aw nl.2.symm,aw (aq hx hl).symm,ae]
     · rw [aw nx.2,ae]
   · have npx : pd ≠ x := DJ hd hx (by intro z; cases z);walk_at "rd";rename_i l hl d hd';have nx:=ff hd';have nl:=ff nx.1;refine q l d _ hl nl.1 nl.2.symm (fun b o e ne=>?_) ae ?_ ?_
     · rw [aw ne,aw (aq (show upd (upd H l (.lst xs)) x _ b=some o from by rw [aw ne,aw (aq e hl)];exact e) hd'),aw ne,aw (aq e hl)];exact e
     · rw [aw (aq hx hl).symm,aw nl.2.symm,aw (aq hx hl).symm,ae]
     · rw [aw nx.2,ae]
theorem o8 (T:Txt K mg a):ia P w K mg base be 1 "Table" a.bT (kA K a.bT):=(AV T).1
theorem iz (T:Txt K mg a):cG P w K mg base be 1 "sets_of" (Ah K):=by
 refine bJ (sp:=(Ah K)) 0 T.yY pQ (fun vs H Q E h=>?_) (fun f cdv A outer s H vs Q E hr h=>?_)
 · obtain ⟨p, e, rfl, _⟩ := h;rfl
 · obtain ⟨p, e, rfl, ⟨pk, h1, h2⟩, q⟩ := h
   refine ⟨_, (aj (aI (i := 1) pQ.nd rfl (Or.inl rfl) (aD (aJ (K := K) rfl) (pv 0) ai (fun _ _ => rfl)))
     (ak (az (aV (aa (aD (aJ (K:=K) rfl) (pv 0) ai (fun _ _=>rfl)) (aa (aD (aJ (K:=K) rfl) (pv 1) ai (fun _ _=>rfl)) (aa (aD (aJ (K:=K) rfl) (pv 1) ai (fun _ _=>rfl)) (aa (aD (aJ (K:=K) rfl) (pv 1) ai (fun _ _=>rfl)) ag)))))))),?_⟩
   refine aX (σ':=[some _,none]) rfl ?_;walk_at "rd";exact q _ (by assumption)
theorem uO (T:Txt K mg a) (t:Int):bw P w K mg base be 1 a.cJ "goes" (cj a (.dD t)):=by
 refine bh (sp:=(cj a (.dD t))) 0 T.jO T.wO uj (fun vs H Q E h=>?_) (fun f cdv A outer s H vs Q E hr h=>?_)
 · obtain ⟨x, z, rfl, _⟩ := h;rfl
 · obtain ⟨x, z, rfl, ⟨dx, hx⟩, q⟩ := h
   change H x=some (.ins a.cJ dx (aL "target" (.int t) [])) at hx
   refine ⟨_,(ak (az (aW (aa (bA (K:=K) rfl (pv 0)) ag)))),?_⟩;refine aX (σ':=[some _,some _]) rfl ?_;walk_at "rd";exact q _ (by assumption)
theorem qX (T:Txt K mg a) (b t:Int):bw P w K mg base be 1 a.bV "goes" (cj a (.branch b t)):=by
 refine bh (sp:=(cj a (.branch b t))) 0 T.hG T.sQ qN (fun vs H Q E h=>?_) (fun f cdv A outer s H vs Q E hr h=>?_)
 · obtain ⟨x, z, rfl, _⟩ := h;rfl
 · obtain ⟨x, z, rfl, ⟨dx, hx⟩, q⟩ := h
   change H x=some (.ins a.bV dx (aL "target" (.int t) (aL "box" (.int b) []))) at hx
   refine ⟨_,(ak (az (aW (aa (ar (aT (K:=K) rfl) (pv 1) ai) (aa (bA (K:=K) rfl (pv 0)) ag))))),?_⟩;refine aX (σ':=[some _,some _]) rfl ?_;walk_at "rd";exact q _ (by assumption)
theorem uU (T:Txt K mg a) (b:Int):bw P w K mg base be 1 a.bC "goes" (cj a (.back b)):=by
 refine bh (sp:=(cj a (.back b))) 0 T.jS T.wz vA (fun vs H Q E h=>?_) (fun f cdv A outer s H vs Q E hr h=>?_)
 · obtain ⟨x, z, rfl, _⟩ := h;rfl
 · obtain ⟨x, z, rfl, ⟨dx, hx⟩, q⟩ := h
   change H x=some (.ins a.bC dx (aL "box" (.int b) [])) at hx
   refine ⟨_,(ak (az (aW ag))),?_⟩;refine aX (σ':=[some _,some _]) rfl ?_;walk_at "rd";exact q _ (by assumption)
theorem uc (T:Txt K mg a) (b:Int):bw P w K mg base be 1 a.cK "goes" (cj a (.drop b)):=by
 refine bh (sp:=(cj a (.drop b))) 0 T.j9 T.wY uS (fun vs H Q E h=>?_) (fun f cdv A outer s H vs Q E hr h=>?_)
 · obtain ⟨x, z, rfl, _⟩ := h;rfl
 · obtain ⟨x, z, rfl, ⟨dx, hx⟩, q⟩ := h
   change H x=some (.ins a.cK dx (aL "box" (.int b) [])) at hx
   refine ⟨_,(ak (az (aW ag))),?_⟩;refine aX (σ':=[some _,some _]) rfl ?_;walk_at "rd";exact q _ (by assumption)
theorem mz (T:Txt K mg a):cG P w K mg base be 1 "is_row" (xh K):=by
 refine bJ (sp:=(xh K)) 0 T.Ax zK (fun vs H Q E h=>?_) (fun f cdv A outer s H vs Q E hr h=>?_)
 · obtain ⟨n, p, us, rfl, _⟩ := h;rfl
 · obtain ⟨n, p, us, rfl, hp, q⟩ := h;refine ⟨_,(ak (az (BZ tN gU ai (pv 0) (aP (a8 (K:=K) rfl) rfl T.bS bR (aa (pv 1) ag))))),?_⟩;refine aX (σ':=[some _,some _]) rfl ?_;walk_at "rd";refine cS (fun hh=>?_) (fun hh=>?_)
   · walk_at "rd";rw [show decide (n<(us.length:Int))=decide (0≤n∧n<(us.length:Int)) from by rw [decide_eq_decide];exact ⟨fun z=>⟨hh,z⟩,fun z=>z.2⟩];exact q
   · rw [decide_eq_false (fun z : 0 ≤ n ∧ n < (us.length : Int) => hh z.1)] at q;walk_at "rd";exact q
theorem vB (T:Txt K mg a):cG P w K mg base be 1 "each_once" (AZ K):=by
 refine bJ (sp:=(AZ K)) 0 T.uX jf (fun vs H Q E h=>?_) (fun f cdv A outer s H vs Q E hr h=>?_)
 · obtain ⟨p, ns, rfl, _⟩ := h;rfl
 · obtain ⟨p, ns, rfl, hp, hn, q⟩ := h
   refine ⟨_, (aj (aI (i := 1) jf.nd rfl (Or.inl rfl) (aW ag))
     (aj (dE PassesOwn.never rfl (cw (K:=K) rfl (pv 0)) (aO (i:=2) jf.nd rfl (Or.inl rfl)) (ak (aS (aB (zy (K:=K) rfl) (pv 2) (pv 1) rfl) (ak (bG (cA (K:=K) rfl PySem.F.plainAttrs_list PySem.F.slot_list_append PySem.F.type_list_append bM (pv 1) (aa (pv 2) ag)))) aH)))
     (ak (az (pv 1))))),?_⟩
   refine aX (σ':=[some _,none,none]) rfl ?_;walk_at "rd";rename_i l nl;refine eE (K:=K) (a:=p) (xs:=ns.map V.int) (fun i σ H1=>(∃ u,σ = [some (.ref p),some (.ref l),u])∧au H H1∧H1 l=some (.lst ((once (ns.take i)).map V.int))∧(once (ns.take i)).length≤i) ⟨⟨_,rfl⟩,ah nl,ae,Nat.le_refl _⟩ (fun i σ H1 _ ⟨_,s1,_⟩=>au.seq s1 hp) ?_ ?_
   · rintro i x σ H1 hx ⟨⟨u, rfl⟩, s1, hl, hlen⟩;obtain ⟨n,hn1,rfl⟩:∃ n,ns[i]? = some n∧x=.int n:=by
       rw [List.getElem?_map] at hx;obtain ⟨p,hp,e⟩:=Option.map_eq_some_iff.mp hx;exact ⟨p,hp,e.symm⟩
     have hi:i<ns.length:=(List.getElem?_eq_some_iff.mp hn1).1;have en:once (ns.take (i+1))=if n∈once (ns.take i) then once (ns.take i) else once (ns.take i)++[n]:=by
       unfold once;rw [List.take_add_one,hn1,Option.toList_some,List.foldl_append];rfl
     rw [en];generalize once (ns.take i)=os at hl hlen ⊢;walk_at "rd";refine JV (aA.of hl) rfl (AI _) ?_;rw [if_pos rfl,BQ];by_cases hm:n∈os
     · rw [decide_eq_true hm, if_pos hm];walk_at "rd";exact ⟨⟨_,rfl⟩,s1,hl,by omega⟩
     · rw [decide_eq_false hm, if_neg hm];walk_at "rd";exact ⟨⟨_,rfl⟩,by walk_at "same",by rw [List.map_append];exact ae,by rw [List.length_append];show os.length+1≤i+1;omega⟩
   · rintro σ H1 ⟨⟨u, rfl⟩, s1, hl, hlen⟩;rw [List.length_map,List.take_length] at hl;walk_at "rd";exact q l H1 s1 hl
theorem o_ (T:Txt K mg a):cG P w K mg base (eM P w) 1 "reach" (qP a):=by
 refine v_ (sp:=(qP a)) 0 T.BL B0 (fun vs H Q E h=>?_) (fun f cdv A outer s H vs Q E hr h=>?_)
 · obtain ⟨lh, lw, n, high, hs, ws, rfl, _⟩ := h;rfl
 · obtain ⟨lh, lw, n, high, hs, ws, rfl, hlh, hlw, h1, h2, n1, n2, nlw, qb, qs, qn⟩ := h
   refine ⟨_, (aj (aS (PT.cO (PW.pt (fR (aB gU (pv 2) ai (aF _)) (fK (aB Dc (pv 2) (aP (a8 (K := K) rfl) rfl T.bS bR (aa (pv 0) ag)) (aF _)))))) (ak (ku T.g0 rfl (aa (qy (pv 2)) ag))) aH)
     (ak (aS (PT.cO (aB cU (aD (aJ (K:=K) rfl) (pv 0) (pv 2) (fun _ _=>rfl)) bB (aF _))) (aj (PS.cO (fQ (pv 3) (my (pv 0) (pv 2) set_list)))
     (ak (PS.cO (bG (cA (K:=K) rfl PySem.F.plainAttrs_list PySem.F.slot_list_append PySem.F.type_list_append bM (pv 1) (aa (pv 2) ag)))))) (ak (aS (PT.cO (aB (eN (K:=K) rfl hr.units) (aD (aJ (K:=K) rfl) (pv 0) (pv 2) (fun _ _=>rfl)) (pv 3) (aF _))) (ak (ku T.g0 rfl (aa (qy (pv 2)) ag))) aH))))),?_⟩
   refine aX (σ':=[some _,some _,some _,some _]) rfl ?_;walk_at "rk";refine cS (fun hh=>?_) (fun hh=>?_)
   · walk_at "rk";refine iH ?_;walk_at "rk";refine qo ?_;walk_at "rk";exact ⟨js n1 n2,by show 1≤1000;decide,qb (.inl hh)⟩
   · walk_at "rk";refine fJ (aA.of hlh) ?_;rw [List.length_map];walk_at "rk";refine cS (fun hh2=>?_) (fun hh2=>?_)
     · walk_at "rk";refine iH ?_;walk_at "rk";refine qo ?_;walk_at "rk";exact ⟨js n1 n2,by show 1≤1000;decide,qb (.inr (.inl hh2))⟩
     · obtain ⟨k, rfl⟩ : ∃ k : Nat, n = (k : Int) := ⟨n.toNat, by omega⟩
       rw [Int.toNat_natCast] at qb qs qn;have hk:k<hs.length:=by omega
       have hs1:hs[k]? = some hs[k]:=List.getElem?_eq_getElem hk;have hat:dz (hs.map cv) (k:Int)=some (cv hs[k]):=cn (by rw [List.getElem?_map,hs1];rfl);generalize hs[k]=o at hs1 hat;rw [hs1] at qb qs qn;cases o with
       | none =>
         have hat:dz (hs.map cv) (k:Int)=some .aR:=hat;walk_at "rk";refine iS hlh (j:=k) (by rw [List.length_map];exact yU hk) ?_;walk_at "rk";have e1:(hs.map cv).set k (.int high)=(hs.set k (some high)).map cv:=mH cv hs k (some high);have e2:ws.map nV++[V.int (k:Int)]=(ws++[k]).map nV:=by rw [List.map_append];rfl
         rw [e1,e2];exact qn (by omega) rfl
       | some h0 =>
         have hat:dz (hs.map cv) (k:Int)=some (.int h0):=hat;walk_at "rk";refine er (fun hh3=>?_) (fun hh3=>?_)
         · walk_at "rk";refine iH ?_;walk_at "rk";refine qo ?_;walk_at "rk";exact ⟨js n1 n2,by show 1≤1000;decide,qb (.inr (.inr ⟨h0,rfl,hh3⟩))⟩
         · walk_at "rk";exact qs (by omega) (by rw [show h0=high from by simpa using hh3])
theorem mw (T:Txt K mg a):cG P w K mg base be 1 "narrow" oq:=by
 refine bJ (sp:=oq) 0 T.Ay rK (fun vs H Q E h=>?_) (fun f cdv A outer s H vs Q E hr h=>?_)
 · obtain ⟨lsx, dc, n, p, ss, ks, o, rfl, _⟩ := h;rfl
 · obtain ⟨lsx, dc, n, p, ss, ks, o, rfl, hl, hd, h1, h2, hnd, ho, q1, q2⟩ := h;have hat:dz (ss.map cC) (n:Int)=some (cC o):=cn (by rw [List.getElem?_map,ho];rfl);have hn:n<ss.length:=(List.getElem?_eq_some_iff.mp ho).1;have hne:lsx≠dc:=fun z=>by rw [z,hd] at hl;cases hl
   refine ⟨_, (aj (aI (i := 4) rK.nd rfl (Or.inl rfl) (iX (aB cU (aD (aJ (K := K) rfl) (pv 0) (pv 2) (fun _ _ => rfl)) bB (aF _)) (pv 3) (ar i9 (aD (aJ (K := K) rfl) (pv 0) (pv 2) (fun _ _ => rfl)) (pv 3))))
     (ak (aS (aB (eN (K:=K) rfl hr.units) (pv 4) (aD (aJ (K:=K) rfl) (pv 0) (pv 2) (fun _ _=>rfl)) (aF _)) (aj (fQ (pv 4) (my (pv 0) (pv 2) set_list))
     (ak (qI (mM hr) (pv 1) (pv 2) fu rfl))) aH))),?_⟩
   refine aX (σ':=[some _,some _,some _,some _,none]) rfl ?_;have fin:∀ x:Nat,(upd (upd H lsx (.lst ((ss.map cC).set n (.int (x:Int))))) dc (.dK (putK (b8 ks) (.inl (n:Int)) (.bl true))))=upd (upd H lsx (.lst ((ss.set n (some x)).map cC))) dc (.dK (b8 (jb ks n))):=fun x=>by
     rw [Cy,← mH cC ss n (some x)];rfl
   cases o with
   | none =>
     have hat:dz (ss.map cC) (n:Int)=some .aR:=hat;walk_at "rk";rw [if_pos (by rw [decide_eq_false (fun z=>by cases z)];rfl)];walk_at "rk";refine iS hl (j:=n) (by rw [List.length_map];exact yU hn) ?_;walk_at "rk";refine j4 (kvs:=b8 ks) (by rw [aw hne.symm];exact hd) (by unfold b8;rw [List.length_map,sizeLine_eq];omega) ?_;rw [fin];exact q2 (fun z=>by cases z)
   | some s0 =>
     have hat:dz (ss.map cC) (n:Int)=some (.int (s0:Int)):=hat;walk_at "rk";rw [gw];by_cases e:s0 &&& p=s0
     · rw [if_neg (by rw [e, decide_eq_true rfl]; decide)];walk_at "rk";exact q1 (by show some s0=some (s0 &&& p);rw [e])
     · rw [if_pos (by rw [decide_eq_false (fun z => e (by have := V.int.inj z; omega))]; rfl)];walk_at "rk";refine iS hl (j:=n) (by rw [List.length_map];exact yU hn) ?_;walk_at "rk";refine j4 (kvs:=b8 ks) (by rw [aw hne.symm];exact hd) (by unfold b8;rw [List.length_map,sizeLine_eq];omega) ?_;rw [fin];exact q2 (fun z=>e (by have:=Option.some.inj z;exact this.symm))
theorem bN (T:Txt K mg a):cG P w K mg base be 1 "_law_cell_at" (gO K):=by
 refine bJ (sp:=(gO K)) 0 T.qE qW (fun vs H Q E h=>?_) (fun f cdv A outer s H vs Q E hr h=>?_)
 · obtain ⟨p, ns, k, rfl, _⟩ := h;rfl
 · obtain ⟨p, ns, k, rfl, hS, h0, q⟩ := h
   refine ⟨_, (aj (aS (aB gU (pv 1) (aP (a8 (K := K) rfl) rfl T.bS bR (aa (pv 0) ag)) (aF _)) (ak (az (aD (aJ (K := K) rfl) (pv 0) (pv 1) (fun _ _ => rfl)))) aH)
     (ak (az ai))),?_⟩
   refine aX (σ':=[some _,some _]) rfl ?_;walk_at "rd";refine cS (fun hh=>?_) (fun hh=>?_)
   · walk_at "rd";exact q
   · walk_at "rd";have e:=yL h0 hh;rw [e] at q;exact q
theorem nu (T:Txt K mg a):cG P w K mg base be 1 "_law_body" (zI K):=by
 refine bJ (sp:=(zI K)) 0 T.wW eR (fun vs H Q E h=>?_) (fun f cdv A outer s H vs Q E hr h=>?_)
 · obtain ⟨lc, ls, cs, ss, sp, at_, rfl, _⟩ := h;rfl
 · obtain ⟨lc, ls, cs, ss, sp, at_, rfl, hlc, hcl, hls, hsl, hsb, sp0, sp1, at0, at1, q⟩ := h;refine' ⟨_,?fz,?_⟩;(case fz=>(refine' aj ?VU ?UP;(case UP=>(refine' aj ?Uh ?Vy;(case Vy=>exact (ak (az (pv 4))));(case Uh=>(refine' dE PassesOwn.never rfl (cw (K:=K) rfl (pv 0)) (aO (i:=5) eR.nd rfl (Or.inl rfl)) ?Vl;(case Vl=>(refine' aj ?UM ?Vj;(case Vj=>(refine' aj ?T_ ?Vh;(case Vh=>(refine' aj ?VF ?Ug;(case Ug=>(refine' ak ?Ux;(case Ux=>(refine' aS ?UW ?T6 ?T2;(case UW=>exact (PW.pt (i_ (aB (cp (K:=K) rfl hr.units) (pv 6) ai (aF _)) (gL (aB (ka (K:=K) rfl hr.units) (pv 8) (aW ag) (aF _))))));(case T6=>(refine' ak ?UL;(case UL=>(refine' bG ?U0;(case U0=>(refine' cA (K:=K) rfl PySem.F.plainAttrs_list PySem.F.slot_list_append PySem.F.type_list_append bM ?UO ?UK;(case UO=>exact (pv 4));(case UK=>(refine' aa ?TM ?U4 ?Up;(case Up=>rfl);(case TM=>(refine' aV ?Vs;(case Vs=>(refine' aa ?VR ?Vr ?U5;(case U5=>rfl);(case VR=>exact aK);(case Vr=>(refine' aa ?UH ?Vb ?TJ;(case TJ=>rfl);(case UH=>exact (aD (aJ (K:=K) rfl) (pv 8) (ar aN (ar a9 (pv 5) ai) (aP (a8 (K:=K) rfl) rfl T.bS bR (aa (pv 8) ag))) (fun _ _=>rfl)));(case Vb=>(refine' aa ?U6 ?Ut ?Uo;(case Uo=>rfl);(case U6=>exact (ar aN (ar a9 (pv 5) ai) ai));(case Ut=>exact ag)))))))));(case U4=>exact ag)))))))));(case T2=>(refine' ak ?TN;(case TN=>(refine' aS ?Vw ?Uc ?Ud;(case Vw=>(refine' PW.pt ?UN;(case UN=>(refine' i_ ?VD ?tw93;(case VD=>(refine' aB (jQ (K:=K) rfl) ?VA ?Uq rfl;(case VA=>exact (pv 6));(case Uq=>(refine' aW ?VC;(case VC=>(refine' aa ?VJ ?TY ?TV;(case TV=>rfl);(case VJ=>exact ai);(case TY=>(refine' aa ?K2 ?Oe ?Lg;(case Lg=>rfl);(case K2=>exact ai);(case Oe=>exact ag)))))))));(case tw93=>(refine' gL ?Sb;(case Sb=>exact (aB (jQ (K:=K) rfl) ai (pv 1) rfl))))))));(case Uc=>(refine' ak ?Pn;(case Pn=>(refine' bG ?Km;(case Km=>(refine' cA (K:=K) rfl PySem.F.plainAttrs_list PySem.F.slot_list_append PySem.F.type_list_append bM ?RX ?Rv;(case RX=>exact (pv 4));(case Rv=>(refine' aa ?Sw ?J8 ?QN;(case QN=>rfl);(case Sw=>(refine' aV ?Mx;(case Mx=>(refine' aa ?Sx ?Qe ?RY;(case RY=>rfl);(case Sx=>exact aK);(case Qe=>(refine' aa ?Jm ?Hq ?PZ;(case PZ=>rfl);(case Jm=>exact (ar d6 (gQ h_ ai) (ar aN (ar a9 (pv 5) ai) ai)));(case Hq=>exact ag)))))));(case J8=>exact ag)))))))));(case Ud=>(refine' ak ?O5;(case O5=>(refine' aS ?PX ?OG ?Hz;(case PX=>exact (PW.pt (i_ (aB (cp (K:=K) rfl hr.units) (pv 6) ai (aF _)) (gL (aB Dc (pv 2) ai (aF _))))));(case OG=>(refine' ak ?KU;(case KU=>(refine' bG ?Qh;(case Qh=>(refine' cA (K:=K) rfl PySem.F.plainAttrs_list PySem.F.slot_list_append PySem.F.type_list_append bM ?RQ ?JC;(case RQ=>exact (pv 4));(case JC=>(refine' aa ?R4 ?NC ?Qv;(case Qv=>rfl);(case R4=>exact (aD (aJ (K:=K) rfl) (aW (aa (aV (aa aK (aa (pv 7) (aa (pv 2) ag)))) (aa (aV (aa aK (aa (pv 7) (aa (pv 2) ag)))) ag))) (ar aN (ar a9 (pv 5) ai) ai) (fun _ _=>rfl)));(case NC=>exact ag)))))))));(case Hz=>(refine' ak ?O2;(case O2=>(refine' aS ?Ji ?JI ?JJ;(case Ji=>exact (aB fB (pv 6) ai (aF _)));(case JI=>(refine' aj ?J_ ?Ng;(case Ng=>(refine' ak ?SQ;(case SQ=>(refine' bG ?Q4;(case Q4=>(refine' cA (K:=K) rfl PySem.F.plainAttrs_list PySem.F.slot_list_append PySem.F.type_list_append bM ?LK ?Pj;(case LK=>exact (pv 4));(case Pj=>(refine' aa ?OU ?Kp ?Pu;(case Pu=>rfl);(case OU=>exact (aD (aJ (K:=K) rfl) (aW (aa (aV (aa aK (aa (pv 7) (aa ai ag)))) (aa (aV (aa aK (aa (pv 7) ag))) ag))) (ar d6 (pv 6) ai) (fun _ _=>rfl)));(case Kp=>exact ag)))))))));(case J_=>(refine' bG ?JZ;(case JZ=>(refine' cA (K:=K) rfl PySem.F.plainAttrs_list PySem.F.slot_list_append PySem.F.type_list_append bM ?OE ?OF;(case OE=>exact (pv 4));(case OF=>(refine' aa ?KA ?L6 ?LB;(case LB=>rfl);(case KA=>(refine' aV ?NY;(case NY=>(refine' aa ?II ?Il ?Kn;(case Kn=>rfl);(case II=>exact aK);(case Il=>(refine' aa ?NX ?Lf ?Ld;(case Ld=>rfl);(case NX=>exact (pv 7));(case Lf=>(refine' aa ?Mu ?MR ?Nt;(case Nt=>rfl);(case Mu=>exact (ar (aT (K:=K) rfl) (ar (aT (K:=K) rfl) (pv 3) (aP (a8 (K:=K) rfl) rfl T.bS bR (aa (pv 4) ag))) ai));(case MR=>exact ag)))))))));(case L6=>exact ag)))))))));(case JJ=>(refine' ak ?Mz;(case Mz=>(refine' aS ?KH ?LH ?Im;(case KH=>exact (aB (cp (K:=K) rfl hr.units) (pv 6) ai (aF _)));(case LH=>(refine' ak ?Pl;(case Pl=>(refine' bG ?R6;(case R6=>(refine' cA (K:=K) rfl PySem.F.plainAttrs_list PySem.F.slot_list_append PySem.F.type_list_append bM ?NS ?QW;(case NS=>exact (pv 4));(case QW=>(refine' aa ?Kc ?P7 ?KG;(case KG=>rfl);(case Kc=>(refine' aV ?KE;(case KE=>(refine' aa ?Lw ?Ls ?QI;(case QI=>rfl);(case Lw=>exact aK);(case Ls=>(refine' aa ?Nw ?Oi ?Hk;(case Hk=>rfl);(case Nw=>exact (pv 7));(case Oi=>(refine' aa ?Js ?Li ?M0;(case M0=>rfl);(case Js=>exact (ar aN (ar a9 (pv 5) ai) ai));(case Li=>exact ag)))))))));(case P7=>exact ag)))))))));(case Im=>(refine' ak ?Ot;(case Ot=>(refine' bG ?P9;(case P9=>(refine' cA (K:=K) rfl PySem.F.plainAttrs_list PySem.F.slot_list_append PySem.F.type_list_append bM ?KQ ?LR;(case KQ=>exact (pv 4));(case LR=>(refine' aa ?QC ?MJ ?Oo;(case Oo=>rfl);(case QC=>exact (aD (aJ (K:=K) rfl) (aW (aa (aV (aa aK (aa (pv 7) (aa (ar aN (ar a9 (pv 5) ai) ai) ag)))) (aa (aV (aa aK (aa (pv 7) (aa (ar aN (ar a9 (pv 5) ai) ai) (aa (pv 7) ag))))) ag))) (ar aN (pv 6) ai) (fun _ _=>rfl)));(case MJ=>exact ag)))))))))))))))))))))))))))));(case VF=>exact (f9 (i:=8) eR.nd rfl rfl (own:=["_law_one"]) (fr:=[]) rfl ⟨rfl,(by walk_at "clok"),(by walk_at "frok"),rfl,(by decide +kernel),(by decide +kernel),rfl⟩ (cw (K:=K) rfl (pv 1)) (fun _ _ _ _=>(aO (i:=0) (show List.Nodup [("_law_one" : Str)] from by decide +kernel) rfl (Or.inl rfl))) (fun _ _ _ _=>(mV (aB (eN (K:=K) rfl hr.units) (pv 0) ai (aF _)))) (fun _ _ _ _=>(pv 0))))));(case T_=>exact (aI (i:=7) eR.nd rfl (Or.inl rfl) (ar aN (ar a9 (pv 5) ai) ai)))));(case UM=>exact (aI (i:=6) eR.nd rfl (Or.inl rfl) (ar aN (pv 5) ai)))))))));(case VU=>exact (aI (i:=4) eR.nd rfl (Or.inl rfl) (aW ag)))))
   refine aX (σ':=[some _,some _,some _,some _,none,none,none,none,none]) rfl ?_;walk_at "rd";rename_i lr nlr;refine eE (K:=K) (a:=lc) (xs:=cs.map V.int) (fun i σ HD=>∃ (us:List V) (v5 v6 v7 v8:Option V),σ = [some (.ref lc),some (.ref ls),some (.int sp),some (.int at_),some (.ref lr),v5,v6,v7,v8]∧au H HD∧HD lr=some (.lst us)∧us.length≤2*i∧ba fP HD us) ⟨[],_,_,_,_,rfl,ah nlr,ae,Nat.le_refl _,ba.nil⟩ (fun i σ HD _ ⟨_,_,_,_,_,_,s,_⟩=>bc s hlc) ?_ ?_
   · rintro i x σ HD hx ⟨us, v5, v6, v7, v8, rfl, sD, hlr, hul, tds⟩;obtain ⟨c,hc,rfl⟩:∃ c:Int,cs[i]? = some c∧x=.int c:=by
       rw [List.getElem?_map] at hx;obtain ⟨c,h1,e⟩:=Option.map_eq_some_iff.mp hx;exact ⟨c,h1,e.symm⟩
     have hi:=(List.getElem?_eq_some_iff.mp hc).1;have hlsD:=bc sD hls;clear hx hc;walk_at "rd";refine ez (K:=K) (a:=ls) (xs:=ss.map V.int) (fun i ys σ H2=>(∃ v,σ = [v])∧H2=HD∧∃ zs:List Int,ys=zs.map V.int∧zs.length≤i∧∀ z∈zs,0≤z∧z≤7) ⟨⟨_,rfl⟩,rfl,[],rfl,Nat.le_refl _,(fun _ z=>by cases z)⟩ (fun i ys σ H2 hi ⟨_,e,zs,e1,e2,_⟩=>⟨by rw [e];exact hlsD,by rw [e1,List.length_map,sizeLine_eq];rw [List.length_map] at hi;omega⟩) ?_ ?_
     · rintro j u ys σ H2 hu ⟨⟨v, rfl⟩, rfl, zs, rfl, hz, hzb⟩;obtain ⟨z,hz1,rfl⟩:∃ c:Int,ss[j]? = some c∧u=.int c:=by
         rw [List.getElem?_map] at hu;obtain ⟨c,h1,e⟩:=Option.map_eq_some_iff.mp hu;exact ⟨c,h1,e.symm⟩
       have hz2:=hsb z (List.mem_of_getElem? hz1);walk_at "rd";refine er (fun hh=>?_) (fun hh=>?_)
       · walk_at "rd"
         exact ⟨⟨_, rfl⟩, rfl, zs ++ [z], by rw [List.map_append]; rfl, by simp only [List.length_append, List.length_singleton]; omega, fun y hy => by
           rcases List.mem_append.mp hy with h | h
           · exact hzb y h
           · rw [List.mem_singleton.mp h];exact hz2⟩
       · exact ⟨⟨_,rfl⟩,rfl,zs,rfl,Nat.le_succ_of_le hz,hzb⟩
     rintro ys σ H2 ⟨_,rfl,zs,rfl,hz,hzb⟩;intro lk nlk;rw [List.length_map] at hz;have fin:∀ (us:List V) (HA:Hp),au H HA→ba fP HA us→us.length≤2*i+1→∀ (u:V) (r:Rw) (H3:Hp) (w5 w6 w7 w8:Option V),au HA H3→H3 lr=some (.lst us)→ja H3 u r→fP r→∃ (us2:List V) (v5 v6 v7 v8:Option V),[some (V.ref lc),some (V.ref ls),some (V.int sp),some (V.int at_),some (V.ref lr),w5,w6,w7,w8]=[some (V.ref lc),some (V.ref ls),some (V.int sp),some (V.int at_),some (V.ref lr),v5,v6,v7,v8]∧au H (upd H3 lr (.lst (us++[u])))∧(upd H3 lr (.lst (us++[u]))) lr=some (.lst us2)∧us2.length≤2*(i+1)∧ba fP (upd H3 lr (.lst (us++[u]))) us2:=fun us HA sA tds hul u r H3 w5 w6 w7 w8 s3 h3 td ok=>⟨us++[u],_,_,_,_,rfl,bz (sA.trans s3) nlr,ae,by rw [List.length_append,List.length_singleton];omega,((tds.same s3).app (ba.one td ok)).off h3⟩;rcases (show c%9=0∨c%9=1∨c%9=2∨c%9=3∨c%9=4∨c%9=5∨c%9=6∨c%9=7∨c%9=8 by omega) with hk | hk | hk | hk | hk | hk | hk | hk | hk
     · walk_at "rd";rw [hk];walk_at "rd";refine eB (aA.of ae) rfl rfl ?_;rw [show fE (V.int 0) [V.int 4,V.int 5]=false from by decide +kernel];walk_at "rd";exact fin us H2 sD tds (by omega) _ (.set (c/9%4) (c/36%4)) _ _ _ _ _ (by walk_at "same") (by walk_at "hlk") ⟨_,rfl,by show _=some (HO.tup [V.str (Str.ofString "set"),V.int _,V.int _]);walk_at "hlk"⟩ (.inl ⟨by simp only [Rw.ok,aU,isVal,aM,bb];omega,True.intro⟩)
     · walk_at "rd";rw [hk];walk_at "rd";refine eB (aA.of ae) rfl rfl ?_;rw [show fE (V.int 1) [V.int 4,V.int 5]=false from by decide +kernel];walk_at "rd";exact fin us H2 sD tds (by omega) _ (.copy (c/9%4) (c/36%8)) _ _ _ _ _ (by walk_at "same") (by walk_at "hlk") ⟨_,rfl,by show _=some (HO.tup [V.str (Str.ofString "copy"),V.int _,V.int _]);walk_at "hlk"⟩ (.inl ⟨by simp only [Rw.ok,aU,isVal,aM,bb];omega,True.intro⟩)
     · walk_at "rd";rw [hk];walk_at "rd";refine eB (aA.of ae) rfl rfl ?_;rw [show fE (V.int 2) [V.int 4,V.int 5]=false from by decide +kernel];walk_at "rd";exact fin us H2 sD tds (by omega) _ (.set (c/9%4) (c/36%4)) _ _ _ _ _ (by walk_at "same") (by walk_at "hlk") ⟨_,rfl,by show _=some (HO.tup [V.str (Str.ofString "set"),V.int _,V.int _]);walk_at "hlk"⟩ (.inl ⟨by simp only [Rw.ok,aU,isVal,aM,bb];omega,True.intro⟩)
     · walk_at "rd";rw [hk];walk_at "rd";rename_i l9 nl9;by_cases hzz:zs=[]
       · subst hzz;refine jZ (ay ae nl9) ae ?_;walk_at "rd";refine eB (aA.of ae) rfl rfl ?_;rw [show fE (V.int 3) [V.int 4,V.int 5]=false from by decide +kernel];walk_at "rd";exact fin us H2 sD tds (by omega) _ (.add (c/9%4) (c/36%8) (c/9%4)) _ _ _ _ _ (by walk_at "same") (by walk_at "hlk") ⟨_,rfl,by show _=some (HO.tup [V.str (Str.ofString "add"),V.int _,V.int _,V.int _]);walk_at "hlk"⟩ (.inl ⟨by simp only [Rw.ok,aU,isVal,aM,bb];omega,True.intro⟩)
       · have hzl : 0 < zs.length := List.length_pos_iff.mpr hzz;refine rf (ay ae nl9) ae (by rw [List.length_map];omega) ?_;obtain ⟨z,hat,hzz2⟩:∃ z:Int,dz (zs.map V.int) (c/36%(zs.length:Int))=some (.int z)∧0≤z∧z≤7:=by
           have z0:=Int.emod_nonneg (c/36) (show (zs.length:Int)≠0 by omega);have z1:=Int.emod_lt_of_pos (c/36) (show 0<(zs.length:Int) by omega);obtain ⟨j,hj⟩:∃ j:Nat,c/36%(zs.length:Int)=(j:Int):=⟨(c/36%(zs.length:Int)).toNat,by omega⟩
           have hlt:j<zs.length:=by omega
           exact ⟨zs[j],by rw [hj];exact cn (by rw [List.getElem?_map,List.getElem?_eq_getElem hlt];rfl),hzb _ (List.getElem_mem hlt)⟩
         have hlz : 0<(zs.length:Int):=by omega
         walk_at "rd";exact fin us H2 sD tds (by omega) _ (.set (z) (c/108%97)) _ _ _ _ _ (by walk_at "same") (by walk_at "hlk") ⟨_,rfl,by show _=some (HO.tup [V.str (Str.ofString "set"),V.int _,V.int _]);walk_at "hlk"⟩ (.inl ⟨by simp only [Rw.ok,aU,isVal,aM,bb];omega,True.intro⟩)
     · walk_at "rd";rw [hk];walk_at "rd";refine eB (aA.of ae) rfl rfl ?_;rw [show fE (V.int 4) [V.int 4,V.int 5]=true from by decide +kernel];walk_at "rd";refine eB (bc ((ah (by assumption)).trans (ah (by assumption))) hlsD) rfl (List.all_eq_true.mpr (fun v hv=>by obtain ⟨z,_,rfl⟩:=List.mem_map.mp hv;rfl)) ?_;cases fE (V.int 7) (ss.map V.int) with
       | true =>
         walk_at "rd";exact fin us H2 sD tds (by omega) _ (.call (-1 - c/36%3)) _ _ _ _ _ (by walk_at "same") (by walk_at "hlk") ⟨_,rfl,by show _=some (HO.tup [V.str (Str.ofString "call"),V.int _]);walk_at "hlk"⟩ (.inr (.inl ⟨_,rfl⟩))
       | false =>
         walk_at "rd";exact fin us H2 sD tds (by omega) _ (.set (c/9%4) (c/36%4)) _ _ _ _ _ (by walk_at "same") (by walk_at "hlk") ⟨_,rfl,by show _=some (HO.tup [V.str (Str.ofString "set"),V.int _,V.int _]);walk_at "hlk"⟩ (.inl ⟨by simp only [Rw.ok,aU,isVal,aM,bb];omega,True.intro⟩)
     · walk_at "rd";rw [hk];walk_at "rd";refine eB (aA.of ae) rfl rfl ?_;rw [show fE (V.int 5) [V.int 4,V.int 5]=true from by decide +kernel];walk_at "rd";refine eB (bc ((ah (by assumption)).trans (ah (by assumption))) hlsD) rfl (List.all_eq_true.mpr (fun v hv=>by obtain ⟨z,_,rfl⟩:=List.mem_map.mp hv;rfl)) ?_;cases fE (V.int 7) (ss.map V.int) with
       | true =>
         walk_at "rd";exact fin us H2 sD tds (by omega) _ (.call (-1 - c/36%3)) _ _ _ _ _ (by walk_at "same") (by walk_at "hlk") ⟨_,rfl,by show _=some (HO.tup [V.str (Str.ofString "call"),V.int _]);walk_at "hlk"⟩ (.inr (.inl ⟨_,rfl⟩))
       | false =>
         walk_at "rd";exact fin us H2 sD tds (by omega) _ (.add (c/9%4) (c/36%8) (c/9%4)) _ _ _ _ _ (by walk_at "same") (by walk_at "hlk") ⟨_,rfl,by show _=some (HO.tup [V.str (Str.ofString "add"),V.int _,V.int _,V.int _]);walk_at "hlk"⟩ (.inl ⟨by simp only [Rw.ok,aU,isVal,aM,bb];omega,True.intro⟩)
     · walk_at "rd";rw [hk];walk_at "rd";refine eB (aA.of ae) rfl rfl ?_;rw [show fE (V.int 6) [V.int 4,V.int 5]=false from by decide +kernel];walk_at "rd";refine cS (fun hh=>?_) (fun hh=>?_)
       · walk_at "rd";refine mZ (ok:=jd) ae (ba.cons (r:=.put (c/9%4) (sp)) ⟨_,rfl,by show _=some (HO.tup [V.str (Str.ofString "put"),V.int _,V.int _]);walk_at "hlk"⟩ ⟨by simp only [Rw.ok,aU,isVal,aM,bb];omega,True.intro⟩ (ba.cons (r:=.get (c/9%4) (sp)) ⟨_,rfl,by show _=some (HO.tup [V.str (Str.ofString "get"),V.int _,V.int _]);walk_at "hlk"⟩ ⟨by simp only [Rw.ok,aU,isVal,aM,bb];omega,True.intro⟩ ba.nil)) (by omega) (by show _<((2:Nat):Int);omega) fun u r hu ho=>?_;walk_at "rd";exact fin us H2 sD tds (by omega) u r _ _ _ _ _ (by walk_at "same") (by walk_at "hlk") hu (.inl ho)
       · walk_at "rd";exact fin us H2 sD tds (by omega) _ (.set (c/9%4) (c/36%4)) _ _ _ _ _ (by walk_at "same") (by walk_at "hlk") ⟨_,rfl,by show _=some (HO.tup [V.str (Str.ofString "set"),V.int _,V.int _]);walk_at "hlk"⟩ (.inl ⟨by simp only [Rw.ok,aU,isVal,aM,bb];omega,True.intro⟩)
     · walk_at "rd";rw [hk];walk_at "rd";refine eB (aA.of ae) rfl rfl ?_;rw [show fE (V.int 7) [V.int 4,V.int 5]=false from by decide +kernel];walk_at "rd";repeat (rename @Eq Bool _ _=>hzz;clear hzz)
       rename_i l45 n45 t0 n0 ta na tb nb ll nll;have sX:au H2 (upd (upd (upd H2 lk (.lst (zs.map V.int))) l45 (.lst [.int 4,.int 5])) t0 (.tup [.str "branch",.int (c/9%4),.int (at_+us.length+2)])):=((ah nlk).trans (ah n45)).trans (ah n0);exact fin (us++[.ref t0]) (upd (upd (upd (upd H2 lk (.lst (zs.map V.int))) l45 (.lst [.int 4,.int 5])) t0 (.tup [.str "branch",.int (c/9%4),.int (at_+us.length+2)])) lr (.lst (us++[.ref t0]))) (bz (sD.trans sX) nlr) (((tds.same sX).app (ba.one (r:=.branch (c/9%4) (at_+us.length+2)) ⟨_,rfl,ae⟩ (.inl ⟨by simp only [Rw.ok,aU,isVal,aM,bb];omega,True.intro⟩))).off (sX _ _ hlr)) (by rw [List.length_append,List.length_singleton];omega) (.ref ta) (.set (c/9%4) 3) (upd (upd (upd (upd (upd (upd (upd H2 lk (.lst (zs.map V.int))) l45 (.lst [.int 4,.int 5])) t0 (.tup [.str "branch",.int (c/9%4),.int (at_+us.length+2)])) lr (.lst (us++[.ref t0]))) ta (.tup [.str "set",.int (c/9%4),.int 3])) tb (.tup [.str "drop",.int (c/9%4)])) ll (.lst [.ref ta,.ref tb])) _ _ _ _ (by exact ((ah na).trans (ah nb)).trans (ah nll)) (by exact ay (ay (ay ae na) nb) nll) ⟨_,rfl,by exact ay (ay ae nb) nll⟩ (.inl ⟨by simp only [Rw.ok,aU,isVal,aM,bb];omega,True.intro⟩)
     · walk_at "rd";rw [hk];walk_at "rd";refine eB (aA.of ae) rfl rfl ?_;rw [show fE (V.int 8) [V.int 4,V.int 5]=false from by decide +kernel];walk_at "rd";repeat (rename @Eq Bool _ _=>hzz;clear hzz)
       rename_i l45 n45 t0 n0 ta na tb nb ll nll;have sX:au H2 (upd (upd (upd H2 lk (.lst (zs.map V.int))) l45 (.lst [.int 4,.int 5])) t0 (.tup [.str "branch",.int (c/9%4),.int (at_+us.length+2)])):=((ah nlk).trans (ah n45)).trans (ah n0);exact fin (us++[.ref t0]) (upd (upd (upd (upd H2 lk (.lst (zs.map V.int))) l45 (.lst [.int 4,.int 5])) t0 (.tup [.str "branch",.int (c/9%4),.int (at_+us.length+2)])) lr (.lst (us++[.ref t0]))) (bz (sD.trans sX) nlr) (((tds.same sX).app (ba.one (r:=.branch (c/9%4) (at_+us.length+2)) ⟨_,rfl,ae⟩ (.inl ⟨by simp only [Rw.ok,aU,isVal,aM,bb];omega,True.intro⟩))).off (sX _ _ hlr)) (by rw [List.length_append,List.length_singleton];omega) (.ref tb) (.drop (c/9%4)) (upd (upd (upd (upd (upd (upd (upd H2 lk (.lst (zs.map V.int))) l45 (.lst [.int 4,.int 5])) t0 (.tup [.str "branch",.int (c/9%4),.int (at_+us.length+2)])) lr (.lst (us++[.ref t0]))) ta (.tup [.str "set",.int (c/9%4),.int 3])) tb (.tup [.str "drop",.int (c/9%4)])) ll (.lst [.ref ta,.ref tb])) _ _ _ _ (by exact ((ah na).trans (ah nb)).trans (ah nll)) (by exact ay (ay (ay ae na) nb) nll) ⟨_,rfl,by exact ay ae nll⟩ (.inl ⟨by simp only [Rw.ok,aU,isVal,aM,bb];omega,True.intro⟩)
   · rintro σ HD ⟨us, v5, v6, v7, v8, rfl, sD, hlr, hul, tds⟩;rw [List.length_map] at hul;walk_at "rd";exact q lr us HD sD hlr hul tds
theorem rj (T:Txt K mg a):cG P w K mg base be 1 "_law_any_row" pP:=by
 refine bJ (sp:=pP) 0 T.qD fC (fun vs H Q E h=>?_) (fun f cdv A outer s H vs Q E hr h=>?_)
 · obtain ⟨c, m, rfl, _⟩ := h;rfl
 · obtain ⟨c, m, rfl, m1, m2, q⟩ := h;have tm0:=Int.emod_nonneg (c/104) (show m≠0 by omega);have tm1:=Int.emod_lt_of_pos (c/104) (show 0<m by omega);refine' ⟨_,?fz,?_⟩;(case fz=>(refine' aj ?I_ ?Qq;(case Qq=>(refine' aj ?Nl ?OL;(case OL=>(refine' aj ?Pq ?QD;(case QD=>(refine' aj ?Hw ?N2;(case N2=>(refine' aj ?L9 ?OI;(case OI=>(refine' aj ?Rf ?QA;(case QA=>(refine' aj ?S4 ?Iv;(case Iv=>(refine' aj ?P1 ?LD;(case LD=>(refine' ak ?Qi;(case Qi=>(refine' az ?SS;(case SS=>(refine' aV ?Ka;(case Ka=>(refine' aa ?Rk ?Ke ?NZ;(case NZ=>rfl);(case Rk=>exact (aD (aJ (K:=K) rfl) (aW (aa aK (aa aK ag))) (ar d6 (pv 2) ai) (fun _ _=>rfl)));(case Ke=>(refine' aa ?Iu ?Jo ?Ko;(case Ko=>rfl);(case Iu=>exact (aD (aJ (K:=K) rfl) (aW (aa (pv 3) (aa ai ag))) (ar gJ (ar aN (pv 4) ai) (ar d6 ai (pv 2))) (fun _ _=>rfl)));(case Jo=>exact ag)))))))))));(case P1=>(refine' aS ?Q8 ?L_ ?Jb;(case Q8=>exact (aB (cp (K:=K) rfl hr.units) (pv 2) ai (aF _)));(case L_=>(refine' ak ?Jp;(case Jp=>(refine' az ?RW;(case RW=>(refine' aV ?Qu;(case Qu=>(refine' aa ?Md ?LZ ?Q0;(case Q0=>rfl);(case Md=>exact aK);(case LZ=>(refine' aa ?IB ?Pm ?SM;(case SM=>rfl);(case IB=>exact (pv 3));(case Pm=>(refine' aa ?Lp ?Hy ?QR;(case QR=>rfl);(case Lp=>exact (ar aN (pv 4) (pv 1)));(case Hy=>exact ag)))))))))))));(case Jb=>exact aH)))));(case S4=>(refine' aS ?JK ?Q3 ?KI;(case JK=>exact (aB gU (pv 2) ai (aF _)));(case Q3=>(refine' ak ?Qz;(case Qz=>(refine' az ?KL;(case KL=>(refine' aV ?O1;(case O1=>(refine' aa ?NA ?Lm ?Nh;(case Nh=>rfl);(case NA=>exact (aD (aJ (K:=K) rfl) (aW (aa aK (aa aK ag))) (ar d6 (pv 2) ai) (fun _ _=>rfl)));(case Lm=>(refine' aa ?IJ ?Oh ?MI;(case MI=>rfl);(case IJ=>exact (ar aN (pv 4) (pv 1)));(case Oh=>exact ag)))))))))));(case KI=>exact aH)))));(case Rf=>(refine' aS ?L4 ?R7 ?L1;(case L4=>exact (aB gU (pv 2) ai (aF _)));(case R7=>(refine' ak ?O3;(case O3=>(refine' az ?Qo;(case Qo=>(refine' aV ?H_;(case H_=>(refine' aa ?Lu ?Ob ?N7;(case N7=>rfl);(case Lu=>exact (aD (aJ (K:=K) rfl) (aW (aa aK (aa aK (aa aK ag)))) (ar d6 (pv 2) ai) (fun _ _=>rfl)));(case Ob=>(refine' aa ?N0 ?P0 ?Kd;(case Kd=>rfl);(case N0=>exact (pv 3));(case P0=>(refine' aa ?IA ?Jt ?OV;(case OV=>rfl);(case IA=>exact (ar aN (pv 4) ai));(case Jt=>exact ag)))))))))))));(case L1=>exact aH)))));(case L9=>(refine' aS ?K8 ?M8 ?LF;(case K8=>exact (aB gU (pv 2) ai (aF _)));(case M8=>(refine' ak ?Hn;(case Hn=>(refine' az ?JX;(case JX=>(refine' aV ?Qm;(case Qm=>(refine' aa ?MY ?Kh ?Hs;(case Hs=>rfl);(case MY=>exact (aD (aJ (K:=K) rfl) (aW (aa aK (aa aK ag))) (ar d6 (pv 2) ai) (fun _ _=>rfl)));(case Kh=>(refine' aa ?JB ?HJ ?M5;(case M5=>rfl);(case JB=>exact (ar aN (pv 4) ai));(case HJ=>exact ag)))))))))));(case LF=>exact aH)))));(case Hw=>(refine' aS ?Mt ?RB ?QQ;(case Mt=>exact (aB gU (pv 2) ai (aF _)));(case RB=>(refine' ak ?Sq;(case Sq=>(refine' az ?Sd;(case Sd=>exact (aD (aJ (K:=K) rfl) (aW (aa (aV (aa aK (aa (pv 3) (aa (ar aN (pv 4) ai) ag)))) (aa (aV (aa aK (aa (pv 3) (aa (ar aN (pv 4) ai) ag)))) (aa (aV (aa aK (aa (pv 3) (aa (ar aN (pv 4) ai) (aa (ar aN (ar a9 (pv 4) ai) ai) ag))))) ag)))) (pv 2) (fun _ _=>rfl)))))));(case QQ=>exact aH)))));(case Pq=>exact (aI (i:=4) fC.nd rfl (Or.inl rfl) (ar a9 (pv 0) ai)))));(case Nl=>exact (aI (i:=3) fC.nd rfl (Or.inl rfl) (ar aN (ar a9 (pv 0) ai) ai)))));(case I_=>exact (aI (i:=2) fC.nd rfl (Or.inl rfl) (ar aN (pv 0) ai)))))
   refine aX (σ':=[some _,some _,none,none,none]) rfl ?_;walk_at "rd";refine cS (fun hh=>?_) (fun hh=>?_)
   · walk_at "rd";refine mZ (ok:=jd) ae (ba.cons (r:=.set (c/13%8) (c/104%4294967296)) ⟨_,rfl,by show _=some (HO.tup [V.str (Str.ofString "set"),V.int _,V.int _]);walk_at "hlk"⟩ ⟨by simp only [Rw.ok,aU,isVal,aM,bb];omega,True.intro⟩ (ba.cons (r:=.copy (c/13%8) (c/104%8)) ⟨_,rfl,by show _=some (HO.tup [V.str (Str.ofString "copy"),V.int _,V.int _]);walk_at "hlk"⟩ ⟨by simp only [Rw.ok,aU,isVal,aM,bb];omega,True.intro⟩ (ba.cons (r:=.add (c/13%8) (c/104%8) (c/104/8%8)) ⟨_,rfl,by show _=some (HO.tup [V.str (Str.ofString "add"),V.int _,V.int _,V.int _]);walk_at "hlk"⟩ ⟨by simp only [Rw.ok,aU,isVal,aM,bb];omega,True.intro⟩ ba.nil))) (by omega) (by show _<((3:Nat):Int);omega) fun u r hu ho=>?_;exact q u r _ (by walk_at "same") hu ho
   walk_at "rd";refine cS (fun hh2=>?_) (fun hh2=>?_)
   · walk_at "rd";rcases (show c%13 - 3=0∨c%13 - 3=1 by omega) with hx | hx <;> rw [hx]
     · refine c6 (aA.of ae) (v := .str "grow") rfl ?_;walk_at "rd";exact q _ (.grow (c/104%5)) _ (by walk_at "same") ⟨_,rfl,by show _=some (HO.tup [V.str (Str.ofString "grow"),V.int _]);walk_at "hlk"⟩ ⟨by simp only [Rw.ok,aU,isVal,aM,bb];omega,True.intro⟩
     · refine c6 (aA.of ae) (v := .str "shrink") rfl ?_;walk_at "rd";exact q _ (.shrink (c/104%5)) _ (by walk_at "same") ⟨_,rfl,by show _=some (HO.tup [V.str (Str.ofString "shrink"),V.int _]);walk_at "hlk"⟩ ⟨by simp only [Rw.ok,aU,isVal,aM,bb];omega,True.intro⟩
   walk_at "rd";refine cS (fun hh3=>?_) (fun hh3=>?_)
   · walk_at "rd";rcases (show c%13 - 5=0∨c%13 - 5=1∨c%13 - 5=2 by omega) with hx | hx | hx <;> rw [hx]
     · refine c6 (aA.of ae) (v := .str "put") rfl ?_;walk_at "rd";exact q _ (.put (c/13%8) (c/104%5)) _ (by walk_at "same") ⟨_,rfl,by show _=some (HO.tup [V.str (Str.ofString "put"),V.int _,V.int _]);walk_at "hlk"⟩ ⟨by simp only [Rw.ok,aU,isVal,aM,bb];omega,True.intro⟩
     · refine c6 (aA.of ae) (v := .str "get") rfl ?_;walk_at "rd";exact q _ (.get (c/13%8) (c/104%5)) _ (by walk_at "same") ⟨_,rfl,by show _=some (HO.tup [V.str (Str.ofString "get"),V.int _,V.int _]);walk_at "hlk"⟩ ⟨by simp only [Rw.ok,aU,isVal,aM,bb];omega,True.intro⟩
     · refine c6 (aA.of ae) (v := .str "put") rfl ?_;walk_at "rd";exact q _ (.put (c/13%8) (c/104%5)) _ (by walk_at "same") ⟨_,rfl,by show _=some (HO.tup [V.str (Str.ofString "put"),V.int _,V.int _]);walk_at "hlk"⟩ ⟨by simp only [Rw.ok,aU,isVal,aM,bb];omega,True.intro⟩
   walk_at "rd";refine cS (fun hh4=>?_) (fun hh4=>?_)
   · walk_at "rd";rcases (show c%13 - 8=0∨c%13 - 8=1 by omega) with hx | hx <;> rw [hx]
     · refine c6 (aA.of ae) (v := .str "jump") rfl ?_;walk_at "rd";exact q _ (.dD (c/104%m)) _ (by walk_at "same") ⟨_,rfl,by show _=some (HO.tup [V.str (Str.ofString "jump"),V.int _]);walk_at "hlk"⟩ ⟨by simp only [Rw.ok,aU,isVal,aM,bb];omega,True.intro⟩
     · refine c6 (aA.of ae) (v := .str "call") rfl ?_;walk_at "rd";exact q _ (.call (c/104%m)) _ (by walk_at "same") ⟨_,rfl,by show _=some (HO.tup [V.str (Str.ofString "call"),V.int _]);walk_at "hlk"⟩ ⟨by simp only [Rw.ok,aU,isVal,aM,bb];omega,True.intro⟩
   walk_at "rd";refine fA (fun hh5=>?_) (fun hh5=>?_)
   · walk_at "rd";exact q _ (.branch (c/13%8) (c/104%m)) _ (by walk_at "same") ⟨_,rfl,by show _=some (HO.tup [V.str (Str.ofString "branch"),V.int _,V.int _]);walk_at "hlk"⟩ ⟨by simp only [Rw.ok,aU,isVal,aM,bb];omega,True.intro⟩
   walk_at "rd";rcases (show c%13 - 11=0∨c%13 - 11=1 by omega) with hx | hx <;> rw [hx]
   · refine c6 (aA.of ae) (v := .str "back") rfl ?_;walk_at "rd";rw [show 12 - c%13=1 by omega,Int.mul_one];rcases (show c/104%2=0∨c/104%2=1 by omega) with hy | hy <;> rw [hy]
     · refine c6 (aA.of ae) (v := .int _) rfl ?_;walk_at "rd";exact q _ (.back (c/13%8)) _ (by walk_at "same") ⟨_,rfl,by show _=some (HO.tup [V.str (Str.ofString "back"),V.int _]);walk_at "hlk"⟩ ⟨by simp only [Rw.ok,aU,isVal,aM,bb];omega,True.intro⟩
     · refine c6 (aA.of ae) (v := .int 7) rfl ?_;walk_at "rd";exact q _ (.back (7)) _ (by walk_at "same") ⟨_,rfl,by show _=some (HO.tup [V.str (Str.ofString "back"),V.int _]);walk_at "hlk"⟩ ⟨by simp only [Rw.ok,aU,isVal,aM,bb];omega,True.intro⟩
   · refine c6 (aA.of ae) (v := .str "drop") rfl ?_;walk_at "rd";rw [show 12 - c%13=0 by omega,Int.mul_zero];refine c6 (aA.of ae) (v:=.int _) rfl ?_;walk_at "rd";exact q _ (.drop (c/13%8)) _ (by walk_at "same") ⟨_,rfl,by show _=some (HO.tup [V.str (Str.ofString "drop"),V.int _]);walk_at "hlk"⟩ ⟨by simp only [Rw.ok,aU,isVal,aM,bb];omega,True.intro⟩
theorem o9 (T:Txt K mg a):cG P w K mg base be 1 "_law_any_entry" (A0 K):=by
 refine bJ (sp:=(A0 K)) 0 T.oX dR (fun vs H Q E h=>?_) (fun f cdv A outer s H vs Q E hr h=>?_)
 · obtain ⟨c, rfl, _⟩ := h;rfl
 · obtain ⟨c, rfl, q⟩ := h
   refine ⟨_, (aj (aS (aB (cp (K := K) rfl hr.units) (ar aN (pv 0) ai) ai (aF _)) (ak (az bB)) aH)
     (aj (aI (i:=1) dR.nd rfl (Or.inl rfl) (ar aN (ar a9 (pv 0) ai) ai))
     (aj (aI (i:=2) dR.nd rfl (Or.inl rfl) (ar iG ai (ar (aT (K:=K) rfl) ai (pv 1))))
     (aj (aI (i:=3) dR.nd rfl (Or.inl rfl) (ar a9 (pv 0) ai))
     (aj (aI (i:=4) dR.nd rfl (Or.inl rfl) (aV (aa (ar aN (ar a9 (pv 3) (pv 2)) (pv 2)) (aa (ar aN (ar a9 (ar a9 (pv 3) (pv 2)) (pv 2)) (pv 2)) (aa (ar aN (ar a9 (ar a9 (ar a9 (pv 3) (pv 2)) (pv 2)) (pv 2)) (pv 2)) ag)))))
     (ak (az (aV (aa (pv 1) (aa (ar aN (pv 3) (pv 2)) (aa (pv 4) ag))))))))))),?_⟩
   refine aX (σ':=[some _,none,none,none,none]) rfl ?_;walk_at "rd";refine fA (fun hh=>?_) (fun hh=>?_)
   · walk_at "rd";exact q _ none _ (au.refl _) rfl (fun e z=>by cases z)
   have hh0 : 0≤c/8%6∧c/8%6≤5:=⟨by omega,by omega⟩
   walk_at "rd";refine ⟨_,_,rfl,rfl,⟨by omega,by omega,1,by decide,by decide⟩,?_⟩;show c8 2 (V.int (1*2 ^ (8+c/8%6).toNat)) _ H _;obtain ⟨m,em,m0,m1⟩:∃ m:Int,1*(2:Int) ^ (8+c/8%6).toNat=m∧0<m∧m<1073741824:=by
     rcases (show c/8%6=0∨c/8%6=1∨c/8%6=2∨c/8%6=3∨c/8%6=4∨c/8%6=5 by omega) with z | z | z | z | z | z <;> rw [z] <;> exact ⟨_,rfl,by decide,by decide⟩
   rw [em];have md:∀ x:Int,0≤x%m:=fun x=>Int.emod_nonneg _ (by omega);have cd:∀ x:Int,qM x m:=fun x=>⟨m0,m1⟩;walk_at "rd";repeat (refine ⟨_,_,rfl,rfl,cd _,?_⟩;walk_at "rd")
   rename_i t1 n1 t2 n2;exact q _ (some ⟨c/8%6,c/48%m,c/48/m%m,c/48/m/m%m,c/48/m/m/m%m⟩) _ ((ah n1).trans (ah n2)) ⟨t2,rfl,t1,aZ.of ae,aZ.of (ay ae n2)⟩ (fun e z=>by cases z;exact ⟨⟨md _,md _,md _,md _⟩,hh0.1,by show c/8%6≤4000;omega⟩)
theorem pf (T:Txt K mg a):cG P w K mg base be 1 "_law_other_row" pP:=by
 refine bJ (sp:=pP) 0 T.oC c_ (fun vs H Q E h=>?_) (fun f cdv A outer s H vs Q E hr h=>?_)
 · obtain ⟨c, m, rfl, _⟩ := h;rfl
 · obtain ⟨c, m, rfl, m1, m2, q⟩ := h;have tm0:=Int.emod_nonneg (c/104) (show m≠0 by omega);have tm1:=Int.emod_lt_of_pos (c/104) (show 0<m by omega);refine' ⟨_,?fz,?_⟩;(case fz=>(refine' aj ?Pr ?RN;(case RN=>(refine' aj ?PL ?LS;(case LS=>(refine' aj ?QP ?SU;(case SU=>(refine' aj ?Ku ?SK;(case SK=>(refine' aj ?MK ?OC;(case OC=>exact (ak (az (aD (aJ (K:=K) rfl) (pv 3) (ar aN (pv 0) ai) (fun _ _=>rfl)))));(case MK=>(refine' aI (i:=3) ?Pp ?JL ?OJ ?Sm ?QJ ?LX;(case Pp=>exact c_.nd);(case JL=>rfl);(case OJ=>exact (Or.inl rfl));(case QJ=>rfl);(case LX=>exact .inl rfl);(case Sm=>(refine' ar (aT (K:=K) rfl) ?MQ ?K4;(case MQ=>exact (pv 3));(case K4=>(refine' aW ?Ow;(case Ow=>(refine' aa ?RK ?NO ?Mo;(case Mo=>rfl);(case RK=>(refine' aV ?JE;(case JE=>(refine' aa ?JP ?Qp ?Pa;(case Pa=>rfl);(case JP=>exact aK);(case Qp=>(refine' aa ?OM ?Sk ?Lz;(case Lz=>rfl);(case OM=>exact (ar aN (ar a9 (pv 0) ai) ai));(case Sk=>exact ag)))))));(case NO=>(refine' aa ?N1 ?Nd ?RG;(case RG=>rfl);(case N1=>(refine' aV ?PQ;(case PQ=>(refine' aa ?ID ?Pf ?N8;(case N8=>rfl);(case ID=>exact aK);(case Pf=>(refine' aa ?OT ?K3 ?RI;(case RI=>rfl);(case OT=>exact (pv 2));(case K3=>exact ag)))))));(case Nd=>(refine' aa ?Ky ?M3 ?NU;(case NU=>rfl);(case Ky=>(refine' aV ?M2;(case M2=>(refine' aa ?Kx ?LU ?MG;(case MG=>rfl);(case Kx=>exact aK);(case LU=>(refine' aa ?Qr ?OP ?Ri;(case Ri=>rfl);(case Qr=>exact (ar (aT (K:=K) rfl) ai (ar aN (pv 2) ai)));(case OP=>(refine' aa ?O7 ?OX ?K5;(case K5=>rfl);(case O7=>exact ai);(case OX=>exact ag)))))))));(case M3=>(refine' aa ?Hr ?Kw ?NH;(case NH=>rfl);(case Hr=>(refine' aV ?N9;(case N9=>(refine' aa ?LY ?MU ?QK;(case QK=>rfl);(case LY=>exact aK);(case MU=>(refine' aa ?NJ ?NF ?KR;(case KR=>rfl);(case NJ=>exact (ar aN (pv 2) ai));(case NF=>(refine' aa ?O0 ?Jl ?Iq;(case Iq=>rfl);(case O0=>exact ai);(case Jl=>exact ag)))))))));(case Kw=>exact ag)))))))))))))))));(case Ku=>(refine' aI (i:=3) ?M1 ?JA ?Oa ?K1 ?Jq ?K7;(case M1=>exact c_.nd);(case JA=>rfl);(case Oa=>exact (Or.inl rfl));(case Jq=>rfl);(case K7=>exact .inl rfl);(case K1=>(refine' ar (aT (K:=K) rfl) ?MW ?IK;(case MW=>exact (pv 3));(case IK=>(refine' aW ?PN;(case PN=>(refine' aa ?Py ?N3 ?MZ;(case MZ=>rfl);(case Py=>(refine' aV ?Jz;(case Jz=>(refine' aa ?Mv ?RT ?Kr;(case Kr=>rfl);(case Mv=>exact aK);(case RT=>(refine' aa ?Jw ?Q1 ?QH;(case QH=>rfl);(case Jw=>exact (pv 2));(case Q1=>(refine' aa ?M4 ?Nf ?KZ;(case KZ=>rfl);(case M4=>exact (ar aN (ar a9 (pv 0) ai) (pv 1)));(case Nf=>exact ag)))))))));(case N3=>(refine' aa ?O8 ?Mc ?IG;(case IG=>rfl);(case O8=>(refine' aV ?QV;(case QV=>(refine' aa ?Jf ?So ?N4;(case N4=>rfl);(case Jf=>exact aK);(case So=>(refine' aa ?Mp ?MN ?JM;(case JM=>rfl);(case Mp=>exact (ar aN (ar a9 (pv 0) ai) (pv 1)));(case MN=>exact ag)))))));(case Mc=>(refine' aa ?JD ?Pc ?OR;(case OR=>rfl);(case JD=>(refine' aV ?Nx;(case Nx=>(refine' aa ?Mq ?Ho ?Ny;(case Ny=>rfl);(case Mq=>exact aK);(case Ho=>(refine' aa ?QE ?Pk ?LM;(case LM=>rfl);(case QE=>exact (pv 2));(case Pk=>exact ag)))))));(case Pc=>exact ag)))))))))))))));(case QP=>(refine' aI (i:=3) ?QB ?Mh ?LW ?Qc ?Rx ?Oq;(case QB=>exact c_.nd);(case Mh=>rfl);(case LW=>exact (Or.inl rfl));(case Rx=>rfl);(case Oq=>exact .inl rfl);(case Qc=>(refine' ar (aT (K:=K) rfl) ?OS ?Oj;(case OS=>exact (pv 3));(case Oj=>(refine' aW ?Lv;(case Lv=>(refine' aa ?Je ?JO ?Px;(case Px=>rfl);(case Je=>(refine' aV ?O6;(case O6=>(refine' aa ?Ia ?Ih ?KN;(case KN=>rfl);(case Ia=>exact aK);(case Ih=>(refine' aa ?MX ?RZ ?M9;(case M9=>rfl);(case MX=>exact (pv 2));(case RZ=>(refine' aa ?Jx ?P_ ?Sl;(case Sl=>rfl);(case Jx=>exact (ar aN (ar a9 (pv 0) ai) ai));(case P_=>exact ag)))))))));(case JO=>(refine' aa ?Kj ?RO ?Mw;(case Mw=>rfl);(case Kj=>(refine' aV ?JR;(case JR=>(refine' aa ?IC ?SE ?Np;(case Np=>rfl);(case IC=>exact aK);(case SE=>(refine' aa ?Kb ?LO ?Oy;(case Oy=>rfl);(case Kb=>exact (pv 2));(case LO=>(refine' aa ?NG ?Se ?Mj;(case Mj=>rfl);(case NG=>exact (ar aN (ar a9 (pv 0) ai) ai));(case Se=>exact ag)))))))));(case RO=>(refine' aa ?NP ?LN ?Of;(case Of=>rfl);(case NP=>(refine' aV ?Om;(case Om=>(refine' aa ?Ln ?My ?LJ;(case LJ=>rfl);(case Ln=>exact aK);(case My=>(refine' aa ?Ju ?Og ?LP;(case LP=>rfl);(case Ju=>exact (ar aN (ar a9 (pv 0) ai) (pv 1)));(case Og=>exact ag)))))));(case LN=>exact ag)))))))))))))));(case PL=>(refine' aI (i:=3) ?RE ?QL ?Ll ?NL ?NW ?P8;(case RE=>exact c_.nd);(case QL=>rfl);(case Ll=>exact (Or.inl rfl));(case NW=>rfl);(case P8=>exact .inl rfl);(case NL=>(refine' aW ?PJ;(case PJ=>(refine' aa ?HU ?Mi ?Qf;(case Qf=>rfl);(case HU=>(refine' aV ?Su;(case Su=>(refine' aa ?IM ?Sz ?Hv;(case Hv=>rfl);(case IM=>exact aK);(case Sz=>(refine' aa ?Q7 ?QZ ?OQ;(case OQ=>rfl);(case Q7=>exact (pv 2));(case QZ=>(refine' aa ?Nz ?IZ ?MA;(case MA=>rfl);(case Nz=>exact (ar aN (ar a9 (pv 0) ai) ai));(case IZ=>exact ag)))))))));(case Mi=>(refine' aa ?J0 ?PY ?Rp;(case Rp=>rfl);(case J0=>(refine' aV ?Sh;(case Sh=>(refine' aa ?LI ?Ro ?Jg;(case Jg=>rfl);(case LI=>exact aK);(case Ro=>(refine' aa ?Pe ?PD ?MO;(case MO=>rfl);(case Pe=>exact (pv 2));(case PD=>(refine' aa ?Ik ?PH ?Ph;(case Ph=>rfl);(case Ik=>exact (ar aN (ar a9 (pv 0) ai) ai));(case PH=>exact ag)))))))));(case PY=>(refine' aa ?SR ?HK ?MV;(case MV=>rfl);(case SR=>(refine' aV ?Lj;(case Lj=>(refine' aa ?Kq ?HW ?MC;(case MC=>rfl);(case Kq=>exact aK);(case HW=>(refine' aa ?Qn ?LA ?Lk;(case Lk=>rfl);(case Qn=>exact (ar aN (ar a9 (pv 0) ai) ai));(case LA=>exact ag)))))));(case HK=>exact ag)))))))))))));(case Pr=>exact (aI (i:=2) c_.nd rfl (Or.inl rfl) (ar aN (ar a9 (pv 0) ai) ai)))))
   refine aX (σ':=[some _,some _,none,none]) rfl ?_;walk_at "rd";refine mZ (ok:=jd) ae (ba.app (ba.app (ba.app (ba.cons (r:=.set (c/13%8) (c/104%9)) ⟨_,rfl,by show _=some (HO.tup [V.str (Str.ofString "set"),V.int _,V.int _]);walk_at "hlk"⟩ ⟨by simp only [Rw.ok,aU,isVal,aM,bb];omega,True.intro⟩ (ba.cons (r:=.copy (c/13%8) (c/104%8)) ⟨_,rfl,by show _=some (HO.tup [V.str (Str.ofString "copy"),V.int _,V.int _]);walk_at "hlk"⟩ ⟨by simp only [Rw.ok,aU,isVal,aM,bb];omega,True.intro⟩ (ba.cons (r:=.grow (c/104%3)) ⟨_,rfl,by show _=some (HO.tup [V.str (Str.ofString "grow"),V.int _]);walk_at "hlk"⟩ ⟨by simp only [Rw.ok,aU,isVal,aM,bb];omega,True.intro⟩ ba.nil))) (ba.cons (r:=.put (c/13%8) (c/104%4)) ⟨_,rfl,by show _=some (HO.tup [V.str (Str.ofString "put"),V.int _,V.int _]);walk_at "hlk"⟩ ⟨by simp only [Rw.ok,aU,isVal,aM,bb];omega,True.intro⟩ (ba.cons (r:=.get (c/13%8) (c/104%4)) ⟨_,rfl,by show _=some (HO.tup [V.str (Str.ofString "get"),V.int _,V.int _]);walk_at "hlk"⟩ ⟨by simp only [Rw.ok,aU,isVal,aM,bb];omega,True.intro⟩ (ba.cons (r:=.dD (c/104%m)) ⟨_,rfl,by show _=some (HO.tup [V.str (Str.ofString "jump"),V.int _]);walk_at "hlk"⟩ ⟨by simp only [Rw.ok,aU,isVal,aM,bb];omega,True.intro⟩ ba.nil)))) (ba.cons (r:=.branch (c/13%8) (c/104%m)) ⟨_,rfl,by show _=some (HO.tup [V.str (Str.ofString "branch"),V.int _,V.int _]);walk_at "hlk"⟩ ⟨by simp only [Rw.ok,aU,isVal,aM,bb];omega,True.intro⟩ (ba.cons (r:=.call (c/104%m)) ⟨_,rfl,by show _=some (HO.tup [V.str (Str.ofString "call"),V.int _]);walk_at "hlk"⟩ ⟨by simp only [Rw.ok,aU,isVal,aM,bb];omega,True.intro⟩ (ba.cons (r:=.back (c/13%8)) ⟨_,rfl,by show _=some (HO.tup [V.str (Str.ofString "back"),V.int _]);walk_at "hlk"⟩ ⟨by simp only [Rw.ok,aU,isVal,aM,bb];omega,True.intro⟩ ba.nil)))) (ba.cons (r:=.shrink (c/104%3)) ⟨_,rfl,by show _=some (HO.tup [V.str (Str.ofString "shrink"),V.int _]);walk_at "hlk"⟩ ⟨by simp only [Rw.ok,aU,isVal,aM,bb];omega,True.intro⟩ (ba.cons (r:=.drop (c/13%8)) ⟨_,rfl,by show _=some (HO.tup [V.str (Str.ofString "drop"),V.int _]);walk_at "hlk"⟩ ⟨by simp only [Rw.ok,aU,isVal,aM,bb];omega,True.intro⟩ (ba.cons (r:=.set (4+c/13%8%4) (1)) ⟨_,rfl,by show _=some (HO.tup [V.str (Str.ofString "set"),V.int _,V.int _]);walk_at "hlk"⟩ ⟨by simp only [Rw.ok,aU,isVal,aM,bb];omega,True.intro⟩ (ba.cons (r:=.copy (c/13%8%4) (7)) ⟨_,rfl,by show _=some (HO.tup [V.str (Str.ofString "copy"),V.int _,V.int _]);walk_at "hlk"⟩ ⟨by simp only [Rw.ok,aU,isVal,aM,bb];omega,True.intro⟩ ba.nil))))) (by omega) (by show c%13<13;omega) fun u r h1 h2=>q u r _ (by walk_at "same") h1 h2
theorem qp {x:Int} {m:Nat} (h : 0≤x) : 0≤Builtin.bitXor x (m:Int):=by
 obtain ⟨n,rfl⟩:=Int.eq_ofNat_of_zero_le h;show 0≤Builtin.bitOr (n:Int) (m:Int) - Builtin.bitAnd (n:Int) (m:Int);rw [lX,gw];have h1:n &&& m≤n:=Nat.and_le_left;have h2:n≤n ||| m:=Nat.left_le_or;omega
theorem mW {p:Addr} {xs ys:List V} {k:Int} {j:Nat} {v:V} {H:Hp} {Q:Hp→Prop} (h:H p=some (.lst xs)) (e:j_ xs.length k=some j) (e2:xs.set j v=ys) (q:Q (upd H p (.lst ys))):ql (.ref p) (.int k) v H Q:=iS h e (by rw [e2];exact q)
theorem pJ {j:Int} {H:Hp} {Q:VK} (h:uA 1 j) (q:∀ m:Nat,Q (.int (m:Int)) H):rI uA (fun i j=>.int (i*2 ^ j.toNat)) (.int 1) (.int j) H Q:=⟨_,_,rfl,rfl,h,by show Q (V.int (1*2 ^ j.toNat)) H;rw [mP];exact q _⟩
theorem rZ (T:Txt K mg a):cG P w K mg base be 1 "_law_turned" (pW K):=by
 refine bJ (sp:=(pW K)) 0 T.sq dB (fun vs H Q E h=>?_) (fun f cdv A outer s H vs Q E hr h=>?_)
 · obtain ⟨l, c, ev, es, rfl, _⟩ := h;rfl
 · obtain ⟨l, c, ev, es, rfl, hl, hev, h1, h2, hE, q⟩ := h;have hel:=hev.1;have pick:∀ x:Int,∃ (u:V) (oe:Option Ent),dz ev (x%(ev.length:Int))=some u∧gz K H u oe∧pM oe:=fun x=>by
     rw [hel];have z0:=Int.emod_nonneg x (show (es.length:Int)≠0 by omega);have z1:=Int.emod_lt_of_pos x (show 0<(es.length:Int) by omega);obtain ⟨j,hj⟩:∃ j:Nat,x%(es.length:Int)=(j:Int):=⟨(x%(es.length:Int)).toNat,by omega⟩
     have hlt:j<es.length:=by omega
     obtain ⟨v,e1,e2⟩:=hev.2 j es[j] (List.getElem?_eq_getElem hlt);exact ⟨v,es[j],by rw [hj];exact cn e1,e2,hE _ (List.getElem_mem hlt)⟩
   have hev1 : 0<(ev.length:Int):=by omega
   obtain ⟨u,oe,hat,hu,ho⟩:=pick c;obtain ⟨u2,oe2,hat2,hu2,ho2⟩:=pick (c/420);have last:∀ P:Prop,(P→False)∨P:=fun P=>(Classical.em P).symm;clear pick last
   refine ⟨_, (aj (aI (i := 2) dB.nd rfl (Or.inl rfl) (ar aN (pv 1) (aP (a8 (K := K) rfl) rfl T.bS bR (aa (pv 0) ag))))
     (aj (aI (i:=3) dB.nd rfl (Or.inl rfl) (ar aN (ar a9 (pv 1) ai) ai))
     (aj (aS (aB (cp (K:=K) rfl hr.units) (pv 3) ai (aF _)) (ak (az bB)) aH)
     (aj (aS (aB (cp (K:=K) rfl hr.units) (pv 3) ai (aF _)) (ak (az (aV (aa ai (aa ai (aa (aV (aa ai (aa ai (aa ai ag)))) ag)))))) aH)
     (aj (aS (PW.pt (fR (aB (cp (K:=K) rfl hr.units) (pv 3) ai (aF _)) (fK (aB cU (aD (aJ (K:=K) rfl) (pv 0) (pv 2) (fun _ _=>rfl)) bB (aF _))))) (ak (az (aD (aJ (K:=K) rfl) (pv 0) (ar aN (ar a9 (pv 1) ai) (aP (a8 (K:=K) rfl) rfl T.bS bR (aa (pv 0) ag))) (fun _ _=>rfl)))) aH)
     (aj (fQ (aD (aJ (K:=K) rfl) (pv 0) (pv 2) (fun _ _=>rfl)) (fD (K:=K) rfl rfl (bP (aO (i:=4) dB.nd rfl (Or.inl rfl)) (bP (aO (i:=5) dB.nd rfl (Or.inl rfl)) (bP (aO (i:=6) dB.nd rfl (Or.inl rfl)) ft)))))
     (aj (aI (i:=7) dB.nd rfl (Or.inl rfl) (aW (aa (pv 5) (aa (aD (aJ (K:=K) rfl) (pv 6) ai (fun _ _=>rfl)) (aa (aD (aJ (K:=K) rfl) (pv 6) ai (fun _ _=>rfl)) (aa (aD (aJ (K:=K) rfl) (pv 6) ai (fun _ _=>rfl)) ag))))))
     (aj (fQ (ar FW (aD (aJ (K:=K) rfl) (pv 7) (ar aN (pv 3) ai) (fun _ _=>rfl)) (ar iG ai (ar aN (ar a9 (pv 1) ai) (ar (aT (K:=K) rfl) ai (pv 4))))) (my (pv 7) (ar aN (pv 3) ai) set_list))
     (ak (az (aV (aa (pv 4) (aa (aD (aJ (K:=K) rfl) (pv 7) ai (fun _ _=>rfl)) (aa (aV (aa (aD (aJ (K:=K) rfl) (pv 7) ai (fun _ _=>rfl)) (aa (aD (aJ (K:=K) rfl) (pv 7) ai (fun _ _=>rfl)) (aa (aD (aJ (K:=K) rfl) (pv 7) ai (fun _ _=>rfl)) ag)))) ag)))))))))))))),?_⟩
   refine aX (σ':=[some _,some _,none,none,none,none,none,none]) rfl ?_;walk_at "rd";refine fA (fun hh=>?_) (fun hh=>?_)
   · walk_at "rd";exact q _ none _ (au.refl _) rfl (fun e z=>by cases z)
   walk_at "rd";refine fA (fun hh2=>?_) (fun hh2=>?_)
   · walk_at "rd";rename_i t1 n1 t2 n2;exact q _ (some ⟨0,128,16,32,64⟩) _ ((ah n1).trans (ah n2)) ⟨t2,rfl,t1,aZ.of ae,aZ.of (ay ae n2)⟩ (fun e z=>by cases z;exact ⟨⟨by decide,by decide,by decide,by decide⟩,by decide,by decide⟩)
   walk_at "rd";refine fA (fun hh3=>?_) (fun hh3=>?_)
   · walk_at "rd";exact q u2 oe2 _ (au.refl _) hu2 ho2
   cases oe with
   | none =>
     cases (show u=V.aR from hu)
     walk_at "rd";exact q u2 oe2 _ (au.refl _) hu2 ho2
   | some e =>
     obtain ⟨p,rfl,p2,a1,a2⟩:=hu;obtain ⟨⟨nb,n4,n5,n6⟩,e0,e1⟩:=ho e rfl;have hm0:(0:Int)<8+e.h:=by omega
     have z0:=Int.emod_nonneg (c/420) (show 8+e.h≠0 by omega);have z1:=Int.emod_lt_of_pos (c/420) hm0;have sh:uA 1 (c/420%(8+e.h)):=mX z0 (by omega);rcases (show c/60%7=3∨c/60%7=4∨c/60%7=5∨c/60%7=6 by omega) with z | z | z | z
     · rw [z];walk_at "rd";refine pJ sh (fun m=>?_);walk_at "rd";refine mW (ys:=[V.int (e.b),V.int (e.v4),V.int (e.v5),V.int (Builtin.bitXor e.v6 m)]) ae (j:=3) rfl rfl ?_;walk_at "rd";rename_i x1 n1 t1 nt1 t2 nt2;exact q _ (some ⟨e.h,e.b,e.v4,e.v5,Builtin.bitXor e.v6 m⟩) _ (((bz (ah n1) n1).trans (ah nt1)).trans (ah nt2)) ⟨t2,rfl,t1,aZ.of ae,aZ.of (ay ae nt2)⟩ (fun e' z=>by cases z;exact ⟨⟨nb,n4,n5,qp n6⟩,e0,e1⟩)
     · rw [z];walk_at "rd";refine pJ sh (fun m=>?_);walk_at "rd";refine mW (ys:=[V.int (Builtin.bitXor e.b m),V.int (e.v4),V.int (e.v5),V.int (e.v6)]) ae (j:=0) rfl rfl ?_;walk_at "rd";rename_i x1 n1 t1 nt1 t2 nt2;exact q _ (some ⟨e.h,Builtin.bitXor e.b m,e.v4,e.v5,e.v6⟩) _ (((bz (ah n1) n1).trans (ah nt1)).trans (ah nt2)) ⟨t2,rfl,t1,aZ.of ae,aZ.of (ay ae nt2)⟩ (fun e' z=>by cases z;exact ⟨⟨qp nb,n4,n5,n6⟩,e0,e1⟩)
     · rw [z];walk_at "rd";refine pJ sh (fun m=>?_);walk_at "rd";refine mW (ys:=[V.int (e.b),V.int (Builtin.bitXor e.v4 m),V.int (e.v5),V.int (e.v6)]) ae (j:=1) rfl rfl ?_;walk_at "rd";rename_i x1 n1 t1 nt1 t2 nt2;exact q _ (some ⟨e.h,e.b,Builtin.bitXor e.v4 m,e.v5,e.v6⟩) _ (((bz (ah n1) n1).trans (ah nt1)).trans (ah nt2)) ⟨t2,rfl,t1,aZ.of ae,aZ.of (ay ae nt2)⟩ (fun e' z=>by cases z;exact ⟨⟨nb,qp n4,n5,n6⟩,e0,e1⟩)
     · rw [z];walk_at "rd";refine pJ sh (fun m=>?_);walk_at "rd";refine mW (ys:=[V.int (e.b),V.int (e.v4),V.int (Builtin.bitXor e.v5 m),V.int (e.v6)]) ae (j:=2) rfl rfl ?_;walk_at "rd";rename_i x1 n1 t1 nt1 t2 nt2;exact q _ (some ⟨e.h,e.b,e.v4,Builtin.bitXor e.v5 m,e.v6⟩) _ (((bz (ah n1) n1).trans (ah nt1)).trans (ah nt2)) ⟨t2,rfl,t1,aZ.of ae,aZ.of (ay ae nt2)⟩ (fun e' z=>by cases z;exact ⟨⟨nb,n4,qp n5,n6⟩,e0,e1⟩)
theorem kM (T:Txt K mg a):cG P w K mg base be 1 "_law_within" (pT K):=by
 refine bJ (sp:=(pT K)) 0 T.sV sM (fun vs H Q E h=>?_) (fun f cdv A outer s H vs Q E hr h=>?_)
 · obtain ⟨u, u', oe, oe', rfl, _⟩ := h;rfl
 · obtain ⟨u, u', oe, oe', rfl, h1, h2, h3, q⟩ := h
   refine ⟨_, (aj (aS (aB cU (pv 0) bB (aF _)) (ak (az fu)) aH)
     (aj (aS (PW.pt (fR (aB cU (pv 1) bB (aF _)) (fR (aB (eN (K:=K) rfl hr.units) (aD (aJ (K:=K) rfl) (pv 1) ai (fun _ _=>rfl)) (aD (aJ (K:=K) rfl) (pv 0) ai (fun _ _=>rfl)) (aF _)) (fK (aB (eN (K:=K) rfl hr.units) (ar yK (aD (aJ (K:=K) rfl) (pv 1) ai (fun _ _=>rfl)) (aD (aJ (K:=K) rfl) (pv 0) ai (fun _ _=>rfl))) (aD (aJ (K:=K) rfl) (pv 0) ai (fun _ _=>rfl)) (aF _)))))) (ak (az fu)) aH)
     (ak (az (gP (cp (K:=K) rfl hr.units) (dY (own:=["_law_k"]) (fr:=[("_law_entry",0),("_law_other",1)]) rfl ⟨rfl,(by walk_at "clok"),(by walk_at "frok"),rfl,(by decide +kernel),(by decide +kernel),rfl⟩ (dq rfl T.dJ (aa ai ag)) (fun _ _ _ _=>(aO (i:=0) (show List.Nodup [("_law_k" : Str),("_law_entry" : Str),("_law_other" : Str)] from by decide +kernel) rfl (Or.inl rfl))) (fun _ _ _ _=>(mV (aB (eN (K:=K) rfl hr.units) (ar yK (aD (aJ (K:=K) rfl) (aD (aJ (K:=K) rfl) (pv 2) ai (fun _ _=>rfl)) (pv 0) (fun _ _=>rfl)) (aD (aJ (K:=K) rfl) (aD (aJ (K:=K) rfl) (pv 1) ai (fun _ _=>rfl)) (pv 0) (fun _ _=>rfl))) (aD (aJ (K:=K) rfl) (aD (aJ (K:=K) rfl) (pv 1) ai (fun _ _=>rfl)) (pv 0) (fun _ _=>rfl)) (aF _)))) (fun _ _ _ _=>(pv 0))) (aW ag) (aF _)))))),?_⟩
   refine aX (σ':=[some _,some _]) rfl ?_;rcases h3 with rfl | ⟨e,e',rfl,rfl,B⟩
   · cases (show u = V.aR from h1)
     walk_at "rd";exact q _ (au.refl _)
   obtain ⟨p,rfl,p2,a1,a2⟩:=h1;obtain ⟨p',rfl,p2',b1,b2⟩:=h2;have hB:=B.h;walk_at "rd";refine er (fun z=>absurd (Df B.p.1 B.n.1 B.b) z) (fun _=>?_);walk_at "rd";refine dZ (fun i ys σ H1=>(∃ v,σ = [v,some (.ref p),some (.ref p')])∧H1=H∧ys=[]) ⟨⟨_,rfl⟩,rfl,rfl⟩ (fun i ys σ H1 _ h=>by rw [h.2.2];exact Nat.zero_le _) ?_ ?_
   · rintro i ys σ H1 hi ⟨⟨v, rfl⟩, rfl, rfl⟩;have hi:i<3:=hi;rcases (show i=0∨i=1∨i=2 by omega) with rfl | rfl | rfl
     · walk_at "rd";refine er (fun z=>absurd (Df B.p.2.1 B.n.2.1 B.v4) z) (fun _=>?_);exact ⟨⟨_,rfl⟩,rfl,rfl⟩
     · walk_at "rd";refine er (fun z=>absurd (Df B.p.2.2.1 B.n.2.2.1 B.v5) z) (fun _=>?_);exact ⟨⟨_,rfl⟩,rfl,rfl⟩
     · walk_at "rd";refine er (fun z=>absurd (Df B.p.2.2.2 B.n.2.2.2 B.v6) z) (fun _=>?_);exact ⟨⟨_,rfl⟩,rfl,rfl⟩
   rintro ys σ H1 ⟨_,rfl,rfl⟩;walk_at "rd";rename_i l1 n1 l2 n2;refine DZ (xs:=[]) (aA.of (ay ae n2)) (aA.of ae) ?_;exact q _ ((ah n1).trans (ah n2))
theorem rO (r:Rw):r.lj.lookup ("goes" : Str)=none:=by
 cases r <;> (show List.lookup _ (aL _ _ _)=none;walk_at "nolk")
theorem jE (r:Rw):r.lj.lookup ("height" : Str)=none:=by
 cases r <;> (show List.lookup _ (aL _ _ _)=none;walk_at "nolk")
theorem nP (T:Txt K mg a) {r:Rw} (hr:r.here):bw P w K mg base be 1 (r.cls a) "goes" (cj a r):=by
 cases r
 · exact (wQ T _ _).mono (by decide)
 · exact (wj T _ _).mono (by decide)
 · exact (wD T _ _ _).mono (by decide)
 · exact hr.elim
 · exact hr.elim
 · exact hr.elim
 · exact (vb T _).mono (by decide)
 · exact (qJ T _).mono (by decide)
 · exact (wA T _ _).mono (by decide)
 · exact (wK T _ _).mono (by decide)
 · exact (uO T _).mono (by decide)
 · exact (qX T _ _).mono (by decide)
 · exact (ub T _).mono (by decide)
 · exact (uU T _).mono (by decide)
 · exact (uc T _).mono (by decide)
theorem ie (T:Txt K mg a) {r:Rw} (hr:r.here):bw P w K mg base be 1 (r.cls a) "height" (bE a r):=by
 cases r
 · exact (sS T _ _).mono (by decide)
 · exact (qU T _ _).mono (by decide)
 · exact (sN T _ _ _).mono (by decide)
 · exact hr.elim
 · exact hr.elim
 · exact hr.elim
 · exact (qw T _).mono (by decide)
 · exact (o7 T _).mono (by decide)
 · exact (rV T _ _).mono (by decide)
 · exact (tm T _ _).mono (by decide)
 · exact (qC T _).mono (by decide)
 · exact (oG T _ _).mono (by decide)
 · exact (qQ T _).mono (by decide)
 · exact (qH T _).mono (by decide)
 · exact (qT T _).mono (by decide)
theorem jP (T:Txt K mg a) {H:Hp} {p:Addr} {r:Rw} (hr:r.here) (h:bX a H p r):∃ t',ee K H (.ref p) t'∧W.kitOne K t' (.ref a.bq)=some r.isCall∧W.kitOne K t' (.ref a.bC)=some r.F_:=by
 obtain ⟨dx,e⟩:=h;cases r
 · exact ⟨_,.ins e T.mC T.Ao.1 T.kN T.kD T.Ao.2,T.nB,T.oa⟩
 · exact ⟨_,.ins e T.jX T.xu.1 T.kN T.kD T.xu.2,T.kZ,T.lU⟩
 · exact ⟨_,.ins e T.mx T.zr.1 T.kN T.kD T.zr.2,T.nW,T.nF⟩
 · exact hr.elim
 · exact hr.elim
 · exact hr.elim
 · exact ⟨_,.ins e T.ki T.xq.1 T.kN T.kD T.xq.2,T.lP,T.lB⟩
 · exact ⟨_,.ins e T.hJ T.rS.1 T.kN T.kD T.rS.2,T.j3,T.jN⟩
 · exact ⟨_,.ins e T.mq T.Ag.1 T.kN T.kD T.Ag.2,T.nI,T.n_⟩
 · exact ⟨_,.ins e T.lS T.A3.1 T.kN T.kD T.A3.2,T.nK,T.og⟩
 · exact ⟨_,.ins e T.jO T.xf.1 T.kN T.kD T.xf.2,T.kY,T.lH⟩
 · exact ⟨_,.ins e T.hG T.rm.1 T.kN T.kD T.rm.2,T.jY,T.kh⟩
 · exact ⟨_,.ins e T.j7 T.xD.1 T.kN T.kD T.xD.2,T.l_,T.lJ⟩
 · exact ⟨_,.ins e T.jS T.xW.1 T.kN T.kD T.xW.2,T.l0,T.me⟩
 · exact ⟨_,.ins e T.j9 T.xY.1 T.kN T.kD T.xY.2,T.lQ,T.lg⟩
theorem mi (T:Txt K mg a):cG P w K mg base be 2 "filled" oW:=by
 refine bJ (sp:=oW) 1 T.AY AO (fun vs H Q E h=>?_) (fun f cdv A outer s H vs Q E hr h=>?_)
 · obtain ⟨s, p, t, rfl, _⟩ := h;rfl
 · obtain ⟨s, p, t, rfl, q⟩ := h
   refine ⟨_, (aj (aS (cV (K := K) rfl (ar i9 (pv 0) (pv 2))) (ak (az (ar yK (pv 0) (pv 1)))) aH)
     (ak (az (ax (gf (K:=K) T) (hr.mono (by decide)) aC rfl (aa (pv 0) (aa (pv 1) ag)))))),?_⟩
   refine aX (σ':=[some _,some _,some _]) rfl ?_;walk_at "rd";rw [gw];unfold gr at q;by_cases e:s &&& t=0
   · rw [if_pos e] at q;rw [e,show (((0:Nat):Int) != 0)=false from rfl];walk_at "rd";exact q
   · rw [if_neg e] at q;rw [show (((s &&& t:Nat):Int) != 0)=true from by simp [e]];walk_at "rd";rw [lX];exact q
theorem E8 (T:Txt K mg a):ia P w K mg base be 2 "Set" a.di (eZ a.di Rw.set):=by
 refine eO (sp:=(eZ a.di Rw.set)) 1 T.Ss T.Kv wR (fun vs H Q E h=>?_) (fun f cdv A outer s H vs Q E hr h=>?_)
 · obtain ⟨x, dx, i, j, rfl, _⟩ := h;rfl
 · obtain ⟨x, dx, i, j, rfl, ⟨⟨h1, h2⟩, ⟨h3, h4⟩⟩, hx, q⟩ := h
   refine ⟨_, (aj (ck (K := K) rfl (pv 0) (ax (bI (K := K) T) (hr.mono (by decide)) aC rfl (aa (pv 1) (aa (bj (v := .int 7) rfl T.dw.choose_spec ⟨_, rfl⟩) ag))))
     (ak (ck (K:=K) rfl (pv 0) (ax (bI (K:=K) T) (hr.mono (by decide)) aC rfl (aa (pv 2) (aa (bj (v:=.int 4294967295) rfl T.wX.choose_spec ⟨_,rfl⟩) ag)))))),?_⟩
   refine aX (σ':=[some _,some _,some _]) rfl ?_;walk_at "rd";exact q _ mm ae
theorem vP (T:Txt K mg a) (b n:Int):bw P w K mg base be 2 a.di "keeps" (bU a (.set b n)):=by
 refine bh (sp:=(bU a (.set b n))) 1 T.mC T.wF vG (fun vs H Q E h=>?_) (fun f cdv A outer s H vs Q E hr h=>?_)
 · obtain ⟨x, s, z, rfl, _⟩ := h;rfl
 · obtain ⟨x, s, z, rfl, ⟨dx, hx⟩, hk, z0, z1, hs, q⟩ := h
   change H x=some (.ins a.di dx (aL "number" (.int n) (aL "box" (.int b) []))) at hx
   obtain ⟨⟨k1,k2⟩,⟨k3,k4⟩⟩:=hk;refine ⟨_,(ak (az (ax (gf (K:=K) T) (hr.mono (by decide)) aC rfl (aa (pv 1) (aa (ax (dr (K:=K) T) (hr.mono (by decide)) aC rfl (aa (bA (K:=K) rfl (pv 0)) ag)) ag))))),?_⟩;refine aX (σ':=[some _,some _,some _]) rfl ?_;walk_at "rd";exact q
theorem D4 (T:Txt K mg a):ia P w K mg base be 2 "Copy" a.cE (eZ a.cE Rw.copy):=by
 refine eO (sp:=(eZ a.cE Rw.copy)) 1 T.FN T.Hd uR (fun vs H Q E h=>?_) (fun f cdv A outer s H vs Q E hr h=>?_)
 · obtain ⟨x, dx, i, j, rfl, _⟩ := h;rfl
 · obtain ⟨x, dx, i, j, rfl, ⟨⟨h1, h2⟩, ⟨h3, h4⟩⟩, hx, q⟩ := h
   refine ⟨_, (aj (ck (K := K) rfl (pv 0) (ax (bI (K := K) T) (hr.mono (by decide)) aC rfl (aa (pv 1) (aa (bj (v := .int 7) rfl T.dw.choose_spec ⟨_, rfl⟩) ag))))
     (ak (ck (K:=K) rfl (pv 0) (ax (bI (K:=K) T) (hr.mono (by decide)) aC rfl (aa (pv 2) (aa (bj (v:=.int 7) rfl T.dw.choose_spec ⟨_,rfl⟩) ag)))))),?_⟩
   refine aX (σ':=[some _,some _,some _]) rfl ?_;walk_at "rd";exact q _ mm ae
theorem Fh (T:Txt K mg a):ia P w K mg base be 2 "Add" a.c7 (vL a.c7 Rw.add):=by
 refine eO (sp:=(vL a.c7 Rw.add)) 1 T.NQ T.LG m9 (fun vs H Q E h=>?_) (fun f cdv A outer s H vs Q E hr h=>?_)
 · obtain ⟨x, dx, i, j, k, rfl, _⟩ := h;rfl
 · obtain ⟨x, dx, i, j, k, rfl, ⟨⟨h1, h2⟩, ⟨h3, h4⟩, ⟨h5, h6⟩⟩, hx, q⟩ := h
   refine ⟨_, (aj (ck (K := K) rfl (pv 0) (ax (bI (K := K) T) (hr.mono (by decide)) aC rfl (aa (pv 1) (aa (bj (v := .int 7) rfl T.dw.choose_spec ⟨_, rfl⟩) ag))))
     (aj (ck (K:=K) rfl (pv 0) (ax (bI (K:=K) T) (hr.mono (by decide)) aC rfl (aa (pv 2) (aa (bj (v:=.int 7) rfl T.dw.choose_spec ⟨_,rfl⟩) ag))))
     (ak (ck (K:=K) rfl (pv 0) (ax (bI (K:=K) T) (hr.mono (by decide)) aC rfl (aa (pv 3) (aa (bj (v:=.int 7) rfl T.dw.choose_spec ⟨_,rfl⟩) ag))))))),?_⟩
   refine aX (σ':=[some _,some _,some _,some _]) rfl ?_;walk_at "rd";exact q _ CJ ae
theorem uE (T:Txt K mg a) (b o t:Int):bw P w K mg base be 2 a.c7 "keeps" (bU a (.add b o t)):=by
 refine bh (sp:=(bU a (.add b o t))) 1 T.mx T.wZ mf (fun vs H Q E h=>?_) (fun f cdv A outer s H vs Q E hr h=>?_)
 · obtain ⟨x, s, z, rfl, _⟩ := h;rfl
 · obtain ⟨x, s, z, rfl, ⟨dx, hx⟩, hk, z0, z1, hs, q⟩ := h
   change H x=some (.ins a.c7 dx (aL "other" (.int t) (aL "one" (.int o) (aL "box" (.int b) [])))) at hx
   obtain ⟨⟨k1,k2⟩,⟨k3,k4⟩,⟨k5,k6⟩⟩:=hk;refine ⟨_,(ak (az (ax (gf (K:=K) T) (hr.mono (by decide)) aC rfl (aa (pv 1) (aa (ax (dr (K:=K) T) (hr.mono (by decide)) aC rfl (aa (bA (K:=K) rfl (pv 0)) ag)) ag))))),?_⟩;refine aX (σ':=[some _,some _,some _]) rfl ?_;walk_at "rd";exact q
theorem D7 (T:Txt K mg a):ia P w K mg base be 2 "Grow" a.cL (eP a.cL Rw.grow):=by
 refine eO (sp:=(eP a.cL Rw.grow)) 1 T.Fm T.FH ud (fun vs H Q E h=>?_) (fun f cdv A outer s H vs Q E hr h=>?_)
 · obtain ⟨x, dx, i, rfl, _⟩ := h;rfl
 · obtain ⟨x, dx, i, rfl, ⟨h1, h2⟩, hx, q⟩ := h;refine ⟨_,(ak (ck (K:=K) rfl (pv 0) (ax (bI (K:=K) T) (hr.mono (by decide)) aC rfl (aa (pv 1) (aa (bj (v:=.int 4000) rfl T.eV.choose_spec ⟨_,rfl⟩) ag))))),?_⟩;refine aX (σ':=[some _,some _]) rfl ?_;walk_at "rd";exact q _ ke ae
theorem zF (T:Txt K mg a):ia P w K mg base be 2 "Shrink" a.bZ (eP a.bZ Rw.shrink):=by
 refine eO (sp:=(eP a.bZ Rw.shrink)) 1 T.Cn T.BP qF (fun vs H Q E h=>?_) (fun f cdv A outer s H vs Q E hr h=>?_)
 · obtain ⟨x, dx, i, rfl, _⟩ := h;rfl
 · obtain ⟨x, dx, i, rfl, ⟨h1, h2⟩, hx, q⟩ := h;refine ⟨_,(ak (ck (K:=K) rfl (pv 0) (ax (bI (K:=K) T) (hr.mono (by decide)) aC rfl (aa (pv 1) (aa (bj (v:=.int 4000) rfl T.eV.choose_spec ⟨_,rfl⟩) ag))))),?_⟩;refine aX (σ':=[some _,some _]) rfl ?_;walk_at "rd";exact q _ ke ae
theorem pH (T:Txt K mg a) (m:Int):bw P w K mg base be 2 a.bZ "keeps" (bU a (.shrink m)):=by
 refine bh (sp:=(bU a (.shrink m))) 1 T.hJ T.qK jt (fun vs H Q E h=>?_) (fun f cdv A outer s H vs Q E hr h=>?_)
 · obtain ⟨x, s, z, rfl, _⟩ := h;rfl
 · obtain ⟨x, s, z, rfl, ⟨dx, hx⟩, hk, z0, z1, hs, q⟩ := h
   change H x=some (.ins a.bZ dx (aL "many" (.int m) [])) at hx
   obtain ⟨k1,k2⟩:=hk;have hh : ¬ z<m:=fun e=>by rw [show Rw.aY (.shrink m) z=none from if_pos e] at hs;cases hs
   refine ⟨_, (aj (aI (i := 3) jt.nd rfl (Or.inl rfl) (ar iG (ar d6 (ar iG ai (bA (K := K) rfl (pv 0))) ai) (ar d6 (ar (aT (K := K) rfl) (bj (v := .int 8) rfl T.fV.choose_spec ⟨_, rfl⟩) (pv 2)) (bA (K := K) rfl (pv 0)))))
     (ak (az (ax (gf (K:=K) T) (hr.mono (by decide)) aC rfl (aa (pv 1) (aa (pv 3) ag)))))),?_⟩
   refine aX (σ':=[some _,some _,some _,none]) rfl ?_;walk_at "rd";refine A8 (mX (by omega) (by omega)) ?_;walk_at "rd";rw [mP,show ((2 ^ m.toNat:Nat):Int) - 1=((2 ^ m.toNat - 1:Nat):Int) from by have:=Nat.one_le_two_pow (n:=m.toNat);omega];refine A8 ⟨by omega,by omega,m.toNat,by omega,by rw [Int.natAbs_natCast];have:=Nat.one_le_two_pow (n:=m.toNat);omega⟩ ?_;rw [show ((2 ^ m.toNat - 1:Nat):Int)*2 ^ (8+z - m).toNat=(((2 ^ m.toNat - 1)*2 ^ (8+z - m).toNat:Nat):Int) from by rw [Int.natCast_mul,Int.natCast_pow];rfl];walk_at "rd";exact q
theorem Gv (T:Txt K mg a):ia P w K mg base be 2 "Put" a.dk (eZ a.dk Rw.put):=by
 refine eO (sp:=(eZ a.dk Rw.put)) 1 T.KW T.N_ iP (fun vs H Q E h=>?_) (fun f cdv A outer s H vs Q E hr h=>?_)
 · obtain ⟨x, dx, i, j, rfl, _⟩ := h;rfl
 · obtain ⟨x, dx, i, j, rfl, ⟨⟨h1, h2⟩, ⟨h3, h4⟩⟩, hx, q⟩ := h
   refine ⟨_, (aj (ck (K := K) rfl (pv 0) (ax (bI (K := K) T) (hr.mono (by decide)) aC rfl (aa (pv 1) (aa (bj (v := .int 7) rfl T.dw.choose_spec ⟨_, rfl⟩) ag))))
     (ak (ck (K:=K) rfl (pv 0) (ax (bI (K:=K) T) (hr.mono (by decide)) aC rfl (aa (pv 2) (aa (bj (v:=.int 4000) rfl T.eV.choose_spec ⟨_,rfl⟩) ag)))))),?_⟩
   refine aX (σ':=[some _,some _,some _]) rfl ?_;walk_at "rd";exact q _ mm ae
theorem Fj (T:Txt K mg a):ia P w K mg base be 2 "Get" a.dj (eZ a.dj Rw.get):=by
 refine eO (sp:=(eZ a.dj Rw.get)) 1 T.Nb T.K_ iP (fun vs H Q E h=>?_) (fun f cdv A outer s H vs Q E hr h=>?_)
 · obtain ⟨x, dx, i, j, rfl, _⟩ := h;rfl
 · obtain ⟨x, dx, i, j, rfl, ⟨⟨h1, h2⟩, ⟨h3, h4⟩⟩, hx, q⟩ := h
   refine ⟨_, (aj (ck (K := K) rfl (pv 0) (ax (bI (K := K) T) (hr.mono (by decide)) aC rfl (aa (pv 1) (aa (bj (v := .int 7) rfl T.dw.choose_spec ⟨_, rfl⟩) ag))))
     (ak (ck (K:=K) rfl (pv 0) (ax (bI (K:=K) T) (hr.mono (by decide)) aC rfl (aa (pv 2) (aa (bj (v:=.int 4000) rfl T.eV.choose_spec ⟨_,rfl⟩) ag)))))),?_⟩
   refine aX (σ':=[some _,some _,some _]) rfl ?_;walk_at "rd";exact q _ mm ae
theorem ED (T:Txt K mg a):ia P w K mg base be 2 "Jump" a.cJ (eP a.cJ Rw.dD):=by
 refine eO (sp:=(eP a.cJ Rw.dD)) 1 T.Gd T.Gq vE (fun vs H Q E h=>?_) (fun f cdv A outer s H vs Q E hr h=>?_)
 · obtain ⟨x, dx, i, rfl, _⟩ := h;rfl
 · obtain ⟨x, dx, i, rfl, ⟨h1, h2⟩, hx, q⟩ := h;refine ⟨_,(ak (ck (K:=K) rfl (pv 0) (ax (bI (K:=K) T) (hr.mono (by decide)) aC rfl (aa (pv 1) (aa (bj (v:=.int 2000) rfl T.iV.choose_spec ⟨_,rfl⟩) ag))))),?_⟩;refine aX (σ':=[some _,some _]) rfl ?_;walk_at "rd";exact q _ ke ae
theorem zH (T:Txt K mg a):ia P w K mg base be 2 "Branch" a.bV (eZ a.bV Rw.branch):=by
 refine eO (sp:=(eZ a.bV Rw.branch)) 1 T.Bz T.CP qv (fun vs H Q E h=>?_) (fun f cdv A outer s H vs Q E hr h=>?_)
 · obtain ⟨x, dx, i, j, rfl, _⟩ := h;rfl
 · obtain ⟨x, dx, i, j, rfl, ⟨⟨h1, h2⟩, ⟨h3, h4⟩⟩, hx, q⟩ := h
   refine ⟨_, (aj (ck (K := K) rfl (pv 0) (ax (bI (K := K) T) (hr.mono (by decide)) aC rfl (aa (pv 1) (aa (bj (v := .int 7) rfl T.dw.choose_spec ⟨_, rfl⟩) ag))))
     (ak (ck (K:=K) rfl (pv 0) (ax (bI (K:=K) T) (hr.mono (by decide)) aC rfl (aa (pv 2) (aa (bj (v:=.int 2000) rfl T.iV.choose_spec ⟨_,rfl⟩) ag)))))),?_⟩
   refine aX (σ':=[some _,some _,some _]) rfl ?_;walk_at "rd";exact q _ mm ae
theorem EH (T:Txt K mg a):ia P w K mg base be 2 "Call" a.bq (eP a.bq Rw.call):=by
 refine eO (sp:=(eP a.bq Rw.call)) 1 T.jT T.FZ wa (fun vs H Q E h=>?_) (fun f cdv A outer s H vs Q E hr h=>?_)
 · obtain ⟨x, dx, i, rfl, _⟩ := h;rfl
 · obtain ⟨x, dx, i, rfl, ⟨h1, h2⟩, hx, q⟩ := h;refine ⟨_,(ak (ck (K:=K) rfl (pv 0) (ax (bI (K:=K) T) (hr.mono (by decide)) aC rfl (aa (pv 1) (aa (bj (v:=.int 2000) rfl T.iV.choose_spec ⟨_,rfl⟩) ag))))),?_⟩;refine aX (σ':=[some _,some _]) rfl ?_;walk_at "rd";exact q _ ke ae
theorem su (T:Txt K mg a) (t:Int):bw P w K mg base be 2 a.bq "keeps" (bU a (.call t)):=by
 refine bh (sp:=(bU a (.call t))) 1 T.j7 T.vh rY (fun vs H Q E h=>?_) (fun f cdv A outer s H vs Q E hr h=>?_)
 · obtain ⟨x, s, z, rfl, _⟩ := h;rfl
 · obtain ⟨x, s, z, rfl, ⟨dx, hx⟩, hk, z0, z1, hs, q⟩ := h
   change H x=some (.ins a.bq dx (aL "target" (.int t) [])) at hx
   obtain ⟨k1,k2⟩:=hk;refine ⟨_,(ak (az (ax (gf (K:=K) T) (hr.mono (by decide)) aC rfl (aa (pv 1) (aa (bj (v:=.int 143) rfl T.qG.choose_spec ⟨_,rfl⟩) ag))))),?_⟩;refine aX (σ':=[some _,some _,some _]) rfl ?_;walk_at "rd";exact rF (p:=143) q
theorem D8 (T:Txt K mg a):ia P w K mg base be 2 "Back" a.bC (eP a.bC Rw.back):=by
 refine eO (sp:=(eP a.bC Rw.back)) 1 T.zD T.Ha ug (fun vs H Q E h=>?_) (fun f cdv A outer s H vs Q E hr h=>?_)
 · obtain ⟨x, dx, i, rfl, _⟩ := h;rfl
 · obtain ⟨x, dx, i, rfl, ⟨h1, h2⟩, hx, q⟩ := h;refine ⟨_,(ak (ck (K:=K) rfl (pv 0) (ax (bI (K:=K) T) (hr.mono (by decide)) aC rfl (aa (pv 1) (aa (bj (v:=.int 7) rfl T.dw.choose_spec ⟨_,rfl⟩) ag))))),?_⟩;refine aX (σ':=[some _,some _]) rfl ?_;walk_at "rd";exact q _ ke ae
theorem DO (T:Txt K mg a):ia P w K mg base be 2 "Drop" a.cK (eP a.cK Rw.drop):=by
 refine eO (sp:=(eP a.cK Rw.drop)) 1 T.GU T.FP vK (fun vs H Q E h=>?_) (fun f cdv A outer s H vs Q E hr h=>?_)
 · obtain ⟨x, dx, i, rfl, _⟩ := h;rfl
 · obtain ⟨x, dx, i, rfl, ⟨h1, h2⟩, hx, q⟩ := h;refine ⟨_,(ak (ck (K:=K) rfl (pv 0) (ax (bI (K:=K) T) (hr.mono (by decide)) aC rfl (aa (pv 1) (aa (bj (v:=.int 7) rfl T.dw.choose_spec ⟨_,rfl⟩) ag))))),?_⟩;refine aX (σ':=[some _,some _]) rfl ?_;walk_at "rd";exact q _ ke ae
theorem lT (T:Txt K mg a):cG P w K mg base be 2 "has_wrong_place" (xj K):=by
 refine bJ (sp:=(xj K)) 1 T.mD fe (fun vs H Q E h=>?_) (fun f cdv A outer s H vs Q E hr h=>?_)
 · obtain ⟨p, e, rfl, _⟩ := h;rfl
 · obtain ⟨p, e, rfl, ⟨qe, h1, h2⟩, q⟩ := h
   refine ⟨_, (aj (aI (i := 1) fe.nd rfl (Or.inl rfl) (aD (aJ (K := K) rfl) (pv 0) ai (fun _ _ => rfl)))
     (aj (aS (PW.pt (fR (aB gU (pv 1) ai (aF _)) (fK (aB fB (pv 1) (bj (v:=.int 4000) rfl T.eV.choose_spec ⟨_,rfl⟩) (aF _))))) (ak (az fu)) aH)
     (aj (aI (i:=2) fe.nd rfl (Or.inr rfl) (ar (aT (K:=K) rfl) (bj (v:=.int 8) rfl T.fV.choose_spec ⟨_,rfl⟩) (pv 1)))
     (ak (az (aP (zW (K:=K) rfl rfl) rfl T.R_ Lo (aa (dY (own:=["places"]) (fr:=[("beyond",2)]) rfl ⟨rfl,(by walk_at "clok"),(by walk_at "frok"),rfl,(by decide +kernel),(by decide +kernel),rfl⟩ (cw (K:=K) rfl (ax (iz (K:=K) T) (hr.mono (by decide)) aC rfl (aa (pv 0) ag))) (fun _ _ _ _=>(aO (i:=0) (show List.Nodup [("places" : Str),("beyond" : Str)] from by decide +kernel) rfl (Or.inl rfl))) (fun _ _ _ _=>cW) (fun _ _ _ _=>(Lx (gP tN (pv 0) ai (aF _)) (GH (gP (eN (K:=K) rfl hr.units) (ar EZ (pv 0) (pv 1)) ai (aF _)))))) ag))))))),?_⟩
   refine aX (σ':=[some _,none,none]) rfl ?_;walk_at "rd";refine cS (fun hh=>?_) (fun hh=>?_)
   · walk_at "rd";rw [show cP e=true from by unfold cP;rw [decide_eq_true hh];rfl] at q;exact q _ (au.refl _)
   walk_at "rd";refine cS (fun hh2=>?_) (fun hh2=>?_)
   · walk_at "rd";rw [show cP e=true from by unfold cP;rw [decide_eq_true hh2,Bool.true_or,Bool.or_true]] at q;exact q _ (au.refl _)
   walk_at "rd";refine ⟨p,e,rfl,⟨qe,h1,h2⟩,fun t ht=>?_⟩;walk_at "rd";refine zz (emb:=V.int) (fun s=>.bl (dN e.h s)) (fun σ=>∃ v,σ = [v,some (.int (8+e.h))]) (aZ.of ae) (by show 4≤sizeLine;decide) ⟨_,rfl⟩ ?_ ?_
   · rintro i x ys σ H1 hx cc ss ⟨v, rfl⟩;walk_at "rd";refine cS (fun h3=>?_) (fun h3=>?_)
     · walk_at "rd";exact cc.next hx (by unfold dN;rw [decide_eq_true h3];rfl) (by walk_at "same") ⟨_,rfl⟩
     · walk_at "rd";exact cc.next hx (by unfold dN;rw [decide_eq_false h3,Bool.false_or];congr 2;rw [decide_eq_decide];exact ⟨fun z=>by injection z,fun z=>by rw [z]⟩) (by walk_at "same") ⟨_,rfl⟩
   intro H3 s3;walk_at "rd";rename_i l nl;refine F5 (bs:=e.dC.map (dN e.h)) (by rw [List.map_map];exact aA.of ae) ?_;rw [show (e.dC.map (dN e.h)).any id=cP e from by
     unfold cP;rw [decide_eq_false hh,decide_eq_false hh2,Bool.false_or,Bool.false_or,List.any_map];rfl]
   exact q _ (by walk_at "same")
theorem qB (T:Txt K mg a):cG P w K mg base be 2 "may_go_back" (zZ K a):=by
 refine bJ (sp:=(zZ K a)) 1 T.qu qx (fun vs H Q E h=>?_) (fun f cdv A outer s H vs Q E hr h=>?_)
 · obtain ⟨x, p, b, e, rfl, _⟩ := h;rfl
 · obtain ⟨x, p, b, e, rfl, ⟨dx, hx⟩, b0, b7, ⟨qe, h1, h2⟩, q⟩ := h
   change H x=some (.ins a.bC dx (aL "box" (.int b) [])) at hx
   refine ⟨_, (aj (aS (PW.pt (fR (aB (eN (K := K) rfl hr.units) (aD (aJ (K := K) rfl) (pv 1) ai (fun _ _ => rfl)) ai (aF _)) (fK (hV (cV (K := K) rfl (ar i9 (aD (aJ (K := K) rfl) (pv 1) ai (fun _ _ => rfl)) (ax (dr (K := K) T) (hr.mono (by decide)) aC rfl (aa (bA (K := K) rfl (pv 0)) ag)))))))) (ak (az fu)) aH)
     (ak (az (aP (zg (K:=K) rfl rfl) rfl T.Dh DK (aa (dY (own:=["box","places"]) (fr:=[]) rfl ⟨rfl,(by walk_at "clok"),(by walk_at "frok"),rfl,(by decide +kernel),(by decide +kernel),rfl⟩ (Et (K:=K) rfl rfl T.tG (aa (bj (v:=.ref a.gq) rfl T.l7 rfl) (aa (aD (aJ (K:=K) rfl) (pv 1) ai (fun _ _=>rfl)) ag))) (fun _ _ _ _=>(fD (K:=K) (n:=2) rfl rfl (bP (aO (i:=0) (show List.Nodup [("box" : Str),("places" : Str)] from by decide +kernel) rfl (Or.inl rfl)) (bP (aO (i:=1) (show List.Nodup [("box" : Str),("places" : Str)] from by decide +kernel) rfl (Or.inl rfl)) ft)))) (fun _ _ _ _=>cW) (fun _ _ _ _=>(ar i9 (pv 1) (ax (dr (K:=K) T) (hr.mono (by decide)) aC rfl (aa (pv 0) ag))))) ag))))),?_⟩
   refine aX (σ':=[some _,some _]) rfl ?_;walk_at "rd";refine er (fun hh=>?_) (fun hh=>?_)
   · walk_at "rd";rw [show i8 b e=false from by unfold i8;rw [decide_eq_false hh];rfl] at q;exact q _ (au.refl _)
   walk_at "rd";unfold i8 at q;rw [decide_eq_true hh,Bool.true_and] at q;cases hb:(Builtin.bitAnd e.b ((2 ^ b.toNat:Nat):Int) != 0) with
   | false =>
     rw [hb] at q;walk_at "rd";exact q _ (au.refl _)
   | true =>
     rw [hb,Bool.true_and] at q;walk_at "rd";refine ⟨a.gq,qe,_,_,rfl,T.iO _,h2,?_⟩;refine A1 (xs:=[((4:Int),e.v4),(5,e.v5),(6,e.v6)]) (e1:=fun q=>.int q.1) (e2:=fun q=>.int q.2) (fun q=>.int (Builtin.bitAnd q.2 ((2 ^ q.1.toNat:Nat):Int))) (fun σ=>∃ u v,σ = [u,v]) (T.iO _) h2 (by show 3≤sizeLine;decide) ⟨_,_,rfl⟩ ?_ ?_
     · rintro i z ys σ H1 T' hz cc ss ⟨u, v, rfl⟩ nT;have hzz : 0≤z.1∧z.1≤7:=by
         match i,hz with
         | 0,hz=>cases hz;exact ⟨by show (0:Int)≤4;decide,by show (4:Int)≤7;decide⟩
         | 1,hz=>cases hz;exact ⟨by show (0:Int)≤5;decide,by show (5:Int)≤7;decide⟩
         | 2,hz=>cases hz;exact ⟨by show (0:Int)≤6;decide,by show (6:Int)≤7;decide⟩
         | i+3,hz=>simp at hz
       obtain ⟨z0,z7⟩:=hzz;walk_at "rd";exact cc.next hz rfl (by walk_at "same") ⟨_,_,rfl⟩
     intro H3 s3;walk_at "rd";rename_i l nl;refine E3 (ns:=[Builtin.bitAnd e.v4 16,Builtin.bitAnd e.v5 32,Builtin.bitAnd e.v6 64]) (aA.of ae) ?_;simp only [List.all_cons,List.all_nil,Bool.and_true];exact q _ (by walk_at "same")
theorem kW (T:Txt K mg a):cG P w K mg base be 2 "target_complaint" (A5 K a):=by
 refine bJ (sp:=(A5 K a)) 1 T.kT kU (fun vs H Q E h=>?_) (fun f cdv A outer s H vs Q E hr h=>?_)
 · obtain ⟨x, l, t, ev, es, rfl, _⟩ := h;rfl
 · obtain ⟨x, l, t, ev, es, rfl, ⟨dx, hx⟩, hl, hev, q⟩ := h
   change H x=some (.ins a.bq dx (aL "target" (.int t) [])) at hx
   refine ⟨_, (aj (aS (hV (cV (K := K) rfl (ax (mz (K := K) T) (hr.mono (by decide)) aC rfl (aa (bA (K := K) rfl (pv 0)) (aa (pv 1) ag))))) (ak (az aK)) aH)
     (ak (az (iX (aB (cp (K:=K) rfl hr.units) (aD (aJ (K:=K) rfl) (pv 1) (bA (K:=K) rfl (pv 0)) (fun _ _=>rfl)) (bj (v:=.ref a.f_) rfl T.iE rfl) (aF _)) bB aK)))),?_⟩
   refine aX (σ':=[some _,some _]) rfl ?_;walk_at "rd";refine ⟨t,l,ev,rfl,aA.of hl,?_⟩;rw [hev.1];by_cases hh : 0≤t∧t<(es.length:Int)
   · rw [decide_eq_true hh];obtain ⟨v,oe,hat,hoe,hmem,hv⟩:=hev.at hh.1 hh.2;obtain ⟨qs,t1,t2⟩:=T.j8;walk_at "rd";refine SI oe iJ hv.dp (vV (t1 _) (t2 _)) ?_;have q:∀ H',au H H'→Q (oV (if iw oe iJ=true then none else some .start)) H':=fun H' s=>by
       have:=q H' s
       unfold ej at this;rw [if_pos hh,hoe] at this;exact this
     cases hb:iw oe iJ with
     | true =>
       rw [hb] at q;walk_at "rd";exact q _ (au.refl _)
     | false =>
       rw [hb] at q;walk_at "rd";exact q _ (au.refl _)
   · rw [decide_eq_false hh];walk_at "rd"
     have:=q H (au.refl _)
     unfold ej at this;rw [if_neg hh] at this;exact this
theorem ym (T:Txt K mg a):cG P w K mg base be 2 "ways_on" (uG K a):=by
 refine bJ (sp:=(uG K a)) 1 T.x6 pA (fun vs H Q E h=>?_) (fun f cdv A outer s H vs Q E hr h=>?_)
 · obtain ⟨c, d, i, prs, rs, ls, rfl, _⟩ := h;rfl
 · obtain ⟨c, d, i, prs, rs, ls, rfl, hc, hrs, aG, hd, hnd, hi, q⟩ := h;have hpl:=hrs.1;have hri:rs[i]? = some rs[i]:=List.getElem?_eq_getElem hi;have hpi:prs[i]? = some prs[i]:=List.getElem?_eq_getElem (by rw [hpl];exact hi);have hrow:=hrs.2 i _ _ hpi hri;have hoki:=aG _ (List.getElem_mem hi);have hw:cN rs ls i=(rs[i]).dM i++(if (rs[i]).isCall=true∧(i:Int)∈ls.map (·.1) then [lv ls i] else []):=by unfold cN;rw [hri]
   generalize rs[i]=r at hri hrow hoki hw;generalize prs[i]=p0 at hpi hrow;have hat:dz (prs.map V.ref) (i:Int)=some (.ref p0):=cn (by rw [List.getElem?_map,hpi];rfl);obtain ⟨dx,hdx⟩:=id hrow
   refine ⟨_, (aj (aI (i := 3) pA.nd rfl (Or.inl rfl) (fW (P := P) (w := w) (K := K) (mg := mg) (base := base) (k := 1) ⟨rfl, rfl, rfl, rfl, rfl⟩ (aD (aJ (K := K) rfl) (pv 0) (pv 2) (fun _ _ => rfl)) (hr.mono (by decide)) aC (aa (pv 2) ag)))
     (aj (aS (PW.pt (i_ (cV (K:=K) rfl (aP (e_ (K:=K) rfl) rfl T.dS dQ (aa (aD (aJ (K:=K) rfl) (pv 0) (pv 2) (fun _ _=>rfl)) (aa (bj (v:=.ref a.bq) rfl T.jT rfl) ag)))) (gL (Gx (Fe (mM hr) (pv 2) (pv 1)))))) (ak (bG (cA (K:=K) rfl PySem.F.plainAttrs_list PySem.F.slot_list_append PySem.F.type_list_append bM (pv 3) (aa (xT (mM hr) (pv 1) (pv 2) (fun _ _=>rfl)) ag)))) aH)
     (ak (az (pv 3))))),?_⟩
   refine aX (σ':=[some _,some _,some _,none]) rfl ?_;walk_at "rk";refine eS hdx (rO _) ((nP T hoki.2).mono (by decide)) ?_;walk_at "rk";refine ⟨p0,i,rfl,hrow,fun l nl=>?_⟩;walk_at "rk";obtain ⟨t',ht1,ht2,_⟩:=jP T hoki.2 (hrow.same (ah (o:=.lst ((r.dM i).map V.int)) nl));refine iB (fun z=>nomatch z) ht1 ht2 ?_;have hgl:=CM r i;cases hcl:r.isCall with
   | false =>
     rw [hcl,if_neg (by intro z;cases z.1),List.append_nil] at hw;walk_at "rk";exact q l _ (ah nl) nl (by rw [hw];exact ae)
   | true =>
     walk_at "rk";refine TR ?_;refine Rn ?_;walk_at "rk";refine Gy (kvs:=bp ls) (ay hd nl) ?_;by_cases hm:(i:Int)∈ls.map (·.1)
     · obtain ⟨kv, hkv, hke⟩ := List.mem_map.mp hm;obtain ⟨hv1,hv2⟩:=gG hnd kv hkv;rw [hke] at hv1 hv2;rw [← hv2] at hv1;rw [hv1];rw [hcl,if_pos ⟨rfl,hm⟩] at hw;refine ⟨true,rfl,?_⟩;rw [if_pos rfl];walk_at "rk";refine Ae ?_;walk_at "rk";refine ⟨d,_,rfl,hv1 ▸ gh.k (k:=.inl (i:Int)) (ay hd nl),?_⟩;walk_at "rk";refine q l _ (fun b o e=>by rw [aw (aq e nl),aw (aq e nl)];exact e) nl ?_;rw [ae,hw,List.map_append];rfl
     · rw [jh hm];rw [if_neg (fun z=>hm z.2),List.append_nil] at hw;refine ⟨false,rfl,?_⟩;rw [if_neg Bool.false_ne_true];walk_at "rk";exact q l _ (ah nl) nl (by rw [hw];exact ae)
theorem tw (T:Txt K mg a):cG P w K mg base (eM P w) 2 "heights_of" (Dx K a):=by
 refine v_ (sp:=(Dx K a)) 1 T.rX dX (fun vs H Q E h=>?_) (fun f cdv A outer s H vs Q E hr h=>?_)
 · obtain ⟨c, ly, prs, rs, ls, rfl, _⟩ := h;rfl
 · obtain ⟨c, ly, prs, rs, ls, rfl, hc, hrs, aG, h0, h2000, hls, hwy, qe, q⟩ := h;have hpl:=hrs.1
   refine ⟨_, (aj (PS.cO (f9 (i := 2) dX.nd rfl rfl (own := ["row"]) (fr := []) rfl ⟨rfl, (by walk_at "clok"), (by walk_at "frok"), rfl, (by decide +kernel), (by decide +kernel), rfl⟩ (cw (K := K) rfl (pv 0)) (fun _ _ _ _ => (aO (i := 0) (show List.Nodup [("row" : Str)] from by decide +kernel) rfl (Or.inl rfl))) (fun _ _ _ _ => cW) (fun _ _ _ _ => bB)))
     (aj (PS.cO (aI (i:=3) dX.nd rfl (Or.inl rfl) (aW ag)))
     (aj (bG (ax (o_ (K:=K) T) (hr.mono (by decide)) jR rfl (aa (pv 2) (aa (pv 3) (aa ai (aa (aD (aJ (K:=K) rfl) (bj (v:=.ref a.f_) rfl T.iE rfl) ai (fun _ _=>rfl)) ag))))))
     (aj (t_ PassesOwn.leaving (PT.cO (aB fB (aP (a8 (K:=K) rfl) rfl T.bS bR (aa (pv 3) ag)) ai (aF _))) (aj (PS.cO (aI (i:=4) dX.nd rfl (Or.inl rfl) (Eu (K:=K) rfl PySem.F.plainAttrs_list PySem.F.slot_list_pop PySem.F.type_list_pop EY (pv 3))))
     (aj (PS.cO (aI (i:=5) dX.nd rfl (Or.inl rfl) (fW (P:=P) (w:=w) (K:=K) (mg:=mg) (base:=base) (k:=1) ⟨rfl,rfl,rfl,rfl,rfl⟩ (aD (aJ (K:=K) rfl) (pv 0) (pv 4) (fun _ _=>rfl)) (hr.mono (by decide)) aC (aa (aD (aJ (K:=K) rfl) (pv 2) (pv 4) (fun _ _=>rfl)) ag))))
     (aj (aS (PT.cO (aB cU (pv 5) bB (aF _))) (ak (ku T.g0 rfl (aa (qy (pv 4)) ag))) aH)
     (aj (dE PassesOwn.leaving rfl (cw (K:=K) rfl (aD (aJ (K:=K) rfl) (pv 1) (pv 4) (fun _ _=>rfl))) (aO (i:=6) dX.nd rfl (Or.inl rfl)) (ak (bG (ax (o_ (K:=K) T) (hr.mono (by decide)) jR rfl (aa (pv 2) (aa (pv 3) (aa (pv 6) (aa (pv 5) ag))))))))
     (ak (aS (PT.cO (cV (K:=K) rfl (aP (e_ (K:=K) rfl) rfl T.dS dQ (aa (aD (aJ (K:=K) rfl) (pv 0) (pv 4) (fun _ _=>rfl)) (aa (bj (v:=.ref a.bq) rfl T.jT rfl) ag))))) (ak (bG (ax (o_ (K:=K) T) (hr.mono (by decide)) jR rfl (aa (pv 2) (aa (pv 3) (aa (bA (K:=K) rfl (aD (aJ (K:=K) rfl) (pv 0) (pv 4) (fun _ _=>rfl))) (aa (aD (aJ (K:=K) rfl) (bj (v:=.ref a.f_) rfl T.iE rfl) ai (fun _ _=>rfl)) ag))))))) aH)))))))
     (ak (PS.cO (az (pv 2)))))))),?_⟩
   refine aX (σ':=[some _,some _,none,none,none,none,none]) rfl ?_;walk_at "rk";refine ez (K:=K) (a:=c) (xs:=prs.map V.ref) (fun i ys σ H1=>(∃ v,σ = [v])∧au H H1∧ys=(List.replicate i (none:Option Int)).map cv) ⟨⟨_,rfl⟩,au.refl _,rfl⟩ (fun i ys σ H1 hi ⟨_,s1,e⟩=>⟨aA.of (s1 _ _ hc),by rw [e,List.length_map,List.length_replicate,sizeLine_eq];rw [List.length_map] at hi;omega⟩) ?_ ?_
   · rintro i v ys σ H1 hv ⟨⟨u, rfl⟩, s1, rfl⟩;walk_at "rk";exact ⟨⟨_,rfl⟩,s1,by rw [List.replicate_succ',List.map_append];rfl⟩
   rintro ys σ H1 ⟨_,s1,rfl⟩ lh nlh;rw [List.length_map,hpl];obtain ⟨qs',hst,_⟩:=T.j8;walk_at "rk";rename_i lw nlw;refine qc (hst _) (v:=.int 0) rfl ?_;walk_at "rk";have nhw:lh≠lw:=fun z=>by rw [← z,ae] at nlw;cases nlw
   have nlhH:H lh=none:=aQ s1 nlh;have nlwH:H lw=none:=aQ s1 (gF nlw).1;have hrep:(List.replicate rs.length (none:Option Int))[0]? = some none:=by rw [List.getElem?_replicate,if_pos h0]
   refine ⟨lh,lw,0,0,List.replicate rs.length none,[],rfl,ay ae nlw,ae,by rw [List.length_replicate];exact h2000,by decide,by decide,by decide,nhw,fun hb=>?T4,fun _ e0=>?UY,fun _ _=>?Wo⟩
   case T4 =>
     exfalso
     rcases hb with hb | hb | ⟨h2,e2,_⟩
     · omega
     · rw [List.length_replicate] at hb;omega
     · rw [show ((0:Int).toNat)=0 from rfl,hrep] at e2;cases e2
   case UY=>rw [show ((0:Int).toNat)=0 from rfl,hrep] at e0;cases e0
   have I0:HI rs ls ((List.replicate rs.length (none:Option Int)).set 0 (some 0)) ([]++[0]) none:=by
     refine HI.new (n:=0) ⟨List.length_replicate,fun i h hi=>?_,(fun k hk=>by cases hk),fun i _ _ h r hi=>?_,by rw [G1,List.length_replicate];exact Nat.le_of_eq (Nat.zero_add _)⟩ hrep RH.start
     · rw [List.getElem?_replicate] at hi;split at hi <;> cases hi
     · rw [List.getElem?_replicate] at hi;split at hi <;> cases hi
   have hst0:((List.replicate rs.length (none:Option Int)).set 0 (some 0))[0]? = some (some 0):=List.getElem?_set_self (by rw [List.length_replicate];exact h0);rw [show ((0:Int).toNat)=0 from rfl];generalize (List.replicate rs.length (none:Option Int)).set 0 (some 0)=hs0 at I0 hst0 ⊢;have sB:au H (upd (upd (upd (upd H1 lh (.lst ((List.replicate rs.length (none:Option Int)).map cv))) lw (.lst [])) lh (.lst (hs0.map cv))) lw (.lst (([]++[0]:List Nat).map nV))):=fun b o e=>by
     rw [aw (aq e nlwH),aw (aq e nlhH),aw (aq e nlwH),aw (aq e nlhH)];exact s1 _ _ e
   have hlhB:(upd (upd (upd (upd H1 lh (.lst ((List.replicate rs.length (none:Option Int)).map cv))) lw (.lst [])) lh (.lst (hs0.map cv))) lw (.lst (([]++[0]:List Nat).map nV))) lh=some (.lst (hs0.map cv)):=by rw [aw nhw];exact ae
   have hlwB:(upd (upd (upd (upd H1 lh (.lst ((List.replicate rs.length (none:Option Int)).map cv))) lw (.lst [])) lh (.lst (hs0.map cv))) lw (.lst (([]++[0]:List Nat).map nV))) lw=some (.lst (([]++[0]:List Nat).map nV)):=ae;generalize (upd (upd (upd (upd H1 lh (.lst ((List.replicate rs.length (none:Option Int)).map cv))) lw (.lst [])) lh (.lst (hs0.map cv))) lw (.lst (([]++[0]:List Nat).map nV)))=HB at sB hlhB hlwB ⊢;clear s1 nlh nlw hrep;walk_at "rk";refine ⟨fun j σ HQ=>∃ (hs2:List (Option Int)) (ws2:List Nat) (u v x:Option V),au H HQ∧σ = [some (.ref c),some (.ref ly),some (.ref lh),some (.ref lw),u,v,x]∧HQ lh=some (.lst (hs2.map cv))∧HQ lw=some (.lst (ws2.map nV))∧HI rs ls hs2 ws2 none∧hs2[0]? = some (some 0)∧j=ws2.length+2*nN hs2,⟨_,hs0,[]++[0],_,_,_,sB,rfl,hlhB,hlwB,I0,hst0,rfl⟩,?_⟩;clear sB hlhB hlwB I0 hst0;rintro j σ HQ ⟨hs2,ws2,u1,u2,u3,s2,rfl,hlh2,hlw2,I2,hz2,rfl⟩;have hf2:=I2.CY;have hl2:=I2.len;walk_at "rk";refine fJ (aA.of hlw2) ?_;rw [List.length_map];rcases List.eq_nil_or_concat ws2 with rfl | ⟨ws3,k,rfl⟩
   · walk_at "rk";refine q lh hs2 HQ s2 nlhH hlh2 ⟨hl2,I2.rh,hz2,fun i h r e1 e2=>(I2.cl i (by simp) (by simp) h r e1 e2).1,fun i h t e1 e2=>(I2.cl i (by simp) (by simp) h (.call t) e1 e2).2 t rfl⟩
   · rw [List.concat_eq_append] at hlw2 I2 hf2 ⊢;have hwl:(ws3++[k]).length=ws3.length+1:=by rw [List.length_append];rfl
     rw [hwl] at hf2 ⊢;walk_at "rk";refine ⟨_,fun σ' H' h=>h,?_⟩;walk_at "rk";refine IH (xs:=ws3.map nV) (y:=.int (k:Int)) (by rw [hlw2,List.map_append];rfl) ?_;obtain ⟨h,hk⟩:=I2.Dg k (List.mem_append_right _ (List.mem_singleton.mpr rfl));have hkl:k<rs.length:=by rw [← hl2];exact (List.getElem?_eq_some_iff.mp hk).1
     have hrk:rs[k]? = some rs[k]:=List.getElem?_eq_getElem hkl;have hpk:prs[k]? = some prs[k]:=List.getElem?_eq_getElem (by rw [hpl];exact hkl);have hrow:=hrs.2 k _ _ hpk hrk;have hokk:=aG _ (List.getElem_mem hkl);generalize rs[k]=r at hrk hrow hokk;generalize prs[k]=p0 at hpk hrow;have hrhk:=I2.rh k h hk;have I3:HI rs ls hs2 ws3 (some k):=⟨hl2,I2.rh,fun m hm=>I2.Dg m (List.mem_append_left _ hm),fun i hi hx=>I2.cl i (fun hm=>by
         rcases List.mem_append.mp hm with hm | hm
         · exact hi hm
         · exact hx (by rw [List.mem_singleton.mp hm])) (by simp),by omega⟩
     have s3:au H (upd HQ lw (.lst (ws3.map nV))):=fun b o e=>by rw [aw (aq e nlwH)];exact s2 _ _ e
     have hlh3:(upd HQ lw (.lst (ws3.map nV))) lh=some (.lst (hs2.map cv)):=by rw [aw nhw];exact hlh2
     have hlw3:(upd HQ lw (.lst (ws3.map nV))) lw=some (.lst (ws3.map nV)):=ae;generalize (upd HQ lw (.lst (ws3.map nV)))=HC at s3 hlh3 hlw3 ⊢;clear s2 hlh2 hlw2 I2;have hat:dz (prs.map V.ref) (k:Int)=some (.ref p0):=cn (by rw [List.getElem?_map,hpk];rfl);have hat2:dz (hs2.map cv) (k:Int)=some (.int h):=cn (by rw [List.getElem?_map,hk];rfl);have hc3:=s3 _ _ hc;have hrow3:=hrow.same s3;obtain ⟨dx,hdx⟩:=id hrow3;obtain ⟨wps,hwl0,hwl2,hwl3⟩:=id hwy;have hwl1:=s3 _ _ hwl0;have hwk:wps[k]? = some wps[k]:=List.getElem?_eq_getElem (by rw [hwl2];exact hkl);have hwayH:=hwl3 k _ hwk;generalize wps[k]=pw at hwk hwayH;have hway:=s3 _ _ hwayH;have hat3:dz (wps.map V.ref) (k:Int)=some (.ref pw):=cn (by rw [List.getElem?_map,hwk];rfl);have hwb:=yP (i:=k) aG hls h2000;walk_at "rk";refine eS hdx (jE _) ((ie T hokk.2).mono (by decide)) ?_;walk_at "rk";refine ⟨p0,h,rfl,hrow3,?_⟩;cases hh:r.aY h with
     | none =>
       show c8 5 V.aR _ _ _;walk_at "rk";refine iH ?_;walk_at "rk";refine qo ?_;walk_at "rk";exact ⟨js (by omega) (by omega),by show 1≤1000;decide,qe ⟨k,h,hrhk,.inr (.inr (.inl ⟨r,by rw [Int.toNat_natCast];exact hrk,hh⟩))⟩ _ s3⟩
     | some h' =>
       show c8 5 (V.int h') _ _ _;walk_at "rk"
       have reach_step : ∀ {hs3 : List (Option Int)} {ws4 : List Nat} {HD : Hp} {n x : Int} {R : Hp → Prop}, HI rs ls hs3 ws4 (some k) → au H HD → HD lh = some (.lst (hs3.map cv)) → HD lw = some (.lst (ws4.map nV)) → RH rs ls n x → -10000 ≤ n → n ≤ 10000 →
           (∀ hs5 ws5 HE,HI rs ls hs5 ws5 (some k)→au H HE→HE lh=some (.lst (hs5.map cv))→HE lw=some (.lst (ws5.map nV))→(∀ (i:Nat) (y:Int),hs3[i]? = some (some y)→hs5[i]? = some (some y))→0≤n→hs5[n.toNat]? = some (some x)→ws5.length+2*nN hs5≤ws4.length+2*nN hs3→R HE) →
           qP a [.ref lh,.ref lw,.int n,.int x] HD (fun _ HE=>R HE) E:=by
         intro hs3 ws4 HD n x R I4 s4 hlh4 hlw4 rh b1 b2 qq;refine ⟨lh,lw,n,x,hs3,ws4,rfl,hlh4,hlw4,by rw [I4.len];exact h2000,by have:=I4.CY;have:=I4.len;omega,b1,b2,nhw,fun hb=>qe (I4.reach rh hb) _ s4,fun p0' e0=>qq hs3 ws4 HD I4 s4 hlh4 hlw4 (fun _ _ e=>e) p0' e0 (Nat.le_refl _),fun p0' e0=>?_⟩;have hn:=(List.getElem?_eq_some_iff.mp e0).1;have hI5:=I4.new e0 (show RH rs ls ((n.toNat:Nat):Int) x by rw [show ((n.toNat:Nat):Int)=n by omega];exact rh);have hcnt:=uM (x:=x) e0;refine qq (hs3.set n.toNat (some x)) (ws4++[n.toNat]) _ hI5 (fun b o e=>by rw [aw (aq e nlwH),aw (aq e nlhH)];exact s4 _ _ e) (by rw [aw nhw];exact ae) ae (fun i y e=>gj e0 e) p0' (List.getElem?_set_self hn) ?_;rw [List.length_append];show _+1+_≤_;omega
       refine eE (K:=K) (a:=pw) (xs:=(cN rs ls k).map V.int) (fun i σ HD=>∃ (hs3:List (Option Int)) (ws4:List Nat) (x:Option V),au H HD∧σ = [some (.ref c),some (.ref ly),some (.ref lh),some (.ref lw),some (.int (k:Int)),some (.int h'),x]∧HD lh=some (.lst (hs3.map cv))∧HD lw=some (.lst (ws4.map nV))∧HI rs ls hs3 ws4 (some k)∧hs3[0]? = some (some 0)∧hs3[k]? = some (some h)∧(∀ w∈(cN rs ls k).take i,0≤w∧hs3[w.toNat]? = some (some h'))∧ws4.length+2*nN hs3≤ws3.length+2*nN hs2) ⟨hs2,ws3,_,s3,rfl,hlh3,hlw3,I3,hz2,hk,(fun w hw=>by rw [List.take_zero] at hw;cases hw),Nat.le_refl _⟩ (fun i σ HD _ ⟨_,_,_,s4,_⟩=>aA.of (s4 _ _ hwayH)) ?_ ?_
       · rintro i v σ HD hv ⟨hs3, ws4, x, s4, rfl, hlh4, hlw4, I4, hz4, hk4, hcl4, hm4⟩;obtain ⟨w,hx,rfl⟩:∃ w,(cN rs ls k)[i]? = some w∧v=.int w:=by
           rw [List.getElem?_map] at hv;obtain ⟨p,hp,e⟩:=Option.map_eq_some_iff.mp hv;exact ⟨p,hp,e.symm⟩
         have hwm:=List.mem_of_getElem? hx;walk_at "rk";refine reach_step I4 s4 hlh4 hlw4 (RH.way hrhk hrk hh hwm) (hwb w hwm).1 (hwb w hwm).2 fun hs5 ws5 HE I5 s5 hlh5 hlw5 mono p0' e5 hm5=>?_;refine ⟨hs5,ws5,_,s5,rfl,hlh5,hlw5,I5,mono 0 0 hz4,mono k h hk4,fun w' hw'=>?_,by omega⟩;rw [List.take_add_one,hx,Option.toList_some] at hw';rcases List.mem_append.mp hw' with hw' | hw'
         · exact ⟨(hcl4 w' hw').1,mono _ _ (hcl4 w' hw').2⟩
         · rw [List.mem_singleton.mp hw'];exact ⟨p0',e5⟩
       · rintro σ HD ⟨hs3, ws4, x, s4, rfl, hlh4, hlw4, I4, hz4, hk4, hcl4, hm4⟩;rw [List.length_map,List.take_length] at hcl4;have hcD:=s4 _ _ hc;have hrowD:=hrow.same s4;clear hlh3 hlw3 hc3 hrow3 hdx hway hwl1 s3 I3;obtain ⟨t',ty1,ty2,_⟩:=jP T hokk.2 hrowD;walk_at "rk";refine iB (fun z=>nomatch z) ty1 ty2 ?_;cases hcall:r.isCall with
         | false =>
           walk_at "rk";refine ⟨_,?_,hs3,ws4,_,_,_,s4,rfl,hlh4,hlw4,I4.close fun h1 r1 e1 e2=>?_,hz4,rfl⟩
           · omega
           · rw [hk4] at e1; cases e1;rw [hrk] at e2;cases e2;exact ⟨⟨h',hh,hcl4⟩,fun t ht=>by rw [ht] at hcall;cases hcall⟩
         | true =>
           obtain ⟨t,rfl⟩:∃ t,r=.call t:=by
             cases r <;> first | exact ⟨_,rfl⟩ | (cases hcall)
           obtain ⟨dxD,hdxD⟩:=hrowD;have hdxD:HD p0=some (.ins a.bq dxD (aL "target" (.int t) [])):=hdxD;have htb : 0≤t∧t≤2000:=hokk.1;walk_at "rk";refine qc (hst _) (v:=.int 0) rfl ?_;walk_at "rk";refine reach_step I4 s4 hlh4 hlw4 (RH.call hrhk hrk) (by omega) (by omega) fun hs5 ws5 HE I5 s5 hlh5 hlw5 mono p0' e5 hm5=>?_;refine ⟨_,?_,hs5,ws5,_,_,_,s5,rfl,hlh5,hlw5,I5.close fun h1 r1 e1 e2=>?_,mono 0 0 hz4,rfl⟩
           · omega
           · rw [mono k h hk4] at e1; cases e1;rw [hrk] at e2;cases e2;exact ⟨⟨h',hh,fun w hw=>⟨(hcl4 w hw).1,mono _ _ (hcl4 w hw).2⟩⟩,fun t2 ht2=>by cases ht2;exact ⟨p0',e5⟩⟩
theorem ES {D PP:Addr→Int→Hp→Prop} {G:Prop} (key:∀ l n H3,D l n H3→PP l n H3) (use:(∀ l n H3,D l n H3→PP l n H3)→G):G:=use key
theorem p_ (T:Txt K mg a):cG P w K mg base be 2 "_law_function" (DF K):=by
 refine bJ (sp:=(DF K)) 1 T.pU bt (fun vs H Q E h=>?_) (fun f cdv A outer s H vs Q E hr h=>?_)
 · obtain ⟨lc, cs, c, at_, rfl, _⟩ := h;rfl
 · obtain ⟨lc, cs, c, at_, rfl, hlc, hcl, at0, at1, q⟩ := h;refine' ⟨_,?fz,?_⟩;(case fz=>(refine' aj ?RC ?Nj;(case Nj=>(refine' aj ?IL ?IX;(case IX=>(refine' aj ?Ry ?Kk;(case Kk=>(refine' aj ?S7 ?QO;(case QO=>(refine' aj ?OW ?Sn;(case Sn=>(refine' aj ?M6 ?Rl;(case Rl=>(refine' aj ?PU ?IF;(case IF=>(refine' aj ?SH ?Ic;(case Ic=>(refine' aj ?Lr ?IU;(case IU=>(refine' aj ?Ks ?Ma;(case Ma=>(refine' aj ?NN ?Si;(case Si=>(refine' aj ?HH ?Qt;(case Qt=>(refine' aj ?QT ?Qk;(case Qk=>(refine' aj ?S0 ?PF;(case PF=>(refine' aj ?HS ?Ol;(case Ol=>(refine' aj ?Mm ?J2;(case J2=>(refine' aj ?S6 ?Me;(case Me=>exact (ak (az (aV (aa (pv 8) (aa (pv 10) ag))))));(case S6=>(refine' aS ?N5 ?R8 ?Ht;(case N5=>exact (aB (cp (K:=K) rfl hr.units) (ar aN (ar a9 (pv 0) ai) ai) ai (aF _)));(case R8=>(refine' ak ?NR;(case NR=>(refine' bG ?Hl;(case Hl=>(refine' cA (K:=K) rfl PySem.F.plainAttrs_list PySem.F.slot_list_append PySem.F.type_list_append bM ?K6 ?Sy;(case K6=>exact (pv 8));(case Sy=>(refine' aa ?IP ?Pw ?Sf;(case Sf=>rfl);(case IP=>(refine' aV ?Nq;(case Nq=>(refine' aa ?JG ?JS ?SN;(case SN=>rfl);(case JG=>exact aK);(case JS=>(refine' aa ?NK ?JU ?LC;(case LC=>rfl);(case NK=>exact (ar d6 (gQ h_ ai) (ar aN (ar a9 (pv 0) ai) ai)));(case JU=>exact ag)))))));(case Pw=>exact ag)))))))));(case Ht=>(refine' ak ?NT;(case NT=>(refine' bG ?RP;(case RP=>(refine' cA (K:=K) rfl PySem.F.plainAttrs_list PySem.F.slot_list_append PySem.F.type_list_append bM ?SX ?JW;(case SX=>exact (pv 8));(case JW=>(refine' aa ?IW ?SY ?QF;(case QF=>rfl);(case IW=>(refine' aV ?Ie;(case Ie=>(refine' aa ?Iz ?Ou ?Pz;(case Pz=>rfl);(case Iz=>exact aK);(case Ou=>(refine' aa ?Io ?JH ?NV;(case NV=>rfl);(case Io=>exact ai);(case JH=>exact ag)))))));(case SY=>exact ag)))))))))))));(case Mm=>(refine' aS ?Hu ?Po ?Sj;(case Hu=>exact (aB fB (pv 4) ai (aF _)));(case Po=>(refine' ak ?Jc;(case Jc=>(refine' bG ?Rt;(case Rt=>(refine' cA (K:=K) rfl PySem.F.plainAttrs_list PySem.F.slot_list_append PySem.F.type_list_append bM ?RA ?Nn;(case RA=>exact (pv 8));(case Nn=>(refine' aa ?HM ?Mn ?RV;(case RV=>rfl);(case HM=>(refine' aV ?Hm;(case Hm=>(refine' aa ?J9 ?SW ?RS;(case RS=>rfl);(case J9=>exact aK);(case SW=>(refine' aa ?PR ?Ly ?R1;(case R1=>rfl);(case PR=>exact (pv 4));(case Ly=>exact ag)))))));(case Mn=>exact ag)))))))));(case Sj=>exact aH)))));(case HS=>(refine' aI (i:=8) ?MB ?Rh ?M_ ?Jk ?OD ?Iw;(case MB=>exact bt.nd);(case Rh=>rfl);(case M_=>exact (Or.inl rfl));(case OD=>rfl);(case Iw=>exact .inl rfl);(case Jk=>(refine' ar (aT (K:=K) rfl) ?Ip ?Q2;(case Ip=>exact (pv 8));(case Q2=>exact (dY (own:=["_law_k"]) (fr:=[("_law_saved",3),("_law_places",6)]) rfl ⟨rfl,(by walk_at "clok"),(by walk_at "frok"),rfl,(by decide +kernel),(by decide +kernel),rfl⟩ (dq rfl T.dJ (aa (aP (a8 (K:=K) rfl) rfl T.bS bR (aa (pv 3) ag)) ag)) (fun _ _ _ _=>(aO (i:=0) (show List.Nodup [("_law_k" : Str),("_law_saved" : Str),("_law_places" : Str)] from by decide +kernel) rfl (Or.inl rfl))) (fun _ _ _ _=>cW) (fun _ _ _ _=>(aV (aa aK (aa (aD (aJ (K:=K) rfl) (pv 1) (pv 0) (fun _ _=>rfl)) (aa (aD (aJ (K:=K) rfl) (pv 2) (pv 0) (fun _ _=>rfl)) ag)))))))))))));(case S0=>exact (aI (i:=10) bt.nd rfl (Or.inl rfl) (ar (aT (K:=K) rfl) (pv 2) (aP (a8 (K:=K) rfl) rfl T.bS bR (aa (pv 8) ag)))))));(case QT=>exact (aI (i:=8) bt.nd rfl (Or.inl rfl) (ar (aT (K:=K) rfl) (pv 8) (ax (nu (K:=K) T) (hr.mono (by decide)) aC rfl (aa (fY (oU (K:=K) rfl) (pv 1) (eT ai) mT) (aa (pv 3) (aa (pv 7) (aa (ar (aT (K:=K) rfl) (pv 2) (aP (a8 (K:=K) rfl) rfl T.bS bR (aa (pv 8) ag))) ag))))))))));(case HH=>(refine' aI (i:=8) ?Rc ?MH ?Sv ?Jj ?Sr ?Ru;(case Rc=>exact bt.nd);(case MH=>rfl);(case Sv=>exact (Or.inl rfl));(case Sr=>rfl);(case Ru=>exact .inl rfl);(case Jj=>(refine' ar (aT (K:=K) rfl) ?Nu ?J5;(case Nu=>exact (pv 8));(case J5=>exact (dY (own:=["_law_k"]) (fr:=[("_law_saved",3),("_law_places",6)]) rfl ⟨rfl,(by walk_at "clok"),(by walk_at "frok"),rfl,(by decide +kernel),(by decide +kernel),rfl⟩ (rz rfl T.dJ (aa (pv 9) (aa (aP (a8 (K:=K) rfl) rfl T.bS bR (aa (pv 3) ag)) ag))) (fun _ _ _ _=>(aO (i:=0) (show List.Nodup [("_law_k" : Str),("_law_saved" : Str),("_law_places" : Str)] from by decide +kernel) rfl (Or.inl rfl))) (fun _ _ _ _=>cW) (fun _ _ _ _=>(aV (aa aK (aa (aD (aJ (K:=K) rfl) (pv 1) (pv 0) (fun _ _=>rfl)) (aa (aD (aJ (K:=K) rfl) (pv 2) (pv 0) (fun _ _=>rfl)) ag)))))))))))));(case NN=>exact (aI (i:=8) bt.nd rfl (Or.inl rfl) (ar (aT (K:=K) rfl) (pv 8) (ax (nu (K:=K) T) (hr.mono (by decide)) aC rfl (aa (fY (oU (K:=K) rfl) (pv 1) mT (eT ai)) (aa (fY (oU (K:=K) rfl) (pv 3) mT (eT (pv 9))) (aa (gQ h_ ai) (aa (ar (aT (K:=K) rfl) (pv 2) (aP (a8 (K:=K) rfl) rfl T.bS bR (aa (pv 8) ag))) ag))))))))));(case Ks=>(refine' aI (i:=8) ?KO ?SV ?Ov ?LV ?QS ?NB;(case KO=>exact bt.nd);(case SV=>rfl);(case Ov=>exact (Or.inl rfl));(case QS=>rfl);(case NB=>exact .inl rfl);(case LV=>(refine' ar (aT (K:=K) rfl) ?RF ?LL;(case RF=>exact (pv 8));(case LL=>exact (dY (own:=["_law_k"]) (fr:=[("_law_saved",3),("_law_places",6)]) rfl ⟨rfl,(by walk_at "clok"),(by walk_at "frok"),rfl,(by decide +kernel),(by decide +kernel),rfl⟩ (dq rfl T.dJ (aa (pv 9) ag)) (fun _ _ _ _=>(aO (i:=0) (show List.Nodup [("_law_k" : Str),("_law_saved" : Str),("_law_places" : Str)] from by decide +kernel) rfl (Or.inl rfl))) (fun _ _ _ _=>cW) (fun _ _ _ _=>(aV (aa aK (aa (aD (aJ (K:=K) rfl) (pv 1) (pv 0) (fun _ _=>rfl)) (aa (aD (aJ (K:=K) rfl) (pv 2) (pv 0) (fun _ _=>rfl)) ag)))))))))))));(case Lr=>exact (aI (i:=9) bt.nd rfl (Or.inl rfl) (ar a9 (ar gJ (aP (a8 (K:=K) rfl) rfl T.bS bR (aa (pv 3) ag)) (ar aN (ar a9 (pv 0) ai) ai)) ai)))));(case SH=>(refine' aS ?MF ?OO ?Ir;(case MF=>exact (aB fB (pv 4) ai (aF _)));(case OO=>(refine' ak ?Jd;(case Jd=>(refine' bG ?Pt;(case Pt=>(refine' cA (K:=K) rfl PySem.F.plainAttrs_list PySem.F.slot_list_append PySem.F.type_list_append bM ?Qw ?QX;(case Qw=>exact (pv 8));(case QX=>(refine' aa ?JT ?HN ?HV;(case HV=>rfl);(case JT=>(refine' aV ?Ja;(case Ja=>(refine' aa ?Mb ?P2 ?Rm;(case Rm=>rfl);(case Mb=>exact aK);(case P2=>(refine' aa ?Qg ?Sa ?Qd;(case Qd=>rfl);(case Qg=>exact (pv 4));(case Sa=>exact ag)))))));(case HN=>exact ag)))))))));(case Ir=>exact aH)))));(case PU=>exact (aI (i:=8) bt.nd rfl (Or.inl rfl) (aW ag)))));(case M6=>exact (aS (aB fB (pv 4) (aP (a8 (K:=K) rfl) rfl T.bS bR (aa (pv 3) ag)) (aF _)) (ak (aI (i:=7) bt.nd rfl (Or.inl rfl) (aD (aJ (K:=K) rfl) (pv 6) (aP (a8 (K:=K) rfl) rfl T.bS bR (aa (pv 3) ag)) (fun _ _=>rfl)))) aH))));(case OW=>exact (aI (i:=7) bt.nd rfl (Or.inl rfl) (gQ h_ ai)))));(case S7=>exact (aI (i:=6) bt.nd rfl (Or.inr rfl) (dY (own:=["_law_k"]) (fr:=[("_law_height",4),("_law_turn",5)]) rfl ⟨rfl,(by walk_at "clok"),(by walk_at "frok"),rfl,(by decide +kernel),(by decide +kernel),rfl⟩ (dq rfl T.dJ (aa ai ag)) (fun _ _ _ _=>(aO (i:=0) (show List.Nodup [("_law_k" : Str),("_law_height" : Str),("_law_turn" : Str)] from by decide +kernel) rfl (Or.inl rfl))) (fun _ _ _ _=>cW) (fun _ _ _ _=>(ar aN (ar (aT (K:=K) rfl) (pv 0) (pv 2)) (aP (Ak rfl) rfl T.IV Ib (aa ai (aa (pv 1) ag))))))))));(case Ry=>exact (aI (i:=5) bt.nd rfl (Or.inr rfl) (ar aN (ar a9 (pv 0) ai) ai)))));(case IL=>exact (aI (i:=4) bt.nd rfl (Or.inr rfl) (ar (aT (K:=K) rfl) (aP (a8 (K:=K) rfl) rfl T.bS bR (aa (pv 3) ag)) (ar aN (ar a9 (pv 0) ai) ai))))));(case RC=>exact (aI (i:=3) bt.nd rfl (Or.inr rfl) (dY (own:=["_law_box","_law_bit"]) (fr:=[("_law_cell",0)]) rfl ⟨rfl,(by walk_at "clok"),(by walk_at "frok"),rfl,(by decide +kernel),(by decide +kernel),rfl⟩ (Cw (K:=K) rfl rfl T.tG (aa (aW (aa ai (aa ai (aa ai (aa ai ag))))) (aa (aW (aa ai (aa ai (aa ai (aa ai ag))))) ag))) (fun _ _ _ _=>(fD (K:=K) (n:=2) rfl rfl (bP (aO (i:=0) (show List.Nodup [("_law_box" : Str),("_law_bit" : Str),("_law_cell" : Str)] from by decide +kernel) rfl (Or.inl rfl)) (bP (aO (i:=1) (show List.Nodup [("_law_box" : Str),("_law_bit" : Str),("_law_cell" : Str)] from by decide +kernel) rfl (Or.inl rfl)) ft)))) (fun _ _ _ _=>(mV (aB (eN (K:=K) rfl hr.units) (ar i9 (pv 2) (pv 1)) ai (aF _)))) (fun _ _ _ _=>(pv 0)))))))
   refine aX (σ':=[some _,some _,some _,none,none,none,none,none,none,none,none]) rfl ?_;walk_at "rd";refine FV ?_;walk_at "rd";rename_i l1 n1 l2 n2;refine ⟨_,_,_,_,rfl,aA.of (ay ae n2),aA.of ae,?_⟩;have sB:=(ah n1 (o:=.lst (([7,4,5,6]:List Int).map V.int))).trans (ah n2 (o:=.lst (([1,2,4,8]:List Int).map V.int)));refine A4 (K:=K) (xs:=([7,4,5,6]:List Int).map V.int) (ys:=([1,2,4,8]:List Int).map V.int) rfl (fun i zs σ H1=>(∃ u v,σ = [u,v,some (.int c)])∧au (upd (upd H l1 (.lst (([7,4,5,6]:List Int).map V.int))) l2 (.lst (([1,2,4,8]:List Int).map V.int))) H1∧∃ ss:List Int,zs=ss.map V.int∧ss.length≤i∧∀ s∈ss,0≤s∧s≤7) ⟨⟨_,_,rfl⟩,au.refl _,[],rfl,Nat.le_refl _,fun _ z=>by cases z⟩ (fun i zs σ H1 hi ⟨_,s1,ss,e,e2,_⟩=>⟨⟨aA.of (s1 _ _ (ay ae n2)),aA.of (s1 _ _ ae)⟩,by rw [e,List.length_map,sizeLine_eq];have z:i≤4:=hi;omega⟩) ?_ ?_
   · rintro i x y tt zs σ H1 hx hy ⟨⟨u, v, rfl⟩, s1, ss, rfl, hsl, hsb⟩ hT;obtain ⟨xi,hx1,rfl⟩:∃ c:Int,([7,4,5,6]:List Int)[i]? = some c∧x=.int c:=by
       rw [List.getElem?_map] at hx;obtain ⟨c,h1,e⟩:=Option.map_eq_some_iff.mp hx;exact ⟨c,h1,e.symm⟩
     obtain ⟨yi,hy1,rfl⟩:∃ c:Int,([1,2,4,8]:List Int)[i]? = some c∧y=.int c:=by
       rw [List.getElem?_map] at hy;obtain ⟨c,h1,e⟩:=Option.map_eq_some_iff.mp hy;exact ⟨c,h1,e.symm⟩
     have hxb : 0≤xi∧xi≤7:=by
       have z:=List.mem_of_getElem? hx1;simp only [List.mem_cons,List.not_mem_nil,or_false] at z;omega
     clear hx hy;have s2:=s1.trans (ah hT (o:=.tup [.int xi,.int yi]));clear s1;walk_at "rd";refine er (fun hh=>?_) (fun hh=>?_)
     · walk_at "rd"
       exact ⟨⟨_, _, rfl⟩, s2, ss ++ [xi], by rw [List.map_append]; rfl, by simp only [List.length_append, List.length_singleton]; omega, fun y hy => by
         rcases List.mem_append.mp hy with h | h
         · exact hsb y h
         · rw [List.mem_singleton.mp h];exact hxb⟩
     · exact ⟨⟨_,_,rfl⟩,s2,ss,rfl,Nat.le_succ_of_le hsl,hsb⟩
   rintro ys σ H1 ⟨_,s1,ss,rfl,hsl,hsb⟩;have hsl:ss.length≤4:=hsl;have s0:=sB.trans s1;have hlc1:=bc s0 hlc;clear sB s1 hlc n1 n2;intro ls nls;walk_at "rd";obtain ⟨hg,ehg⟩:∃ hg:Int,(ss.length:Int)+c/16%2=hg:=⟨_,rfl⟩
   have hg0:(ss.length:Int)≤hg∧hg≤ss.length+1:=by omega
   rw [ehg];have s1:=s0.trans (ah nls (o:=.lst (ss.map V.int)));have hlc2:=bc (ah nls (o:=.lst (ss.map V.int))) hlc1;have hls2:(upd H1 ls (.lst (ss.map V.int))) ls=some (.lst (ss.map V.int)):=ae;have nls0:=aQ s0 nls;generalize upd H1 ls (HO.lst (ss.map V.int))=H2 at s1 hlc2 hls2 ⊢;clear s0 hlc1 nls;refine dZ (fun i ys σ H3=>(∃ v,σ = [v,some (.int hg),some (.int (c/32%5))])∧H3=H2∧∃ ps:List Int,ys=ps.map V.int∧ps.length=i∧∀ p∈ps,0≤p∧p≤4) ⟨⟨_,rfl⟩,rfl,[],rfl,rfl,fun _ z=>by cases z⟩ (fun i ys σ H3 hi ⟨_,_,ps,e,e2,_⟩=>by rw [e,List.length_map,e2,sizeLine_eq];have z:i≤5:=hi;omega) ?_ ?_
   · rintro i ys σ H3 hi ⟨⟨v, rfl⟩, rfl, ps, rfl, hpl, hpb⟩;have hmx : 0<(if hg > 1 then hg else 1)∧(if hg > 1 then hg else 1)≤5:=by split <;> omega
     walk_at "rd";have e0:=Int.emod_nonneg (0+(i:Int)+c/32%5) (show (if hg > 1 then hg else 1)≠0 by omega);have e1:=Int.emod_lt_of_pos (0+(i:Int)+c/32%5) hmx.1
     exact ⟨⟨_, rfl⟩, rfl, ps ++ [(0 + (i : Int) + c / 32 % 5) % (if hg > 1 then hg else 1)], by rw [List.map_append]; rfl, by rw [List.length_append, hpl]; rfl, fun p hp => by
       rcases List.mem_append.mp hp with h | h
       · exact hpb p h
       · rw [List.mem_singleton.mp h];omega⟩
   rintro ys σ H3 ⟨_,rfl,ps,rfl,hpl,hpb⟩;have hpl:ps.length=5:=hpl;intro lp nlp;have s2:=s1.trans (ah nlp (o:=.lst (ps.map V.int)));have hlc3:=bc (ah nlp (o:=.lst (ps.map V.int))) hlc2;have hls3:(upd H3 lp (.lst (ps.map V.int))) ls=some (.lst (ss.map V.int)):=ay hls2 nlp;have hlp3:(upd H3 lp (.lst (ps.map V.int))) lp=some (.lst (ps.map V.int)):=ae;have nlp0:=aQ s1 nlp;generalize upd H3 lp (HO.lst (ps.map V.int))=H4 at s2 hlc3 hls3 hlp3 ⊢;clear s1 hlc2 hls2 nlp;obtain ⟨pz,hpz,hatz⟩:=eF (ns:=ps) (i:=(ss.length:Int)) (by omega) (by omega);have hpz2:=hpb pz hpz;refine' ES (D:=fun lr spv HX=>au H4 HX∧H4 lr=none∧(∃ us,HX lr=some (.lst us)∧us.length≤1∧ba fP HX us)∧-1≤spv∧spv≤5) (PP:=?PP) ?key (fun kk=>?use);(case use =>
     have grown:∀ (lr t:Addr) (nlr:H4 lr=none) (nt:(upd H4 lr (.lst [])) t=none),0<hg→∃ us,(upd (upd (upd H4 lr (.lst [])) t (.tup [.str "grow",.int hg])) lr (.lst ([]++[.ref t]))) lr=some (.lst us)∧us.length≤1∧ba fP (upd (upd (upd H4 lr (.lst [])) t (.tup [.str "grow",.int hg])) lr (.lst ([]++[.ref t]))) us:=fun lr t nlr nt h0=>⟨_,ae,Nat.le_refl _,(ba.one (r:=.grow hg) ⟨_,rfl,ae⟩ (.inl ⟨by simp only [Rw.ok,aU,isVal,aM,bb];omega,True.intro⟩)).off (ay ae nt)⟩;walk_at "rd";refine cS (fun hh=>?_) (fun hh=>?_)
     · have h0 : 0 < hg := by omega
       walk_at "rd";repeat (rename @Eq Bool _ _=>hzz;clear hzz)
       rename_i lr nlr _ t nt;have sx:au H4 (upd (upd (upd H4 lr (.lst [])) t (.tup [.str "grow",.int hg])) lr (.lst ([]++[.ref t]))):=bz ((ah nlr).trans (ah nt)) nlr;have gx:=grown lr t nlr nt h0;generalize upd (upd (upd H4 lr (HO.lst [])) t (HO.tup [V.str (Str.ofString "grow"),V.int hg])) lr (HO.lst ([]++[V.ref t]))=HX at sx gx ⊢;obtain ⟨spv,hspv⟩:∃ s:Int,pz=s:=⟨_,rfl⟩
       rw [hspv];exact kk lr spv HX ⟨sx,nlr,gx,by omega,by omega⟩
     · obtain ⟨spv, hspv⟩ : ∃ s : Int, s = -1 := ⟨_, rfl⟩
       walk_at "rd";rw [← hspv];refine cS (fun h0=>?_) (fun h0=>?_)
       · walk_at "rd";repeat (rename @Eq Bool _ _=>hzz;clear hzz)
         rename_i lr nlr t nt;have sx:au H4 (upd (upd (upd H4 lr (.lst [])) t (.tup [.str "grow",.int hg])) lr (.lst ([]++[.ref t]))):=bz ((ah nlr).trans (ah nt)) nlr;have gx:=grown lr t nlr nt h0;generalize upd (upd (upd H4 lr (HO.lst [])) t (HO.tup [V.str (Str.ofString "grow"),V.int hg])) lr (HO.lst ([]++[V.ref t]))=HX at sx gx ⊢;exact kk lr spv HX ⟨sx,nlr,gx,by omega,by omega⟩
       · walk_at "rd";repeat (rename @Eq Bool _ _=>hzz;clear hzz)
         rename_i lr nlr;have sx:au H4 (upd H4 lr (.lst [])):=ah nlr;have hx:(upd H4 lr (.lst [])) lr=some (.lst []):=ae;generalize upd H4 lr (HO.lst [])=HX at sx hx ⊢;exact kk lr spv HX ⟨sx,nlr,⟨_,hx,by decide,ba.nil⟩,by omega,by omega⟩)
   (case key =>
     intro lr spv H5 ⟨s5,nlr,⟨us,hlr,hul,tds⟩,sp0,sp1⟩;have hcut : 0≤(ss.length:Int)*(c/160%3)/2∧(ss.length:Int)*(c/160%3)/2≤ss.length:=by
       rcases (show c/160%3=0∨c/160%3=1∨c/160%3=2 by omega) with z | z | z <;> rw [z] <;> omega
     generalize (ss.length:Int)*(c/160%3)/2=cut at hcut ⊢;have s50:=s2.trans s5;have hls5:=s5 _ _ hls3;have hlp5:=s5 _ _ hlp3;have hlc5:=bc s5 hlc3;clear s2 s5 hls3 hlp3 hlc3 hatz hpz hpz2 nlr;refine ⟨by omega,by omega,?_⟩;refine dZ (fun i ys σ H6=>(∃ v,σ = [v,some (.ref ls),some (.ref lp)])∧au H5 H6∧ys.length=i∧ba fP H6 ys) ⟨⟨_,rfl⟩,au.refl _,rfl,ba.nil⟩ (fun i ys σ H6 hi ⟨_,_,e,_⟩=>by rw [e,sizeLine_eq];omega) ?_ ?_
     · rintro i ys σ H6 hi ⟨⟨v, rfl⟩, s6, hyl, tds6⟩;have hls6:=s6 _ _ hls5;have hlp6:=s6 _ _ hlp5;obtain ⟨sv,hsv,hats⟩:=eF (ns:=ss) (i:=0+(i:Int)) (by omega) (by omega);obtain ⟨pv,hpv,hatp⟩:=eF (ns:=ps) (i:=0+(i:Int)) (by omega) (by omega);have hsv2:=hsb sv hsv;have hpv2:=hpb pv hpv;clear s50 hls5 hlp5;walk_at "rd";rename_i t nt;exact ⟨⟨_,rfl⟩,s6.trans (ah nt),by rw [List.length_append,hyl];rfl,(tds6.same (ah nt)).app (ba.one (r:=.put sv pv) ⟨t,rfl,ae⟩ (.inl ⟨by simp only [Rw.ok,aU,isVal,aM,bb];omega,True.intro⟩))⟩
     rintro zs σ H6 ⟨_,s6,hzl,tdz⟩;intro lq nlq;have hzl:zs.length=cut.toNat:=hzl;have hls6:=s6 _ _ hls5;have hlp6:=s6 _ _ hlp5;have hlc6:=bc s6 hlc5;have hlr6:=s6 _ _ hlr;have s60:=s50.trans s6;have tds6:=(tds.same s6).app tdz;have hul6:(us++zs).length≤1+cut.toNat:=by rw [List.length_append];omega
     clear s50 s6 hls5 hlp5 hlc5 hlr tds tdz;walk_at "rd";rename_i lr2 n2 la na lb nb;have sX:=((ah nlq (o:=.lst zs)).trans (ah n2 (o:=.lst (us++zs)))).trans ((ah na (o:=.lst ((de cs none (some 1)).map V.int))).trans (ah nb (o:=.lst ((de ss none (some cut)).map V.int))));have hc1:(de cs none (some 1)).length≤1:=by rw [lA _ (by decide),List.length_take];exact Nat.min_le_left _ _
     have hc2:(de ss none (some cut)).length≤ss.length:=uZ _ _ _;refine ⟨la,lb,de cs none (some 1),de ss none (some cut),-1,_,rfl,aA.of (ay ae nb),by omega,aA.of ae,by omega,fun s hs=>hsb s (by rw [lA _ (by omega)] at hs;exact List.mem_of_mem_take hs),by decide,by decide,by omega,by omega,fun lb1 us1 H7 s7 hlb hub tdb=>?_⟩;have hlr7:H7 lr2=some (.lst (us++zs)):=s7 _ _ (ay (ay ae na) nb);have s8:=sX.trans s7;have hls7:=s8 _ _ hls6;have hlp7:=s8 _ _ hlp6;have hlc7:=bc s8 hlc6;have s70:=s60.trans s8;have tds7:=(tds6.same s8).app tdb;generalize us++zs=ur at hul6 hlr7 tds7 ⊢;clear s60 s7 s8 sX hls6 hlp6 hlc6 hlr6 tds6 tdb n2 na nb nlq;have hul7:(ur++us1).length≤1+2*(de cs none (some 1)).length+cut.toNat:=by rw [List.length_append];omega
     walk_at "rd";rename_i lr3 n3;have hlr8:(upd H7 lr3 (.lst (ur++us1))) lr3=some (.lst (ur++us1)):=ae;have sX:au H7 (upd H7 lr3 (.lst (ur++us1))):=ah n3;generalize upd H7 lr3 (HO.lst (ur++us1))=H8 at hlr8 sX ⊢;have hls8:=sX _ _ hls7;have hlp8:=sX _ _ hlp7;have hlc8:=bc sX hlc7;have s80:=s70.trans sX;have tds8:=tds7.same sX;generalize ur++us1=ur2 at hul7 hlr8 tds8 ⊢;clear sX n3 s70 hls7 hlp7 hlc7 hlr7 tds7;refine ⟨cut,ss.length,rfl,⟨by omega,by omega,by omega,by omega⟩,?_⟩;refine dZ (fun i ys σ H6=>(∃ v,σ = [v,some (.ref ls),some (.ref lp)])∧au H8 H6∧ys.length=i∧ba fP H6 ys) ⟨⟨_,rfl⟩,au.refl _,rfl,ba.nil⟩ (fun i ys σ H6 hi ⟨_,_,e,_⟩=>by rw [e,sizeLine_eq];omega) ?_ ?_
     · rintro i ys σ H6 hi ⟨⟨v, rfl⟩, s6, hyl, tds6⟩;have hls6:=s6 _ _ hls8;have hlp6:=s6 _ _ hlp8;obtain ⟨sv,hsv,hats⟩:=eF (ns:=ss) (i:=cut+(i:Int)) (by omega) (by omega);obtain ⟨pv,hpv,hatp⟩:=eF (ns:=ps) (i:=cut+(i:Int)) (by omega) (by omega);have hsv2:=hsb sv hsv;have hpv2:=hpb pv hpv;clear s80 hls8 hlp8;walk_at "rd";rename_i t nt;exact ⟨⟨_,rfl⟩,s6.trans (ah nt),by rw [List.length_append,hyl];rfl,(tds6.same (ah nt)).app (ba.one (r:=.put sv pv) ⟨t,rfl,ae⟩ (.inl ⟨by simp only [Rw.ok,aU,isVal,aM,bb];omega,True.intro⟩))⟩
     rintro zs σ H6 ⟨_,s6,hzl,tdz⟩;intro lq nlq;have hzl:zs.length=((ss.length:Int) - cut).toNat:=hzl;have hls9:=s6 _ _ hls8;have hlp9:=s6 _ _ hlp8;have hlc9:=bc s6 hlc8;have hlr9:=s6 _ _ hlr8;have s90:=s80.trans s6;have tds9:=(tds8.same s6).app tdz;have hul9:(ur2++zs).length≤1+2*(de cs none (some 1)).length+ss.length:=by rw [List.length_append];omega
     clear s80 s6 hls8 hlp8 hlc8 hlr8 tds8 tdz;walk_at "rd";rename_i lr4 n4 la na;have sX:=((ah nlq (o:=.lst zs)).trans (ah n4 (o:=.lst (ur2++zs)))).trans (ah na (o:=.lst ((de cs (some 1) none).map V.int)));have hc1:(de cs (some 1) none).length≤cs.length:=uZ _ _ _;have hct:=DP cs;have hul9b:=hul9;refine ⟨la,ls,de cs (some 1) none,ss,spv,_,rfl,aA.of ae,by omega,aA.of (sX _ _ hls9),by omega,hsb,by omega,by omega,by omega,by omega,fun lb2 us2 HA sA hlb hub tdb=>?_⟩;have hlrA:HA lr4=some (.lst (ur2++zs)):=sA _ _ (ay ae na);have s8:=sX.trans sA;have hlsA:=s8 _ _ hls9;have hlpA:=s8 _ _ hlp9;have sA0:=s90.trans s8;have tdsA:=(tds9.same s8).app tdb;generalize ur2++zs=ur3 at hul9 hlrA tdsA ⊢;clear s90 sA s8 sX hls9 hlp9 hlc9 hlr9 tds9 tdb n4 na nlq;have hulA:(ur3++us2).length≤1+2*cs.length+ss.length:=by rw [List.length_append];omega
     have hatb : 0≤at_∧at_≤400:=⟨at0,at1⟩
     clear at0 at1 sp0 sp1;walk_at "rd";rename_i lr5 n5;have hlrB:(upd HA lr5 (.lst (ur3++us2))) lr5=some (.lst (ur3++us2)):=ae;have sX:au HA (upd HA lr5 (.lst (ur3++us2))):=ah n5;generalize upd HA lr5 (HO.lst (ur3++us2))=HB at hlrB sX ⊢;have hlsB:=sX _ _ hlsA;have hlpB:=sX _ _ hlpA;have sB0:=sA0.trans sX;have tdsB:=tdsA.same sX;generalize ur3++us2=ur4 at hulA hlrB tdsB ⊢;clear sX n5 sA0 hlsA hlpA hlrA tdsA;refine dZ (fun i ys σ H6=>(∃ v,σ = [v,some (.ref ls),some (.ref lp)])∧au HB H6∧ys.length=i∧ba fP H6 ys) ⟨⟨_,rfl⟩,au.refl _,rfl,ba.nil⟩ (fun i ys σ H6 hi ⟨_,_,e,_⟩=>by rw [e,sizeLine_eq];omega) ?_ ?_
     · rintro i ys σ H6 hi ⟨⟨v, rfl⟩, s6, hyl, tds6⟩;have hls6:=s6 _ _ hlsB;have hlp6:=s6 _ _ hlpB;obtain ⟨sv,hsv,hats⟩:=eF (ns:=ss) (i:=0+(i:Int)) (by omega) (by omega);obtain ⟨pv,hpv,hatp⟩:=eF (ns:=ps) (i:=0+(i:Int)) (by omega) (by omega);have hsv2:=hsb sv hsv;have hpv2:=hpb pv hpv;clear sB0 hlsB hlpB;walk_at "rd";rename_i t nt;exact ⟨⟨_,rfl⟩,s6.trans (ah nt),by rw [List.length_append,hyl];rfl,(tds6.same (ah nt)).app (ba.one (r:=.get sv pv) ⟨t,rfl,ae⟩ (.inl ⟨by simp only [Rw.ok,aU,isVal,aM,bb];omega,True.intro⟩))⟩
     rintro zs σ H6 ⟨_,s6,hzl,tdz⟩;intro lq nlq;have hzl:zs.length=((ss.length:Int)).toNat:=hzl;have hlrC:=s6 _ _ hlrB;have sC0:=sB0.trans s6;have tdsC:=(tdsB.same s6).app tdz;have hulC:(ur4++zs).length≤1+2*cs.length+2*ss.length:=by rw [List.length_append];omega
     clear sB0 s6 hlsB hlpB hlrB tdsB tdz;walk_at "rd";rename_i lr6 n6;have sX:=(ah nlq (o:=.lst zs)).trans (ah n6 (o:=.lst (ur4++zs)));have hlrF:(upd (upd H6 lq (.lst zs)) lr6 (.lst (ur4++zs))) lr6=some (.lst (ur4++zs)):=ae;have nlr6:=aQ (sC0.trans (ah nlq (o:=.lst zs))) n6;generalize upd (upd H6 lq (HO.lst zs)) lr6 (HO.lst (ur4++zs))=HF at sX hlrF ⊢;have sF:=sC0.trans sX;have tdF:=tdsC.same sX;generalize ur4++zs=uf at hulC hlrF tdF ⊢;clear sX sC0 tdsC hlrC nlq n6;refine cS (fun h0=>?_) (fun h0=>?_)
     · walk_at "rd";rename_i ts nts;have sY:au H (upd (upd HF ts (.tup [.str "shrink",.int hg])) lr6 (.lst (uf++[.ref ts]))):=bz (sF.trans (ah nts)) nlr6;have hY:(upd (upd HF ts (.tup [.str "shrink",.int hg])) lr6 (.lst (uf++[.ref ts]))) lr6=some (.lst (uf++[.ref ts])):=ae;have tdY:ba fP (upd (upd HF ts (.tup [.str "shrink",.int hg])) lr6 (.lst (uf++[.ref ts]))) (uf++[.ref ts]):=((tdF.same (ah nts)).app (ba.one (r:=.shrink hg) ⟨ts,rfl,ae⟩ (.inl ⟨by simp only [Rw.ok,aU,isVal,aM,bb];omega,True.intro⟩))).off (ay hlrF nts);have hyl:(uf++[V.ref ts]).length≤2*cs.length+10:=by rw [List.length_append,List.length_singleton];omega
       generalize upd (upd HF ts (HO.tup [V.str (Str.ofString "shrink"),V.int hg])) lr6 (HO.lst (uf++[V.ref ts]))=HY at sY hY tdY ⊢;generalize uf++[V.ref ts]=uy at hY tdY hyl ⊢;clear sF hlrF tdF nts;refine fA (fun hj=>?_) (fun hj=>?_)
       · walk_at "rd";rename_i tj ntj tt ntt;have sZ:au H (upd (upd HY tj (.tup [.str "jump",.int (-1 - c/1920%3)])) lr6 (.lst (uy++[.ref tj]))):=bz (sY.trans (ah ntj)) nlr6;have tZ:ba fP (upd (upd HY tj (.tup [.str "jump",.int (-1 - c/1920%3)])) lr6 (.lst (uy++[.ref tj]))) (uy++[.ref tj]):=((tdY.same (ah ntj)).app (ba.one (r:=.dD (-1 - c/1920%3)) ⟨tj,rfl,ae⟩ (.inr (.inr ⟨_,rfl⟩)))).off (ay hY ntj);exact q tt lr6 (uy++[.ref tj]) _ _ (sZ.trans (ah ntt)) ae (ay ae ntt) (by rw [List.length_append];exact Nat.le_add_left _ _) (by rw [List.length_append,List.length_singleton];omega) (tZ.same (ah ntt)) (by omega) (by omega)
       · walk_at "rd";rename_i tj ntj tt ntt;have sZ:au H (upd (upd HY tj (.tup [.str "back",.int 7])) lr6 (.lst (uy++[.ref tj]))):=bz (sY.trans (ah ntj)) nlr6;have tZ:ba fP (upd (upd HY tj (.tup [.str "back",.int 7])) lr6 (.lst (uy++[.ref tj]))) (uy++[.ref tj]):=((tdY.same (ah ntj)).app (ba.one (r:=.back 7) ⟨tj,rfl,ae⟩ (.inl ⟨by simp only [Rw.ok,aU,isVal,aM,bb];omega,True.intro⟩))).off (ay hY ntj);exact q tt lr6 (uy++[.ref tj]) _ _ (sZ.trans (ah ntt)) ae (ay ae ntt) (by rw [List.length_append];exact Nat.le_add_left _ _) (by rw [List.length_append,List.length_singleton];omega) (tZ.same (ah ntt)) (by omega) (by omega)
     · walk_at "rd";refine fA (fun hj=>?_) (fun hj=>?_)
       · walk_at "rd";rename_i tj ntj tt ntt;have sZ:au H (upd (upd HF tj (.tup [.str "jump",.int (-1 - c/1920%3)])) lr6 (.lst (uf++[.ref tj]))):=bz (sF.trans (ah ntj)) nlr6;have tZ:ba fP (upd (upd HF tj (.tup [.str "jump",.int (-1 - c/1920%3)])) lr6 (.lst (uf++[.ref tj]))) (uf++[.ref tj]):=((tdF.same (ah ntj)).app (ba.one (r:=.dD (-1 - c/1920%3)) ⟨tj,rfl,ae⟩ (.inr (.inr ⟨_,rfl⟩)))).off (ay hlrF ntj);exact q tt lr6 (uf++[.ref tj]) _ _ (sZ.trans (ah ntt)) ae (ay ae ntt) (by rw [List.length_append];exact Nat.le_add_left _ _) (by rw [List.length_append,List.length_singleton];omega) (tZ.same (ah ntt)) (by omega) (by omega)
       · walk_at "rd";rename_i tj ntj tt ntt;have sZ:au H (upd (upd HF tj (.tup [.str "back",.int 7])) lr6 (.lst (uf++[.ref tj]))):=bz (sF.trans (ah ntj)) nlr6;have tZ:ba fP (upd (upd HF tj (.tup [.str "back",.int 7])) lr6 (.lst (uf++[.ref tj]))) (uf++[.ref tj]):=((tdF.same (ah ntj)).app (ba.one (r:=.back 7) ⟨tj,rfl,ae⟩ (.inl ⟨by simp only [Rw.ok,aU,isVal,aM,bb];omega,True.intro⟩))).off (ay hlrF ntj);exact q tt lr6 (uf++[.ref tj]) _ _ (sZ.trans (ah ntt)) ae (ay ae ntt) (by rw [List.length_append];exact Nat.le_add_left _ _) (by rw [List.length_append,List.length_singleton];omega) (tZ.same (ah ntt)) (by omega) (by omega))
theorem pL (T:Txt K mg a):cG P w K mg base be 2 "_law_any_code" (pO K 12):=by
 refine bJ (sp:=(pO K 12)) 1 T.pI d9 (fun vs H Q E h=>?_) (fun f cdv A outer s H vs Q E hr h=>?_)
 · obtain ⟨a0, ns, rfl, _⟩ := h;rfl
 · obtain ⟨a0, ns, rfl, hS, h63, q⟩ := h
   refine ⟨_, (aj (aI (i := 1) d9.nd rfl (Or.inr rfl) (ar (aT (K := K) rfl) ai (ar aN (ar a9 (ax (bN (K := K) T) (hr.mono (by decide)) aC rfl (aa (pv 0) (aa ai ag))) ai) ai)))
     (aj (f9 (i:=2) d9.nd rfl rfl (own:=["_law_k"]) (fr:=[("_law_script",0),("_law_many",1)]) rfl ⟨rfl,(by walk_at "clok"),(by walk_at "frok"),rfl,(by decide +kernel),(by decide +kernel),rfl⟩ (dq rfl T.dJ (aa (pv 1) ag)) (fun _ _ _ _=>(aO (i:=0) (show List.Nodup [("_law_k" : Str),("_law_script" : Str),("_law_many" : Str)] from by decide +kernel) rfl (Or.inl rfl))) (fun _ _ _ _=>cW) (fun _ _ _ _=>(ax (rj (K:=K) T) (hr.mono (by decide)) aC rfl (aa (ax (bN (K:=K) T) (hr.mono (by decide)) aC rfl (aa (pv 1) (aa (ar (aT (K:=K) rfl) ai (pv 0)) ag))) (aa (pv 2) ag)))))
     (aj (aI (i:=3) d9.nd rfl (Or.inl rfl) gM)
     (aj (dE PassesOwn.never rfl (cw (K:=K) rfl (fY (oU (K:=K) rfl) (pv 0) (eT ai) (eT (ar (aT (K:=K) rfl) ai (ar aN (ar a9 (ax (bN (K:=K) T) (hr.mono (by decide)) aC rfl (aa (pv 0) (aa ai ag))) ai) ai))))) (aO (i:=4) d9.nd rfl (Or.inl rfl)) (ak (qI (mM hr) (pv 3) (ar aN (pv 4) (pv 1)) (ar aN (ar a9 (pv 4) (pv 1)) (pv 1)) rfl)))
     (ak (az (aV (aa (pv 2) (aa (pv 3) ag))))))))),?_⟩
   refine aX (σ':=[some _,none,none,none,none]) rfl ?_;walk_at "rd";have hm0 : 1≤1+cellAt ns 0/2%12∧1+cellAt ns 0/2%12≤12:=⟨by omega,by omega⟩
   generalize 1+cellAt ns 0/2%12=m at hm0 ⊢;refine dZ (fun i ys σ H1=>(∃ v,σ = [v,some (.ref a0),some (.int m)])∧au H H1∧ys.length=i∧ba jd H1 ys) ⟨⟨_,rfl⟩,au.refl _,rfl,ba.nil⟩ (fun i ys σ H1 hi h=>by rw [h.2.2.1,sizeLine_eq];omega) ?_ ?_
   · rintro i ys σ H1 hi ⟨⟨v, rfl⟩, s1, hyl, tds⟩;have hS1:=bc s1 hS;walk_at "rd";exact ⟨_,_,rfl,by omega,by omega,fun u r H2 s2 hu ho=>⟨⟨_,rfl⟩,s1.trans s2,by rw [List.length_append,hyl];rfl,(tds.same s2).app (ba.one hu ho)⟩⟩
   rintro ys σ H1 ⟨_,s1,hyl,tds⟩;have hS1:=bc s1 hS;have hk : 0≤cellAt ns 0/24%3∧cellAt ns 0/24%3<3:=⟨by omega,by omega⟩
   have hcl:=oT ns (j:=30) (k:=cellAt ns 0/24%3) (by decide) hk.1;walk_at "rd";rename_i ll nll d nd lx nlx;generalize de ns (some 30) (some (30+cellAt ns 0/24%3))=cs at hcl nlx ⊢;have nd0:(upd H1 ll (.lst ys)) d=none:=nd;refine eE (K:=K) (a:=lx) (xs:=cs.map V.int) (fun i σ HD=>∃ (ls:List (Int×Int)) (v:Option V),au (upd H1 ll (.lst ys)) HD∧HD lx=some (.lst (cs.map V.int))∧σ = [some (.ref a0),some (.int m),some (.ref ll),some (.ref d),v]∧HD d=some (.dK (bp ls))∧eW ls∧ls.length≤i) ⟨[],none,(ah nd).trans (ah nlx),ae,rfl,ay ae nlx,⟨List.nodup_nil,by decide,fun p hp=>by cases hp⟩,Nat.le_refl _⟩ (fun i σ HD _ ⟨_,_,_,h,_⟩=>aA.of h) ?_ ?_
   · rintro i x σ HD hx ⟨ls, v, s3, hlx, rfl, hd, hls, hli⟩;obtain ⟨cl,hcl2,rfl⟩:∃ c:Int,cs[i]? = some c∧x=.int c:=by
       rw [List.getElem?_map] at hx;obtain ⟨c,h1,e⟩:=Option.map_eq_some_iff.mp hx;exact ⟨c,h1,e.symm⟩
     have hi:=(List.getElem?_eq_some_iff.mp hcl2).1;have v0:=Int.emod_nonneg (cl/m) (show m≠0 by omega);have v1:=Int.emod_lt_of_pos (cl/m) (show 0<m by omega);have cd:qM cl m:=⟨by omega,by omega⟩
     walk_at "rd";refine ⟨_,_,rfl,rfl,cd,?_⟩;walk_at "rd";obtain ⟨ls',e',L',n'⟩:=EM (c:=cl%m) (r:=cl/m%m) hls (by omega) (by omega) (by omega);refine j4 hd (by unfold bp;rw [List.length_map,sizeLine_eq];omega) ?_;rw [e'];exact ⟨ls',_,bz s3 nd0,by rw [aw (fun z=>by rw [z,hd] at hlx;cases hlx)];exact hlx,rfl,ae,L',by omega⟩
   · rintro σ HD ⟨ls, v, s3, hlx, rfl, hd, hls, hli⟩;walk_at "rd";rename_i tt ntt;exact q tt ll d ys ls _ ((s1.trans (ah nll)).trans (s3.trans (ah ntt))) ae (aQ s1 nll) (aQ (s1.trans (ah nll)) nd0) (fun z=>by rw [z,ae] at nd0;cases nd0) (ay (s3 _ _ ae) ntt) (by omega) (by omega) (tds.same ((ah nll).trans (s3.trans (ah ntt)))) (ay hd ntt) hls
theorem si (T:Txt K mg a) (b o:Int):bw P w K mg base be 3 a.cE "keeps" (bU a (.copy b o)):=by
 refine bh (sp:=(bU a (.copy b o))) 2 T.jX T.uL sJ (fun vs H Q E h=>?_) (fun f cdv A outer s H vs Q E hr h=>?_)
 · obtain ⟨x, s, z, rfl, _⟩ := h;rfl
 · obtain ⟨x, s, z, rfl, ⟨dx, hx⟩, hk, z0, z1, hs, q⟩ := h
   change H x=some (.ins a.cE dx (aL "one" (.int o) (aL "box" (.int b) []))) at hx
   obtain ⟨⟨k1,k2⟩,⟨k3,k4⟩⟩:=hk;refine ⟨_,(ak (az (ax (mi (K:=K) T) (hr.mono (by decide)) aC rfl (aa (pv 1) (aa (ax (dr (K:=K) T) (hr.mono (by decide)) aC rfl (aa (bA (K:=K) rfl (pv 0)) ag)) (aa (ax (dr (K:=K) T) (hr.mono (by decide)) aC rfl (aa (bA (K:=K) rfl (pv 0)) ag)) ag)))))),?_⟩;refine aX (σ':=[some _,some _,some _]) rfl ?_;walk_at "rd";exact q
theorem vz (T:Txt K mg a) (b c:Int):bw P w K mg base be 3 a.dk "keeps" (bU a (.put b c)):=by
 refine bh (sp:=(bU a (.put b c))) 2 T.mq T.wq uh (fun vs H Q E h=>?_) (fun f cdv A outer s H vs Q E hr h=>?_)
 · obtain ⟨x, s, z, rfl, _⟩ := h;rfl
 · obtain ⟨x, s, z, rfl, ⟨dx, hx⟩, hk, z0, z1, hs, q⟩ := h
   change H x=some (.ins a.dk dx (aL "cell" (.int c) (aL "box" (.int b) []))) at hx
   obtain ⟨⟨k1,k2⟩,⟨k3,k4⟩⟩:=hk;have hh : ¬ z≤c:=fun e=>by rw [show Rw.aY (.put b c) z=none from if_pos e] at hs;cases hs
   refine ⟨_,(ak (az (ax (mi (K:=K) T) (hr.mono (by decide)) aC rfl (aa (pv 1) (aa (ax (kS (K:=K) T) (hr.mono (by decide)) aC rfl (aa (bA (K:=K) rfl (pv 0)) (aa (pv 2) ag))) (aa (ax (dr (K:=K) T) (hr.mono (by decide)) aC rfl (aa (bA (K:=K) rfl (pv 0)) ag)) ag)))))),?_⟩;refine aX (σ':=[some _,some _,some _]) rfl ?_;walk_at "rd";exact q
theorem vi (T:Txt K mg a) (b c:Int):bw P w K mg base be 3 a.dj "keeps" (bU a (.get b c)):=by
 refine bh (sp:=(bU a (.get b c))) 2 T.lS T.wJ vI (fun vs H Q E h=>?_) (fun f cdv A outer s H vs Q E hr h=>?_)
 · obtain ⟨x, s, z, rfl, _⟩ := h;rfl
 · obtain ⟨x, s, z, rfl, ⟨dx, hx⟩, hk, z0, z1, hs, q⟩ := h
   change H x=some (.ins a.dj dx (aL "cell" (.int c) (aL "box" (.int b) []))) at hx
   obtain ⟨⟨k1,k2⟩,⟨k3,k4⟩⟩:=hk;have hh : ¬ z≤c:=fun e=>by rw [show Rw.aY (.get b c) z=none from if_pos e] at hs;cases hs
   refine ⟨_,(ak (az (ax (mi (K:=K) T) (hr.mono (by decide)) aC rfl (aa (pv 1) (aa (ax (dr (K:=K) T) (hr.mono (by decide)) aC rfl (aa (bA (K:=K) rfl (pv 0)) ag)) (aa (ax (kS (K:=K) T) (hr.mono (by decide)) aC rfl (aa (bA (K:=K) rfl (pv 0)) (aa (pv 2) ag))) ag)))))),?_⟩;refine aX (σ':=[some _,some _,some _]) rfl ?_;walk_at "rd";exact q
theorem i6 (T:Txt K mg a):cG P w K mg base be 3 "own_complaint" (Bl K a):=by
 refine bJ (sp:=(Bl K a)) 2 T.oP oN (fun vs H Q E h=>?_) (fun f cdv A outer s H vs Q E hr h=>?_)
 · obtain ⟨x, p, r, e, rfl, _⟩ := h;rfl
 · obtain ⟨x, p, r, e, rfl, ⟨dx, hx⟩, ok, hh, he, q⟩ := h;obtain ⟨qe,h1,h2⟩:=id he
   refine ⟨_, (aj (aS (cV (K := K) rfl (ax (lT (K := K) T) (hr.mono (by decide)) aC rfl (aa (pv 1) ag))) (ak (az aK)) aH)
     (aj (aS (aB cU (fW (P:=P) (w:=w) (K:=K) (mg:=mg) (base:=base) (k:=1) ⟨rfl,rfl,rfl,rfl,rfl⟩ (pv 0) (hr.mono (by decide)) aC (aa (aD (aJ (K:=K) rfl) (pv 1) ai (fun _ _=>rfl)) ag)) bB (aF _)) (ak (az aK)) aH)
     (aj (aS (PW.pt (i_ (cV (K:=K) rfl (aP (e_ (K:=K) rfl) rfl T.dS dQ (aa (pv 0) (aa (bj (v:=.ref a.bC) rfl T.zD rfl) ag)))) (gL (hV (cV (K:=K) rfl (ax (qB (K:=K) T) (hr.mono (by decide)) aC rfl (aa (pv 0) (aa (pv 1) ag)))))))) (ak (az aK)) aH)
     (ak (az bB))))),?_⟩
   refine aX (σ':=[some _,some _]) rfl ?_;walk_at "rd";refine ⟨p,e,rfl,he,fun H1 s1=>?_⟩;have hx1:=s1 _ _ hx;have h11:=cI s1 h1;have he1:=he.same s1;unfold dW at q;cases hw:cP e with
   | true =>
     rw [hw,if_pos rfl] at q;walk_at "rd";exact q _ s1
   | false =>
     rw [hw,if_neg (by decide)] at q;walk_at "rd";refine eS hx1 (jE _) ((ie T hh).mono (by decide)) ?_;walk_at "rd";refine ⟨x,e.h,rfl,⟨dx,hx1⟩,?_⟩;walk_at "rd";cases hg:r.aY e.h with
     | none =>
       rw [hg,if_pos rfl] at q;show kr V.aR V.aR _ _;walk_at "rd";exact q _ s1
     | some z =>
       rw [hg,if_neg (fun z=>by cases z)] at q;show kr (V.int z) V.aR _ _;walk_at "rd";obtain ⟨t',ty,kc,kb⟩:=jP T hh ⟨dx,hx1⟩;cases r with
       | back b =>
         refine iB (b:=true) (fun z=>by cases z) ty kb ?_;walk_at "rd";refine ⟨x,p,b,e,rfl,⟨dx,hx1⟩,ok.1,ok.2,he1,fun H2 s2=>?_⟩;have q:∀ H',au H H'→Q (oV (if i8 b e=true then none else some .back)) H':=q;cases hm:i8 b e with
         | true =>
           rw [hm] at q;walk_at "rd";exact q _ (s1.trans s2)
         | false =>
           rw [hm] at q;walk_at "rd";exact q _ (s1.trans s2)
       | _ =>
         refine iB (b:=false) (fun z=>by cases z) ty kb ?_;walk_at "rd";exact q _ s1
theorem wC (T:Txt K mg a):cG P w K mg base be 3 "_law_code" (pO K 450):=by
 refine bJ (sp:=(pO K 450)) 2 T.wI b9 (fun vs H Q E h=>?_) (fun f cdv A outer s H vs Q E hr h=>?_)
 · obtain ⟨a0, ns, rfl, _⟩ := h;rfl
 · obtain ⟨a0, ns, rfl, hS, h63, q⟩ := h;refine' ⟨_,?fz,?_⟩;(case fz=>(refine' aj ?Kg ?Oc;(case Oc=>(refine' aj ?Rr ?Ii;(case Ii=>(refine' aj ?MT ?MM;(case MM=>(refine' aj ?RJ ?OB;(case OB=>(refine' aj ?Od ?Q9;(case Q9=>(refine' aj ?Qb ?RL;(case RL=>(refine' aj ?JN ?KY;(case KY=>exact (ak (az (aV (aa (pv 10) (aa (pv 4) ag))))));(case JN=>(refine' dE PassesOwn.never rfl (cw (K:=K) rfl (pv 2)) (aO (i:=11) b9.nd rfl (Or.inl rfl)) ?Jy;(case Jy=>(refine' aj ?Lc ?Rg;(case Rg=>exact (ak (bG (cA (K:=K) rfl PySem.F.plainAttrs_list PySem.F.slot_list_append PySem.F.type_list_append bM (pv 10) (aa (pv 11) ag)))));(case Lc=>(refine' aS ?RM ?OH ?KS;(case RM=>(refine' aB (jQ (K:=K) rfl) ?OY ?QY rfl;(case OY=>exact (aD (aJ (K:=K) rfl) (pv 11) ai (fun _ _=>rfl)));(case QY=>(refine' aW ?ML;(case ML=>(refine' aa ?Kl ?Lh ?Oz;(case Oz=>rfl);(case Kl=>exact aK);(case Lh=>(refine' aa ?Kt ?Rz ?QM;(case QM=>rfl);(case Kt=>exact aK);(case Rz=>exact ag)))))))));(case OH=>exact (ak (aI (i:=11) b9.nd rfl (Or.inl rfl) (aV (aa (aD (aJ (K:=K) rfl) (pv 11) ai (fun _ _=>rfl)) (aa (aD (aJ (K:=K) rfl) (pv 3) (ar aN (ar d6 (gQ h_ ai) (aD (aJ (K:=K) rfl) (pv 11) ai (fun _ _=>rfl))) (pv 1)) (fun _ _=>rfl)) ag))))));(case KS=>exact aH)))))))));(case Qb=>exact (aI (i:=10) b9.nd rfl (Or.inl rfl) (aW ag)))));(case Od=>(refine' dE PassesOwn.never rfl (dq rfl T.dJ (aa (pv 1) ag)) (aO (i:=5) b9.nd rfl (Or.inl rfl)) ?KD;(case KD=>(refine' aj ?PK ?J7;(case J7=>(refine' aj ?Jn ?Qx;(case Qx=>(refine' aj ?HR ?ME;(case ME=>exact (ak (aI (i:=2) b9.nd rfl (Or.inl rfl) (ar (aT (K:=K) rfl) (pv 2) (pv 6)))));(case HR=>(refine' dE PassesOwn.never rfl (dq rfl T.dJ (aa (aP (a8 (K:=K) rfl) rfl T.bS bR (aa (pv 6) ag)) ag)) (aO (i:=8) b9.nd rfl (Or.inl rfl)) ?Ox;(case Ox=>(refine' aj ?Lq ?Nk;(case Nk=>(refine' ak ?Pg;(case Pg=>(refine' aS ?R5 ?L5 ?MS;(case R5=>exact (PW.pt (i_ (aB (cp (K:=K) rfl hr.units) (aD (aJ (K:=K) rfl) (aD (aJ (K:=K) rfl) (pv 6) (pv 8) (fun _ _=>rfl)) ai (fun _ _=>rfl)) aK (aF _)) (gL (aB fB (pv 9) ai (aF _))))));(case L5=>(refine' ak ?Kz;(case Kz=>exact (qI (mM hr) (pv 4) (ar (aT (K:=K) rfl) (aP (a8 (K:=K) rfl) rfl T.bS bR (aa (pv 2) ag)) (pv 8)) (aD (aJ (K:=K) rfl) (aW (aa ai (aa (ar (aT (K:=K) rfl) (ar (aT (K:=K) rfl) (aP (a8 (K:=K) rfl) rfl T.bS bR (aa (pv 2) ag)) (pv 8)) ai) (aa (pv 7) (aa (pv 7) ag))))) (pv 9) (fun _ _=>rfl)) rfl))));(case MS=>exact aH)))));(case Lq=>exact (aI (i:=9) b9.nd rfl (Or.inl rfl) (ar aN (ar a9 (ax (bN (K:=K) T) (hr.mono (by decide)) aC rfl (aa (pv 0) (aa (ar (aT (K:=K) rfl) ai (pv 5)) ag))) (ar (aT (K:=K) rfl) ai (ar gJ ai (pv 8)))) ai)))))))));(case Jn=>exact (fQ (ax (p_ (K:=K) T) (hr.mono (by decide)) aC rfl (aa (ax (bN (K:=K) T) (hr.mono (by decide)) aC rfl (aa (pv 0) (aa (ar (aT (K:=K) rfl) ai (ar gJ ai (pv 5))) ag))) (aa (fY (oU (K:=K) rfl) (pv 0) (eT (ar (aT (K:=K) rfl) ai (ar gJ ai (pv 5)))) (eT (ar (aT (K:=K) rfl) ai (ar gJ ai (pv 5))))) (aa (aP (a8 (K:=K) rfl) rfl T.bS bR (aa (pv 2) ag)) ag)))) (fD (K:=K) rfl rfl (bP (aO (i:=6) b9.nd rfl (Or.inl rfl)) (bP (aO (i:=7) b9.nd rfl (Or.inl rfl)) ft)))))));(case PK=>exact (bG (cA (K:=K) rfl PySem.F.plainAttrs_list PySem.F.slot_list_append PySem.F.type_list_append bM (pv 3) (aa (aP (a8 (K:=K) rfl) rfl T.bS bR (aa (pv 2) ag)) ag))))))))));(case RJ=>exact (aI (i:=4) b9.nd rfl (Or.inl rfl) gM))));(case MT=>exact (aI (i:=3) b9.nd rfl (Or.inl rfl) (aW ag)))));(case Rr=>exact (aI (i:=2) b9.nd rfl (Or.inl rfl) (aW ag)))));(case Kg=>exact (aI (i:=1) b9.nd rfl (Or.inl rfl) (ar (aT (K:=K) rfl) ai (ar aN (ax (bN (K:=K) T) (hr.mono (by decide)) aC rfl (aa (pv 0) (aa ai ag))) ai))))))
   refine aX (σ':=[some _,none,none,none,none,none,none,none,none,none,none,none]) rfl ?_;have hm0 : 1≤1+cellAt ns 0%3∧1+cellAt ns 0%3≤3:=⟨by omega,by omega⟩
   walk_at "rd";generalize 1+cellAt ns 0%3=m at hm0 ⊢;rename_i lr0 nlr0 ls nls d nd;refine ic (fun i σ HD=>∃ (lr:Addr) (us:List V) (ts:List Int) (lns:List (Int×Int)) (v5 v6 v7 v8 v9:Option V),σ = [some (.ref a0),some (.int m),some (.ref lr),some (.ref ls),some (.ref d),v5,v6,v7,v8,v9,none,none]∧au H HD∧lr≠ls∧HD lr=some (.lst us)∧HD ls=some (.lst (ts.map V.int))∧HD d=some (.dK (bp lns))∧eW lns∧lns.length≤21*i∧us.length≤21*i∧i≤us.length∧ts.length=i∧(∀ t∈ts,0≤t∧t≤63)∧ba fP HD us) ⟨lr0,[],[],[],_,_,_,_,_,rfl,((ah nlr0).trans (ah nls)).trans (ah nd),(fun z=>by rw [← z,ae] at nls;cases nls),ay (ay ae nls) nd,ay ae nd,ae,⟨List.nodup_nil,by decide,fun p hp=>by cases hp⟩,Nat.le_refl _,Nat.le_refl _,Nat.le_refl _,rfl,fun _ z=>(by cases z),ba.nil⟩ ?_ ?_
   · rintro i σ HD hi ⟨lr, us, ts, lns, v5, v6, v7, v8, v9, rfl, sD, hne, hlr, hls, hd, hlg, hln, hul, hui, htl, htb, tds⟩;walk_at "rd";have nls0:H ls=none:=aQ (ah nlr0) nls;have sE:au H (upd HD ls (.lst (List.map V.int ts++[.int us.length]))):=bz sD nls0;have hlrE:(upd HD ls (.lst (List.map V.int ts++[.int us.length]))) lr=some (.lst us):=by rw [aw hne];exact hlr
     have hlsE:(upd HD ls (.lst (List.map V.int ts++[.int us.length]))) ls=some (.lst ((ts++[(us.length:Int)]).map V.int)):=by rw [ae,List.map_append];rfl
     have hdE:(upd HD ls (.lst (List.map V.int ts++[.int us.length]))) d=some (.dK (bp lns)):=by rw [aw (fun z=>by rw [z,hls] at hd;cases hd)];exact hd
     have tdE:=tds.off (o:=.lst (List.map V.int ts++[.int us.length])) hls;generalize upd HD ls (HO.lst (List.map V.int ts++[V.int us.length]))=HE at sE hlrE hlsE hdE tdE ⊢;have hSE:=bc sE hS;clear sD hlr hls hd tds;have hcl:(de ns (some (13+6*(0+(i:Int)))) (some (18+6*(0+(i:Int))))).length≤5:=by
       rw [show 18+6*(0+(i:Int))=13+6*(0+(i:Int))+5 from by omega];exact oT ns (by omega) (by decide)
     walk_at "rd";rename_i lx nlx;refine ⟨lx,_,_,_,rfl,aA.of ae,by omega,by omega,by omega,fun tq lq uq e HG sG htq hlq hq1 hq2 tdq e0 e1=>?_⟩;have sX:=(ah nlx (o:=.lst ((de ns (some (13+6*(0+(i:Int)))) (some (18+6*(0+(i:Int))))).map V.int))).trans sG;have hlrG:=sX _ _ hlrE;have hlsG:=sX _ _ hlsE;have hdG:=sX _ _ hdE;have tdG:=tdE.same sX;have hSG:=bc sX hSE;have sH:=sE.trans sX;have huq:uq.length≤21:=by omega
     have he : 0≤e∧e≤1000:=⟨e0,e1⟩
     clear sX sG sE hlrE hlsE hdE tdE hSE nlx hq2 hcl e0 e1;walk_at "rd";have nd0:H d=none:=aQ ((ah nlr0).trans (ah nls)) nd;refine ic (fun j σ HI=>∃ (lns2:List (Int×Int)) (v8 v9:Option V),σ = [some (.ref a0),some (.int m),some (.ref lr),some (.ref ls),some (.ref d),some (.int (0+(i:Int))),some (.ref lq),some (.int e),v8,v9,none,none]∧au H HI∧HI lr=some (.lst us)∧HI ls=some (.lst ((ts++[(us.length:Int)]).map V.int))∧HI lq=some (.lst uq)∧HI d=some (.dK (bp lns2))∧eW lns2∧lns2.length≤21*i+j∧ba fP HI us∧ba fP HI uq) ⟨lns,_,_,rfl,sH,hlrG,hlsG,hlq,hdG,hlg,hln,tdG,tdq⟩ ?_ ?_
     · clear sH hlrG hlsG hlq hdG hlg hln tdG tdq htq hSG;rintro j σ HI hj ⟨ln2,v8,v9,rfl,sI,hlrI,hlsI,hlqI,hdI,hlgI,hlnI,tdI,tqI⟩;have hSI:=bc sI hS;have cd:qM (cellAt ns (30+(0+(i:Int)))) (1+5*(0+(j:Int))):=⟨by omega,by omega⟩
       walk_at "rd";refine ⟨_,_,rfl,rfl,cd,?_⟩;walk_at "rd";refine mZ hlqI tqI (by omega) (by omega) fun u r ⟨p,hup,hp⟩ ho=>?_;subst hup;walk_at "rd";refine qc (aZ.of hp) (v:=.str r.jI.1) (show dz (V.str r.jI.1::r.jI.2.map V.int) ((0:Nat):Int)=_ from cn rfl) ?_;walk_at "rd";have hw : 0≤cellAt ns (30+(0+(i:Int)))/(1+5*(0+(j:Int)))%4∧cellAt ns (30+(0+(i:Int)))/(1+5*(0+(j:Int)))%4<4:=⟨by omega,by omega⟩
       generalize cellAt ns (30+(0+(i:Int)))/(1+5*(0+(j:Int)))%4=way at hw ⊢;have same:∃ (lns2:List (Int×Int)) (v8 v9:Option V),[some (.ref a0),some (.int m),some (.ref lr),some (.ref ls),some (.ref d),some (.int (0+(i:Int))),some (.ref lq),some (.int e),some (.int (0+(j:Int))),some (.int way),none,none]=[some (.ref a0),some (.int m),some (.ref lr),some (.ref ls),some (.ref d),some (.int (0+(i:Int))),some (.ref lq),some (.int e),v8,v9,none,none]∧au H HI∧HI lr=some (.lst us)∧HI ls=some (.lst ((ts++[(us.length:Int)]).map V.int))∧HI lq=some (.lst uq)∧HI d=some (.dK (bp lns2))∧eW lns2∧lns2.length≤21*i+(j+1)∧ba fP HI us∧ba fP HI uq:=⟨ln2,_,_,rfl,sI,hlrI,hlsI,hlqI,hdI,hlgI,by omega,tdI,tqI⟩
       refine cS (fun hc=>?_) (fun hc=>?_)
       · walk_at "rd";refine cS (fun hw1=>?_) (fun hw1=>?_)
         · obtain ⟨tv, htv, hatv⟩ := eF (ns := [0, (us.length : Int) + (0 + (j : Int)) + 1, e, e]) (i := way) hw.1 hw.2;have hatv:dz [V.int 0,V.int ((us.length:Int)+(0+(j:Int))+1),V.int e,V.int e] way=some (.int tv):=hatv;have htv2 : -10000≤tv∧tv≤10000:=by
             simp only [List.mem_cons,List.not_mem_nil,or_false] at htv;omega
           clear same;walk_at "rd";rename_i l9 n9;obtain ⟨ls',e',L',n'⟩:=Es (c:=(us.length:Int)+(0+(j:Int))) (r:=tv) hlgI (by omega) htv2.1 htv2.2;have hd9:(upd HI l9 (.lst [.int 0,.int ((us.length:Int)+(0+(j:Int))+1),.int e,.int e])) d=some (.dK (bp ln2)):=ay hdI n9;refine j4 hd9 (by unfold bp;rw [List.length_map,sizeLine_eq];omega) ?_;rw [e'];exact ⟨ls',_,_,rfl,bz (sI.trans (ah n9)) nd0,k_ (ay hlrI n9) hd9,k_ (ay hlsI n9) hd9,k_ (ay hlqI n9) hd9,ae,L',by omega,(tdI.same (ah n9)).Gf hd9,(tqI.same (ah n9)).Gf hd9⟩
         · walk_at "rd";exact same
       · walk_at "rd";exact same
     · clear sH hlrG hlsG hlq hdG hlg hln tdG tdq htq hSG;rintro σ HI ⟨ln2,v8,v9,rfl,sI,hlrI,hlsI,hlqI,hdI,hlgI,hlnI,tdI,tqI⟩;have hlnI:ln2.length≤21*i+uq.length:=hlnI;walk_at "rd";rename_i l9 n9
       exact ⟨l9, us ++ uq, ts ++ [(us.length : Int)], ln2, _, _, _, _, _, rfl, sI.trans (ah n9), (fun z => by rw [z, hlsI] at n9; cases n9), ae, ay hlsI n9, ay hdI n9, hlgI, by omega, by rw [List.length_append]; omega, by rw [List.length_append]; omega, by rw [List.length_append, htl]; rfl, fun t ht => by
         rcases List.mem_append.mp ht with z | z
         · exact htb t z
         · rw [List.mem_singleton.mp z];omega,(tdI.app tqI).same (ah n9)⟩
   · rintro σ HD ⟨lr, us, ts, lns, v5, v6, v7, v8, v9, rfl, sD, hne, hlr, hls, hd, hlg, hln, hul, hui, htl, htb, tds⟩;have hi3:m.toNat≤3:=by omega
     walk_at "rd";rename_i lf nlf;have nls0:H ls=none:=aQ (ah nlr0) nls;have sE:=sD.trans (ah nlf (o:=.lst []));refine eE (K:=K) (a:=lr) (xs:=us) (fun i σ HF=>∃ (uf:List V) (v11:Option V),σ = [some (.ref a0),some (.int m),some (.ref lr),some (.ref ls),some (.ref d),v5,v6,v7,v8,v9,some (.ref lf),v11]∧au HD HF∧HF lf=some (.lst uf)∧uf.length=i∧ba jd HF uf) ⟨[],_,rfl,ah nlf,ae,rfl,ba.nil⟩ (fun i σ HF _ ⟨_,_,_,s,_⟩=>aA.of (s _ _ hlr)) ?_ ?_
     · rintro i x σ HF hx ⟨uf, v11, rfl, sF, hlf, hfl, tdf⟩;obtain ⟨r,⟨p,rfl,hp⟩,hr⟩:=tds x (List.mem_of_getElem? hx);have hi:=(List.getElem?_eq_some_iff.mp hx).1;have hpF:=sF _ _ hp;have hlsF:=sF _ _ hls;clear sE sD hlr hls hd hp;by_cases hc:(∃ t,r=.call t)∨∃ t,r=.dD t
       · obtain ⟨t0, ht0⟩ : ∃ t, r = .call t ∨ r = .dD t := by
           rcases hc with ⟨t,e⟩ | ⟨t,e⟩
           · exact ⟨t,.inl e⟩
           · exact ⟨t,.inr e⟩
         have hm1 : 0<m:=by omega
         have z0:=Int.emod_nonneg (-1 - t0) (show m≠0 by omega);have z1:=Int.emod_lt_of_pos (-1 - t0) hm1;obtain ⟨tv,htv,hatv⟩:=eF (ns:=ts) (i:=(-1 - t0)%m) z0 (by omega);have htv2:=htb tv htv;rcases ht0 with rfl | rfl
         · have hpF : HF p = some (.tup [.str "call", .int t0]) := hpF;walk_at "rd";refine eB (aA.of ae) rfl rfl ?_;rw [show fE (V.str (Str.ofString "call")) [V.str (Str.ofString "call"),V.str (Str.ofString "jump")]=true from by decide +kernel];walk_at "rd";rename_i l9 n9 t9 nt9;have tZ:ba jd (upd (upd (upd HF l9 (.lst [.str "call",.str "jump"])) t9 (.tup [.str "call",.int tv])) lf (.lst (uf++[.ref t9]))) (uf++[.ref t9]):=((tdf.same ((ah n9).trans (ah nt9))).app (ba.one (r:=.call tv) ⟨t9,rfl,ae⟩ ⟨by simp only [Rw.ok,aU,isVal,aM,bb];omega,True.intro⟩)).off (ay (ay hlf n9) nt9);exact ⟨uf++[.ref t9],_,rfl,bz (sF.trans ((ah n9).trans (ah nt9))) nlf,ae,by rw [List.length_append,hfl];rfl,tZ⟩
         · have hpF : HF p = some (.tup [.str "jump", .int t0]) := hpF;walk_at "rd";refine eB (aA.of ae) rfl rfl ?_;rw [show fE (V.str (Str.ofString "jump")) [V.str (Str.ofString "call"),V.str (Str.ofString "jump")]=true from by decide +kernel];walk_at "rd";rename_i l9 n9 t9 nt9;have tZ:ba jd (upd (upd (upd HF l9 (.lst [.str "call",.str "jump"])) t9 (.tup [.str "jump",.int tv])) lf (.lst (uf++[.ref t9]))) (uf++[.ref t9]):=((tdf.same ((ah n9).trans (ah nt9))).app (ba.one (r:=.dD tv) ⟨t9,rfl,ae⟩ ⟨by simp only [Rw.ok,aU,isVal,aM,bb];omega,True.intro⟩)).off (ay (ay hlf n9) nt9);exact ⟨uf++[.ref t9],_,rfl,bz (sF.trans ((ah n9).trans (ah nt9))) nlf,ae,by rw [List.length_append,hfl];rfl,tZ⟩
       · have hin : fE (V.str r.jI.1) [V.str (Str.ofString "call"), V.str (Str.ofString "jump")] = false := by
           cases r <;> first | exact absurd (.inl ⟨_,rfl⟩) hc | exact absurd (.inr ⟨_,rfl⟩) hc | (simp only [Rw.jI];decide +kernel)
         have hokr:jd r:=by
           rcases hr with z | z | z
           · exact z
           · exact absurd (.inl z) hc
           · exact absurd (.inr z) hc
         walk_at "rd";refine qc (aZ.of hpF) (v:=.str r.jI.1) (show dz (V.str r.jI.1::r.jI.2.map V.int) ((0:Nat):Int)=_ from cn rfl) ?_;walk_at "rd";refine eB (aA.of ae) rfl rfl ?_;rw [hin];walk_at "rd";rename_i l9 n9;exact ⟨uf++[.ref p],_,rfl,bz (sF.trans (ah n9)) nlf,ae,by rw [List.length_append,hfl];rfl,((tdf.same (ah n9)).app (ba.one (r:=r) ⟨p,rfl,ay hpF n9⟩ hokr)).off (ay hlf n9)⟩
     · rintro σ HF ⟨uf, v11, rfl, sF, hlf, hfl, tdf⟩;have hdF:=sF _ _ hd;walk_at "rd";rename_i tt ntt;exact q tt lf d uf lns _ ((sD.trans sF).trans (ah ntt)) ae (aQ sD nlf) (aQ ((ah nlr0).trans (ah nls)) nd) (fun z=>by rw [z,hdF] at hlf;cases hlf) (ay hlf ntt) (by omega) (by omega) (tdf.same (ah ntt)) (ay hdF ntt) hlg
theorem gn (r:Rw):r.lj.lookup ("keeps" : Str)=none:=by
 cases r <;> (show List.lookup _ (aL _ _ _)=none;walk_at "nolk")
theorem fi (T:Txt K mg a) {r:Rw} (hr:r.here):bw P w K mg base be 3 (r.cls a) "keeps" (bU a r):=by
 cases r
 · exact (vP T _ _).mono (by decide)
 · exact (si T _ _).mono (by decide)
 · exact (uE T _ _ _).mono (by decide)
 · exact hr.elim
 · exact hr.elim
 · exact hr.elim
 · exact (sP T _).mono (by decide)
 · exact (pH T _).mono (by decide)
 · exact (vz T _ _).mono (by decide)
 · exact (vi T _ _).mono (by decide)
 · exact (se T _).mono (by decide)
 · exact (pC T _ _).mono (by decide)
 · exact (su T _).mono (by decide)
 · exact (s_ T _).mono (by decide)
 · exact (r_ T _).mono (by decide)
theorem iZ (T:Txt K mg a):cG P w K mg base be 4 "way_complaint" (Bc K a):=by
 refine bJ (sp:=(Bc K a)) 3 T.oM dO (fun vs H Q E h=>?_) (fun f cdv A outer s H vs Q E hr h=>?_)
 · obtain ⟨x, p, l, c, r, e, ev, es, rfl, _⟩ := h;rfl
 · obtain ⟨x, p, l, c, r, e, ev, es, rfl, ⟨dx, hx⟩, ok, hh, he, nn, e0, e4, hs, hl, hev, hnn, q⟩ := h;obtain ⟨qe,h1,h2⟩:=id he;unfold eL at q
   refine ⟨_, (aj (aS (hV (cV (K := K) rfl (ax (mz (K := K) T) (hr.mono (by decide)) aC rfl (aa (pv 2) (aa (pv 3) ag))))) (ak (az aK)) aH)
     (aj (aI (i:=4) dO.nd rfl (Or.inl rfl) (aD (aJ (K:=K) rfl) (pv 3) (pv 2) (fun _ _=>rfl)))
     (aj (aS (aB cU (pv 4) bB (aF _)) (ak (az aK)) aH)
     (aj (aS (aB (eN (K:=K) rfl hr.units) (aD (aJ (K:=K) rfl) (pv 4) ai (fun _ _=>rfl)) (fW (P:=P) (w:=w) (K:=K) (mg:=mg) (base:=base) (k:=1) ⟨rfl,rfl,rfl,rfl,rfl⟩ (pv 0) (hr.mono (by decide)) aC (aa (aD (aJ (K:=K) rfl) (pv 1) ai (fun _ _=>rfl)) ag)) (aF _)) (ak (az aK)) aH)
     (aj (dE PassesOwn.never rfl (DX (K:=K) rfl rfl T.tG (aa (bj (v:=.ref a.gY) rfl T.nH rfl) (aa (ax (iz (K:=K) T) (hr.mono (by decide)) aC rfl (aa (pv 1) ag)) (aa (ax (iz (K:=K) T) (hr.mono (by decide)) aC rfl (aa (pv 4) ag)) ag)))) (fD (K:=K) rfl rfl (bP (aO (i:=5) dO.nd rfl (Or.inl rfl)) (bP (aO (i:=6) dO.nd rfl (Or.inl rfl)) (bP (aO (i:=7) dO.nd rfl (Or.inl rfl)) ft)))) (ak (aS (cV (K:=K) rfl (ar i9 (pv 7) (gQ AE (fW (P:=P) (w:=w) (K:=K) (mg:=mg) (base:=base) (k:=3) ⟨rfl,rfl,rfl,rfl,rfl⟩ (pv 0) (hr.mono (by decide)) aC (aa (pv 6) (aa (aD (aJ (K:=K) rfl) (pv 1) ai (fun _ _=>rfl)) ag)))))) (ak (az (pv 5))) aH)))
     (ak (az bB))))))),?_⟩
   refine aX (σ':=[some _,some _,some _,some _,none,none,none,none]) rfl ?_;walk_at "rd";refine ⟨c,l,ev,rfl,aA.of hl,?_⟩;rw [hev.1];by_cases hc : 0≤c∧c<(es.length:Int)
   · rw [decide_eq_true hc];rw [if_pos hc] at q;obtain ⟨v,oe,hat,hoe,hmem,hv⟩:=hev.at hc.1 hc.2;rw [hoe,Option.join_some] at q;walk_at "rd";cases oe with
     | none =>
       cases hv
       walk_at "rd";exact q _ (au.refl _)
     | some t =>
       obtain ⟨pt,rfl,qt,t1,t2⟩:=id hv;have tn:=hnn t hmem;walk_at "rd";refine eS hx (jE _) ((ie T hh).mono (by decide)) ?_;walk_at "rd";refine ⟨x,e.h,rfl,⟨dx,hx⟩,?_⟩;obtain ⟨z,hg⟩:=Option.isSome_iff_exists.mp hs;have q:∀ H',au H H'→Q (oV (if r.aY e.h=some t.h then d_ r e t else some .aY)) H':=q;rw [hg] at q ⊢;show il K (V.int t.h) (V.int z) _ _;walk_at "rd";refine er (fun hz=>?_) (fun hz=>?_)
       · rw [if_neg (fun y => hz (Option.some.inj y).symm)] at q;walk_at "rd";exact q _ (au.refl _)
       rw [if_pos (by rw [hz])] at q;walk_at "rd";refine ⟨p,e,rfl,he,fun ta nta=>?_⟩;walk_at "rd";refine ⟨pt,t,rfl,gR.same ⟨qt,t1,t2⟩ (ah nta),fun tb ntb=>?_⟩;walk_at "rd";have sX:au H (upd (upd H ta (.tup (e.dC.map V.int))) tb (.tup (t.dC.map V.int))):=(ah nta).trans (ah ntb);have ha:aZ K (upd (upd H ta (.tup (e.dC.map V.int))) tb (.tup (t.dC.map V.int))) ta (e.dC.map V.int):=aZ.of (ay ae ntb);have hb:aZ K (upd (upd H ta (.tup (e.dC.map V.int))) tb (.tup (t.dC.map V.int))) tb (t.dC.map V.int):=aZ.of ae;clear nta ntb;generalize (upd (upd H ta (.tup (e.dC.map V.int))) tb (.tup (t.dC.map V.int)))=HX at sX ha hb ⊢;refine ⟨a.gY,ta,tb,_,_,_,rfl,T.jA _,ha,hb,?_⟩;unfold d_ at q;refine Cf (xs:=[.str "back",.int 4,.int 5,.int 6]) (ys:=e.dC.map V.int) (zs:=t.dC.map V.int) rfl rfl (fun i σ H2=>(∃ u1 u2 u3,σ = [some (.ref x),some (.ref p),some (.int c),some (.ref l),some (.ref pt),u1,u2,u3])∧au HX H2∧(0<i→Bt.wo t.b.toNat (r.keep e.b.toNat e.h)=0)∧(1<i→Bt.wo t.v4.toNat (r.keep e.v4.toNat e.h)=0)∧(2<i→Bt.wo t.v5.toNat (r.keep e.v5.toNat e.h)=0)∧(3<i→Bt.wo t.v6.toNat (r.keep e.v6.toNat e.h)=0)) ⟨⟨_,_,_,rfl⟩,au.refl _,(fun z=>absurd z (by decide)),(fun z=>absurd z (by decide)),(fun z=>absurd z (by decide)),(fun z=>absurd z (by decide))⟩ (fun i σ H2 _ ⟨_,s2,_⟩=>⟨T.jA _,cI s2 ha,cI s2 hb⟩) ?_ ?_
       · rintro i v1 v2 v3 T' σ H2 w1 w2 w3 ⟨⟨u1, u2, u3, rfl⟩, s2, z0, z1, z2, z3⟩ nT;have hx2:=(sX.trans s2) _ _ hx;have h12:=cI (sX.trans s2) h1;have s0:=sX.trans s2;clear sX ha hb t1 t2 h1 h2 hl hev hv he
         match i,w1,w2,w3 with
         | 0, w1, w2, w3 =>
           cases w1;cases w2;cases w3
           have eb:Builtin.bitAnd t.b (Builtin.bitNot ((r.keep e.b.toNat e.h:Nat):Int))=((Bt.wo t.b.toNat (r.keep e.b.toNat e.h):Nat):Int):=by rw [← g_,Int.toNat_of_nonneg tn.1]
           walk_at "rd";refine eS (ay hx2 nT) (gn _) ((fi T hh).mono (by decide)) ?_;walk_at "rd";refine ⟨x,e.b.toNat,e.h,by rw [Int.toNat_of_nonneg nn.1],⟨dx,ay hx2 nT⟩,ok,e0,e4,hs,?_⟩;walk_at "rd";rw [eb];by_cases hw:Bt.wo t.b.toNat (r.keep e.b.toNat e.h)=0
           · rw [hw, show (((0 : Nat) : Int) != 0) = false from rfl];walk_at "rd";exact ⟨⟨_,_,_,rfl⟩,s2.trans (ah nT),(fun _=>rfl),(fun z=>absurd z (by decide)),(fun z=>absurd z (by decide)),(fun z=>absurd z (by decide))⟩
           · rw [show ((((Bt.wo t.b.toNat (r.keep e.b.toNat e.h) : Nat) : Int)) != 0) = true from by simp [hw]];walk_at "rd";rw [if_pos hw] at q;exact q _ (s0.trans (ah nT))
         | 1, w1, w2, w3 =>
           cases w1;cases w2;cases w3
           have eb:Builtin.bitAnd t.v4 (Builtin.bitNot ((r.keep e.v4.toNat e.h:Nat):Int))=((Bt.wo t.v4.toNat (r.keep e.v4.toNat e.h):Nat):Int):=by rw [← g_,Int.toNat_of_nonneg tn.2.1]
           walk_at "rd";refine eS (ay hx2 nT) (gn _) ((fi T hh).mono (by decide)) ?_;walk_at "rd";refine ⟨x,e.v4.toNat,e.h,by rw [Int.toNat_of_nonneg nn.2.1],⟨dx,ay hx2 nT⟩,ok,e0,e4,hs,?_⟩;walk_at "rd";rw [eb];by_cases hw:Bt.wo t.v4.toNat (r.keep e.v4.toNat e.h)=0
           · rw [hw, show (((0 : Nat) : Int) != 0) = false from rfl];walk_at "rd";exact ⟨⟨_,_,_,rfl⟩,s2.trans (ah nT),(fun _=>z0 (by decide)),(fun _=>rfl),(fun z=>absurd z (by decide)),(fun z=>absurd z (by decide))⟩
           · rw [show ((((Bt.wo t.v4.toNat (r.keep e.v4.toNat e.h) : Nat) : Int)) != 0) = true from by simp [hw]];walk_at "rd";rw [if_neg (fun z=>z (z0 (by decide))),if_pos hw] at q;exact q _ (s0.trans (ah nT))
         | 2, w1, w2, w3 =>
           cases w1;cases w2;cases w3
           have eb:Builtin.bitAnd t.v5 (Builtin.bitNot ((r.keep e.v5.toNat e.h:Nat):Int))=((Bt.wo t.v5.toNat (r.keep e.v5.toNat e.h):Nat):Int):=by rw [← g_,Int.toNat_of_nonneg tn.2.2.1]
           walk_at "rd";refine eS (ay hx2 nT) (gn _) ((fi T hh).mono (by decide)) ?_;walk_at "rd";refine ⟨x,e.v5.toNat,e.h,by rw [Int.toNat_of_nonneg nn.2.2.1],⟨dx,ay hx2 nT⟩,ok,e0,e4,hs,?_⟩;walk_at "rd";rw [eb];by_cases hw:Bt.wo t.v5.toNat (r.keep e.v5.toNat e.h)=0
           · rw [hw, show (((0 : Nat) : Int) != 0) = false from rfl];walk_at "rd";exact ⟨⟨_,_,_,rfl⟩,s2.trans (ah nT),(fun _=>z0 (by decide)),(fun _=>z1 (by decide)),(fun _=>rfl),(fun z=>absurd z (by decide))⟩
           · rw [show ((((Bt.wo t.v5.toNat (r.keep e.v5.toNat e.h) : Nat) : Int)) != 0) = true from by simp [hw]];walk_at "rd";rw [if_neg (fun z=>z (z0 (by decide))),if_neg (fun z=>z (z1 (by decide))),if_pos hw] at q;exact q _ (s0.trans (ah nT))
         | 3, w1, w2, w3 =>
           cases w1;cases w2;cases w3
           have eb:Builtin.bitAnd t.v6 (Builtin.bitNot ((r.keep e.v6.toNat e.h:Nat):Int))=((Bt.wo t.v6.toNat (r.keep e.v6.toNat e.h):Nat):Int):=by rw [← g_,Int.toNat_of_nonneg tn.2.2.2]
           walk_at "rd";refine eS (ay hx2 nT) (gn _) ((fi T hh).mono (by decide)) ?_;walk_at "rd";refine ⟨x,e.v6.toNat,e.h,by rw [Int.toNat_of_nonneg nn.2.2.2],⟨dx,ay hx2 nT⟩,ok,e0,e4,hs,?_⟩;walk_at "rd";rw [eb];by_cases hw:Bt.wo t.v6.toNat (r.keep e.v6.toNat e.h)=0
           · rw [hw, show (((0 : Nat) : Int) != 0) = false from rfl];walk_at "rd";exact ⟨⟨_,_,_,rfl⟩,s2.trans (ah nT),(fun _=>z0 (by decide)),(fun _=>z1 (by decide)),(fun _=>z2 (by decide)),(fun _=>rfl)⟩
           · rw [show ((((Bt.wo t.v6.toNat (r.keep e.v6.toNat e.h) : Nat) : Int)) != 0) = true from by simp [hw]];walk_at "rd";rw [if_neg (fun z=>z (z0 (by decide))),if_neg (fun z=>z (z1 (by decide))),if_neg (fun z=>z (z2 (by decide))),if_pos hw] at q;exact q _ (s0.trans (ah nT))
         | i+4,w1,w2,w3=>simp at w1
       · rintro σ H2 ⟨⟨u1, u2, u3, rfl⟩, s2, z0, z1, z2, z3⟩;have z0:=z0 (by decide);have z1:=z1 (by decide);have z2:=z2 (by decide);have z3:=z3 (by decide);rw [if_neg (fun z=>z z0),if_neg (fun z=>z z1),if_neg (fun z=>z z2),if_neg (fun z=>z z3)] at q;walk_at "rd";exact q _ (sX.trans s2)
   · rw [decide_eq_false hc];rw [if_neg hc] at q;walk_at "rd";exact q _ (au.refl _)
theorem uV (T:Txt K mg a):cG P w K mg base be 4 "places_of" (C7 K a):=by
 refine bJ (sp:=(C7 K a)) 3 T.t8 dm (fun vs H Q E h=>?_) (fun f cdv A outer s H vs Q E hr h=>?_)
 · obtain ⟨c, ly, lh, prs, rs, ls, hs, first, rfl, _⟩ := h;rfl
 · obtain ⟨c, ly, lh, prs, rs, ls, hs, first, rfl, hc, hrs, aG, h0, h2000, hls, hwy, hlh, HO', hf, q⟩ := h;have hpl:=hrs.1;have hhl:=HO'.len
   refine ⟨_, (aj (f9 (i := 4) dm.nd rfl rfl (own := ["row"]) (fr := []) rfl ⟨rfl, (by walk_at "clok"), (by walk_at "frok"), rfl, (by decide +kernel), (by decide +kernel), rfl⟩ (cw (K := K) rfl (pv 0)) (fun _ _ _ _ => (aO (i := 0) (show List.Nodup [("row" : Str)] from by decide +kernel) rfl (Or.inl rfl))) (fun _ _ _ _ => cW) (fun _ _ _ _ => bB))
     (aj (aI (i:=5) dm.nd rfl (Or.inl rfl) gM)
     (aj (bG (ax (mw (K:=K) T) (hr.mono (by decide)) aC rfl (aa (pv 4) (aa (pv 5) (aa ai (aa (pv 3) ag))))))
     (aj (t_ PassesOwn.never (aB fB (aP Bk rfl T.bS bR (aa (pv 5) ag)) ai (aF _)) (aj (aI (i:=6) dm.nd rfl (Or.inl rfl) (eu (yo rfl) rfl T.pY px (aa (pv 5) ag)))
     (aj (aI (i:=5) dm.nd rfl (Or.inl rfl) gM)
     (ak (dE PassesOwn.never rfl (cw (K:=K) rfl (pv 6)) (aO (i:=7) dm.nd rfl (Or.inl rfl)) (aj (aI (i:=8) dm.nd rfl (Or.inl rfl) (fW (P:=P) (w:=w) (K:=K) (mg:=mg) (base:=base) (k:=3) ⟨rfl,rfl,rfl,rfl,rfl⟩ (aD (aJ (K:=K) rfl) (pv 0) (pv 7) (fun _ _=>rfl)) (hr.mono (by decide)) aC (aa (aD (aJ (K:=K) rfl) (pv 4) (pv 7) (fun _ _=>rfl)) (aa (aD (aJ (K:=K) rfl) (pv 2) (pv 7) (fun _ _=>rfl)) ag))))
     (aj (dE PassesOwn.never rfl (cw (K:=K) rfl (aD (aJ (K:=K) rfl) (pv 1) (pv 7) (fun _ _=>rfl))) (aO (i:=9) dm.nd rfl (Or.inl rfl)) (ak (bG (ax (mw (K:=K) T) (hr.mono (by decide)) aC rfl (aa (pv 4) (aa (pv 5) (aa (pv 9) (aa (pv 8) ag))))))))
     (ak (aS (cV (K:=K) rfl (aP (e_ (K:=K) rfl) rfl T.dS dQ (aa (aD (aJ (K:=K) rfl) (pv 0) (pv 7) (fun _ _=>rfl)) (aa (bj (v:=.ref a.bq) rfl T.jT rfl) ag)))) (ak (bG (ax (mw (K:=K) T) (hr.mono (by decide)) aC rfl (aa (pv 4) (aa (pv 5) (aa (bA (K:=K) rfl (aD (aJ (K:=K) rfl) (pv 0) (pv 7) (fun _ _=>rfl))) (aa (pv 3) ag))))))) aH)))))))))
     (ak (az (pv 4))))))),?_⟩
   refine aX (σ':=[some _,some _,some _,some _,none,none,none,none,none,none]) rfl ?_;walk_at "rk";refine ez (K:=K) (a:=c) (xs:=prs.map V.ref) (fun i ys σ H1=>(∃ v,σ = [v])∧au H H1∧ys=(List.replicate i (none:Option Nat)).map cC) ⟨⟨_,rfl⟩,au.refl _,rfl⟩ (fun i ys σ H1 hi ⟨_,s1,e⟩=>⟨aA.of (s1 _ _ hc),by rw [e,List.length_map,List.length_replicate,sizeLine_eq];rw [List.length_map] at hi;omega⟩) ?_ ?_
   · rintro i v ys σ H1 hv ⟨⟨u, rfl⟩, s1, rfl⟩;walk_at "rk";exact ⟨⟨_,rfl⟩,s1,by rw [List.replicate_succ',List.map_append];rfl⟩
   rintro ys σ H1 ⟨_,s1,rfl⟩ lx nlx;rw [List.length_map,hpl];have nlxH:H lx=none:=aQ s1 nlx
   have narrow_step : ∀ {ss : List (Option Nat)} {ks : List Nat} {HD : Hp} {dc : Addr} {n p : Nat} {pend : Nat → Prop} {R : Hp → Prop}, PI rs ls hs first ss pend → au H HD → HD lx = some (.lst (ss.map cC)) → HD dc = some (.dK (b8 ks)) → ks.Nodup → H dc = none → (∀ k ∈ ks, ∃ s, ss[k]? = some (some s)) → (∃ h, hs[n]? = some (some h)) → p < 2 ^ 4100 → (∀ g, Cons rs ls hs first g → Sub (g n) p) →
       (∀ ss2 ks2 HE,PI rs ls hs first ss2 (fun i=>pend i∨i∈ks2)→fH ss ss2→(∀ (i s:Nat),ss[i]? = some (some s)→ss2[i]? = some (some s)∨i∈ks2)→au H HE→(∀ b o,HD b=some o→b≠lx→b≠dc→HE b=some o)→HE lx=some (.lst (ss2.map cC))→HE dc=some (.dK (b8 ks2))→ks2.Nodup→(∀ k∈ks,k∈ks2)→(∀ k∈ks2,∃ s,ss2[k]? = some (some s))→(∃ s,ss2[n]? = some (some s)∧Sub s p)→cm ss2≤cm ss→(ks2=ks∨cm ss2<cm ss)→R HE) →
       oq [.ref lx,.ref dc,.int (n:Int),.int (p:Int)] HD (fun _ HE=>R HE) E0:=by
     intro ss ks HD dc n p pend R I s2 hx hd hnd ndc hkk hh hp hg qq;have hn:n<ss.length:=by
       obtain ⟨h,e⟩:=hh;rw [I.len,← hhl];exact (List.getElem?_eq_some_iff.mp e).1
     have ho:ss[n]? = some ss[n]:=List.getElem?_eq_getElem hn;have hkl:ks.length≤2000:=by
       have h1:=pB rs.length ks hnd fun k hk=>by
         obtain ⟨s,e⟩:=hkk k hk;rw [← I.len];exact (List.getElem?_eq_some_iff.mp e).1
       omega
     refine ⟨lx,dc,n,p,ss,ks,ss[n],rfl,hx,hd,by rw [I.len];exact h2000,hkl,hnd,ho,fun e=>?_,fun e=>?_⟩
     · refine qq ss ks HD (I.weak fun i k => .inl k) (fH.refl _) (fun i s e => .inl e) s2 (fun b o e _ _ => e) hx hd hnd (fun k hk => hk) hkk ⟨iy ss[n] p, by rw [ho, ← e], ?_⟩ (Nat.le_refl _) (.inl rfl);cases ss[n] with
       | none=>exact Sub.refl p
       | some s=>exact Sub.right s p
     · have nxd : lx ≠ dc := fun z => by rw [z, hd] at hx; cases hx
       refine qq _ (jb ks n) _ ((I.narrow ho hh hp hg).weak fun i k=>?_) (vT ho) (fun i s e1=>?_) (fun b o e1=>?_) (fun b o e1 n1 n2=>by rw [aw n2,aw n1];exact e1) (by rw [aw nxd];exact ae) ae (DR hnd n) (fun k hk=>by unfold jb;split;exact hk;exact List.mem_append_left _ hk) (fun k hk=>?_) ⟨_,List.getElem?_set_self hn,?_⟩ (Nat.le_of_lt (xP ho e hp)) (.inr (xP ho e hp))
       · rcases k with k | k
         · exact .inl k
         · refine .inr ?_;unfold jb;split
           · rename_i z;rw [k];exact z
           · rw [k];exact List.mem_append_right _ (List.mem_singleton.mpr rfl)
       · by_cases z : n = i
         · refine .inr ?_;unfold jb;split
           · rename_i z2;rw [← z];exact z2
           · rw [← z];exact List.mem_append_right _ (List.mem_singleton.mpr rfl)
         · exact .inl (by rw [List.getElem?_set_ne z];exact e1)
       · rw [aw (aq e1 ndc),aw (aq e1 nlxH)];exact s2 _ _ e1
       · by_cases z : n = k
         · rw [← z];exact ⟨_,List.getElem?_set_self hn⟩
         · rw [List.getElem?_set_ne z];refine hkk k ?_;unfold jb at hk;split at hk
           · exact hk
           · rcases List.mem_append.mp hk with hk | hk
             · exact hk
             · exact absurd (List.mem_singleton.mp hk).symm z
       · cases ss[n] with
         | none=>exact Sub.refl p
         | some s=>exact Sub.right s p
   walk_at "rk";rename_i dc ndc;have hrep:∀ (i s:Nat),(List.replicate rs.length (none:Option Nat))[i]? ≠ some (some s):=fun i s e=>by rw [List.getElem?_replicate] at e;split at e <;> cases e
   have I0:PI rs ls hs first (List.replicate rs.length (none:Option Nat)) (fun _=>False):=⟨List.length_replicate,fun i s e=>absurd e (hrep i s),fun i s e=>absurd e (hrep i s),fun i _ s h r e=>absurd e (hrep i s),fun g _ i s e=>absurd e (hrep i s)⟩
   refine narrow_step (ks:=[]) (n:=0) (p:=first) I0 (s1.trans ((ah nlx).trans (ah ndc))) (ay ae ndc) ae List.nodup_nil (aQ s1 (gF ndc).1) (fun k hk=>by cases hk) ⟨0,HO'.start⟩ hf (fun g cg=>cg.1) fun ss2 ks2 HE I2 _ _ s2 _ hx2 hd2 nd2 _ hkk2 st2 _ _=>?_;have ndcH:H dc=none:=aQ s1 (gF ndc).1;clear I0 s1 nlx ndc hrep;walk_at "rk";refine ⟨fun j σ HQ=>∃ (ss:List (Option Nat)) (ks:List Nat) (dc:Addr) (u6 u7 u8 u9:Option V),au H HQ∧σ = [some (.ref c),some (.ref ly),some (.ref lh),some (.int (first:Int)),some (.ref lx),some (.ref dc),u6,u7,u8,u9]∧HQ lx=some (.lst (ss.map cC))∧HQ dc=some (.dK (b8 ks))∧ks.Nodup∧H dc=none∧(∀ k∈ks,∃ s,ss[k]? = some (some s))∧PI rs ls hs first ss (fun i=>i∈ks)∧(∃ s0,ss[0]? = some (some s0)∧Sub s0 first)∧j=2*cm ss+(if ks=[] then 0 else 1),⟨_,ss2,ks2,dc,_,_,_,_,s2,rfl,hx2,hd2,nd2,ndcH,hkk2,I2.weak (fun i k=>k.resolve_left (fun z=>z)),st2,rfl⟩,?_⟩;clear s2 hx2 hd2 nd2 hkk2 I2 st2;rintro j σ HQ ⟨ss,ks,dc,u6,u7,u8,u9,s2,rfl,hx,hd,hnd,ndc',hkk,I,st,rfl⟩;walk_at "rk";refine ⟨dc,b8 ks,rfl,hd,?_⟩;have hkl:=pB rs.length ks hnd fun k hk=>by
     obtain ⟨s,e⟩:=hkk k hk;rw [← I.len];exact (List.getElem?_eq_some_iff.mp e).1
   have htl:(b8 ks).length=ks.length:=by unfold b8;rw [List.length_map]
   rw [htl];by_cases hz:ks=[]
   · subst hz;walk_at "rk";exact q lx ss HQ s2 nlxH hx ⟨I.weak (fun i k=>by cases k),st⟩
   · have hpos : 0 < ks.length := List.length_pos_iff.mpr hz;rw [if_neg hz];walk_at "rk";refine ⟨_,fun σ' H' h=>h,?_⟩;walk_at "rk";refine Ey hd (Aj ks) fun lw nlw=>?_;walk_at "rk";rename_i dn ndn;have nlwH:H lw=none:=aQ s2 nlw;have ndnH:H dn=none:=aQ s2 (gF ndn).1;have nwd:lw≠dn:=fun z=>(gF ndn).2 z.symm;have nwx:lw≠lx:=fun z=>by rw [z,hx] at nlw;cases nlw
     have ndx:dn≠lx:=fun z=>by have:=(gF ndn).1;rw [z,hx] at this;cases this
     have s3:=s2.trans ((ah (o:=.lst ((ks.map fun k:Nat=>(k:Int)).map V.int)) nlw).trans (ah (o:=.dK []) ndn));have hx3:=ay (o:=.dK []) (ay (o:=.lst ((ks.map fun k:Nat=>(k:Int)).map V.int)) hx nlw) ndn;have hw3:=ay (o:=.dK []) (ae (H:=HQ) (a:=lw) (o:=.lst ((ks.map fun k:Nat=>(k:Int)).map V.int))) ndn;have hd3:(upd (upd HQ lw (.lst ((ks.map fun k:Nat=>(k:Int)).map V.int))) dn (.dK [])) dn=some (.dK (b8 [])):=ae;generalize (upd (upd HQ lw (.lst ((ks.map fun k:Nat=>(k:Int)).map V.int))) dn (.dK []))=HF at s3 hx3 hw3 hd3 ⊢;clear s2 hx hd ndn nlw;refine eE (K:=K) (a:=lw) (xs:=(ks.map fun k:Nat=>(k:Int)).map V.int) (fun i σ HD=>∃ (ss2:List (Option Nat)) (ks2:List Nat) (u7 u8 u9:Option V),au H HD∧HD lw=some (.lst ((ks.map fun k:Nat=>(k:Int)).map V.int))∧σ = [some (.ref c),some (.ref ly),some (.ref lh),some (.int (first:Int)),some (.ref lx),some (.ref dn),some (.ref lw),u7,u8,u9]∧HD lx=some (.lst (ss2.map cC))∧HD dn=some (.dK (b8 ks2))∧ks2.Nodup∧(∀ k∈ks2,∃ s,ss2[k]? = some (some s))∧PI rs ls hs first ss2 (fun i'=>i'∈ks2∨i'∈ks.drop i)∧fH ss ss2∧(∃ s0,ss2[0]? = some (some s0)∧Sub s0 first)∧cm ss2≤cm ss∧(ks2=[]∨cm ss2<cm ss)) ⟨ss,[],_,_,_,s3,hw3,rfl,hx3,hd3,List.nodup_nil,(fun k hk=>by cases hk),I.weak (fun i k=>.inr k),fH.refl _,st,Nat.le_refl _,.inl rfl⟩ (fun i σ HD _ ⟨_,_,_,_,_,_,e,_⟩=>aA.of e) ?_ ?_
     · rintro i v σ HD hv ⟨ss2, ks2, u7, u8, u9, s4, hw4, rfl, hx4, hd4, nd4, hkk4, I4, le4, st4, tt4, hor4⟩;obtain ⟨k,hki,rfl⟩:∃ k:Nat,ks[i]? = some k∧v=.int (k:Int):=by
         rw [List.getElem?_map,List.getElem?_map] at hv;obtain ⟨p,hp,e⟩:=Option.map_eq_some_iff.mp hv;obtain ⟨k,hk,e2⟩:=Option.map_eq_some_iff.mp hp;exact ⟨k,hk,by rw [← e,← e2]⟩
       have hil:=(List.getElem?_eq_some_iff.mp hki).1;have hdrop:ks.drop i=k::ks.drop (i+1):=by
         rw [← (List.getElem?_eq_some_iff.mp hki).2,List.getElem_cons_drop]
       obtain ⟨s0',e0'⟩:=hkk k (List.mem_of_getElem? hki);obtain ⟨s,hsk,_⟩:=le4 k s0' e0';obtain ⟨h,hhk⟩:=I4.rd k s hsk;have hkl2:k<rs.length:=by rw [← hhl];exact (List.getElem?_eq_some_iff.mp hhk).1
       have hrk:rs[k]? = some rs[k]:=List.getElem?_eq_getElem hkl2;have hpk:prs[k]? = some prs[k]:=List.getElem?_eq_getElem (by rw [hpl];exact hkl2);have hrow:=hrs.2 k _ _ hpk hrk;have hokk:=aG _ (List.getElem_mem hkl2);generalize rs[k]=r at hrk hrow hokk;generalize prs[k]=p0 at hpk hrow;obtain ⟨h',hh',hcl'⟩:=HO'.cl k h r hhk hrk;have hbd:=yW aG (HO'.rh k h hhk);have hkb:=Ee (r:=r) hokk.1 hbd.1 hbd.2 (I4.bd k s hsk);obtain ⟨wps,hwl0,hwl2,hwl3⟩:=id hwy;have hwk:wps[k]? = some wps[k]:=List.getElem?_eq_getElem (by rw [hwl2];exact hkl2);have hwayH:=hwl3 k _ hwk;generalize wps[k]=pw at hwk hwayH;have hat:dz (prs.map V.ref) (k:Int)=some (.ref p0):=cn (by rw [List.getElem?_map,hpk];rfl);have hat2:dz (hs.map cv) (k:Int)=some (.int h):=cn (by rw [List.getElem?_map,hhk];rfl);have hat3:dz (wps.map V.ref) (k:Int)=some (.ref pw):=cn (by rw [List.getElem?_map,hwk];rfl);have hat4:dz (ss2.map cC) (k:Int)=some (.int (s:Int)):=cn (by rw [List.getElem?_map,hsk];rfl);have hc4:=s4 _ _ hc;have hlh4:=s4 _ _ hlh;have hwl4:=s4 _ _ hwl0;have hway4:=s4 _ _ hwayH;have hrow4:=hrow.same s4;obtain ⟨dx,hdx⟩:=id hrow4;walk_at "rk";refine eS hdx (gn _) ((fi T hokk.2).mono (by decide)) ?_;walk_at "rk";refine ⟨p0,s,h,rfl,hrow4,hokk.1,hbd.1,hbd.2,by rw [hh'];rfl,?_⟩;have hcg:∀ g,Cons rs ls hs first g→∀ w∈cN rs ls k,Sub (g w.toNat) (r.keep s h):=fun g cg w hw=>((cg.2 k h r hhk hrk).1 w hw).trans (B6 r h (I4.up g cg k s hsk))
       generalize hkept:r.keep s h=kept at hkb hcg ⊢;clear hv hx3 hw3 hd3 s3;walk_at "rk";refine eE (K:=K) (a:=pw) (xs:=(cN rs ls k).map V.int) (fun m σ HE=>∃ (ss3:List (Option Nat)) (ks3:List Nat) (u9:Option V),au H HE∧HE lw=some (.lst ((ks.map fun k:Nat=>(k:Int)).map V.int))∧σ = [some (.ref c),some (.ref ly),some (.ref lh),some (.int (first:Int)),some (.ref lx),some (.ref dn),some (.ref lw),some (.int (k:Int)),some (.int (kept:Int)),u9]∧HE lx=some (.lst (ss3.map cC))∧HE dn=some (.dK (b8 ks3))∧ks3.Nodup∧(∀ k∈ks3,∃ s,ss3[k]? = some (some s))∧PI rs ls hs first ss3 (fun i'=>i'∈ks3∨i'∈ks.drop i)∧fH ss2 ss3∧(∀ (i' s':Nat),ss2[i']? = some (some s')→ss3[i']? = some (some s')∨i'∈ks3)∧(∀ w∈(cN rs ls k).take m,∃ s',ss3[w.toNat]? = some (some s')∧Sub s' kept)∧cm ss3≤cm ss2∧(ks3=ks2∨cm ss3<cm ss2)) ⟨ss2,ks2,_,s4,hw4,rfl,hx4,hd4,nd4,hkk4,I4,fH.refl _,fun i' s' e=>.inl e,(fun w hw=>by rw [List.take_zero] at hw;cases hw),Nat.le_refl _,.inl rfl⟩ (fun m σ HE _ ⟨_,_,_,s5,_⟩=>aA.of (s5 _ _ hwayH)) ?_ ?_
       · rintro m v σ HE hv ⟨ss3, ks3, u9, s5, hw5, rfl, hx5, hd5, nd5, hkk5, I5, le5, un5, cl5, tt5, hor5⟩;obtain ⟨w,hxw,rfl⟩:∃ w,(cN rs ls k)[m]? = some w∧v=.int w:=by
           rw [List.getElem?_map] at hv;obtain ⟨p,hp,e⟩:=Option.map_eq_some_iff.mp hv;exact ⟨p,hp,e.symm⟩
         have hwm:=List.mem_of_getElem? hxw;obtain ⟨hw0,hwh⟩:=hcl' w hwm;walk_at "rk";rw [show w=((w.toNat:Nat):Int) by omega];refine narrow_step I5 s5 hx5 hd5 nd5 ndnH hkk5 ⟨_,hwh⟩ hkb (fun g cg=>hcg g cg w hwm) fun ss6 ks6 HG I6 le6 un6 s6 kp6 hx6 hd6 nd6 sub6 hkk6 cl6 tt6 hor6=>?_;refine ⟨ss6,ks6,_,s6,kp6 _ _ hw5 nwx nwd,by rw [show ((w.toNat:Nat):Int)=w by omega],hx6,hd6,nd6,hkk6,I6.weak (fun i' k'=>?_),le5.trans le6,fun i' s' e=>?_,fun w' hw'=>?_,Nat.le_trans tt6 tt5,?_⟩
         · rcases k' with (k' | k') | k'
           · exact .inl (sub6 _ k')
           · exact .inr k'
           · exact .inl k'
         · rcases un5 i' s' e with e | e
           · exact un6 i' s' e
           · exact .inr (sub6 _ e)
         · rw [List.take_add_one, hxw, Option.toList_some] at hw';rcases List.mem_append.mp hw' with hw' | hw'
           · obtain ⟨s', e1, e2⟩ := cl5 w' hw';obtain ⟨s'',f1,f2⟩:=le6 _ _ e1;exact ⟨s'',f1,f2.trans e2⟩
           · rw [List.mem_singleton.mp hw'];exact cl6
         · rcases hor6 with e | e
           · rcases hor5 with e2 | e2
             · exact .inl (e.trans e2)
             · exact .inr (by omega)
           · exact .inr (by omega)
       · rintro σ HE ⟨ss3, ks3, u9, s5, hw5, rfl, hx5, hd5, nd5, hkk5, I5, le5, un5, cl5, tt5, hor5⟩;rw [List.length_map,List.take_length] at cl5;have hc5:=s5 _ _ hc;have hrow5:=hrow.same s5;clear hc4 hlh4 hwl4 hway4 hrow4 hdx;obtain ⟨t',ty1,ty2,_⟩:=jP T hokk.2 hrow5
         have fin : ∀ {ss6 : List (Option Nat)} {ks6 : List Nat} {HG : Hp} {u8 u9 : Option V}, PI rs ls hs first ss6 (fun i' => i' ∈ ks6 ∨ i' ∈ ks.drop i) → fH ss3 ss6 → (∀ (i' s' : Nat), ss3[i']? = some (some s') → ss6[i']? = some (some s') ∨ i' ∈ ks6) → (∀ k' ∈ ks3, k' ∈ ks6) → au H HG → HG lw = some (.lst ((ks.map fun k : Nat => (k : Int)).map V.int)) → HG lx = some (.lst (ss6.map cC)) → HG dn = some (.dK (b8 ks6)) → ks6.Nodup → (∀ k ∈ ks6, ∃ s, ss6[k]? = some (some s)) → cm ss6 ≤ cm ss3 → (ks6 = ks3 ∨ cm ss6 < cm ss3) → (∀ t, r = .call t → ∃ s', ss6[t.toNat]? = some (some s') ∧ Sub s' first) →
             ∃ (ss2:List (Option Nat)) (ks2:List Nat) (u7' u8' u9':Option V),au H HG∧HG lw=some (.lst ((ks.map fun k:Nat=>(k:Int)).map V.int))∧[some (V.ref c),some (.ref ly),some (.ref lh),some (.int (first:Int)),some (.ref lx),some (.ref dn),some (.ref lw),some (.int (k:Int)),u8,u9]=[some (.ref c),some (.ref ly),some (.ref lh),some (.int (first:Int)),some (.ref lx),some (.ref dn),some (.ref lw),u7',u8',u9']∧HG lx=some (.lst (ss2.map cC))∧HG dn=some (.dK (b8 ks2))∧ks2.Nodup∧(∀ k∈ks2,∃ s,ss2[k]? = some (some s))∧PI rs ls hs first ss2 (fun i'=>i'∈ks2∨i'∈ks.drop (i+1))∧fH ss ss2∧(∃ s0,ss2[0]? = some (some s0)∧Sub s0 first)∧cm ss2≤cm ss∧(ks2=[]∨cm ss2<cm ss):=by
           intro ss6 ks6 HG u8 u9 I6 le6 un6 sub6 s6 hw6 hx6 hd6 nd6 hkk6 tt6 hor6 tg6;refine ⟨ss6,ks6,_,_,_,s6,hw6,rfl,hx6,hd6,nd6,hkk6,I6.done (fun i' hi'=>?_),(le4.trans le5).trans le6,?_,by omega,?_⟩
           · by_cases z : i' = k
             · subst z;refine .inr fun s1 h1 r1 e1 e2 e3=>?_;rw [hhk] at e2;cases e2;rw [hrk] at e3;cases e3;have hne:i' ∉ ks6:=fun z=>hi' (.inl z);have e4:ss6[i']? = some (some s):=by
                 rcases un5 i' s hsk with e | e
                 · exact (un6 i' s e).resolve_right hne
                 · exact absurd (sub6 _ e) hne
               rw [e4] at e1;cases e1;refine ⟨fun w hw=>?_,tg6⟩;obtain ⟨s',f1,f2⟩:=cl5 w hw;obtain ⟨s'',g1,g2⟩:=le6 _ _ f1;exact ⟨s'',g1,by rw [hkept];exact g2.trans f2⟩
             · refine .inl fun hp => hi' ?_;rcases hp with hp | hp
               · exact .inl hp
               · rw [hdrop] at hp;exact .inr ((List.mem_cons.mp hp).resolve_left z)
           · obtain ⟨a0, b0, c0⟩ := st4;obtain ⟨a1,b1,c1⟩:=(le5.trans le6) _ _ b0;exact ⟨a1,b1,c1.trans c0⟩
           · rcases hor6 with e | e
             · rcases hor5 with e2 | e2
               · rcases hor4 with e3 | e3
                 · exact .inl (by rw [e,e2,e3])
                 · exact .inr (by omega)
               · exact .inr (by omega)
             · exact .inr (by omega)
         walk_at "rk";refine iB (fun z=>nomatch z) ty1 ty2 ?_;cases hcall:r.isCall with
         | false =>
           walk_at "rk";exact fin I5 (fH.refl _) (fun i' s' e=>.inl e) (fun k' h=>h) s5 hw5 hx5 hd5 nd5 hkk5 (Nat.le_refl _) (.inl rfl) (fun t ht=>by rw [ht] at hcall;cases hcall)
         | true =>
           obtain ⟨t,rfl⟩:∃ t,r=.call t:=by
             cases r <;> first | exact ⟨_,rfl⟩ | (cases hcall)
           obtain ⟨dxD,hdxD⟩:=hrow5;have hdxD:HE p0=some (.ins a.bq dxD (aL "target" (.int t) [])):=hdxD;obtain ⟨ht0,hth⟩:=HO'.tg k h t hhk hrk;walk_at "rk";rw [show t=((t.toNat:Nat):Int) by omega];refine narrow_step I5 s5 hx5 hd5 nd5 ndnH hkk5 ⟨_,hth⟩ hf (fun g cg=>(cg.2 k h (.call t) hhk hrk).2 t rfl) fun ss6 ks6 HG I6 le6 un6 s6 kp6 hx6 hd6 nd6 sub6 hkk6 cl6 tt6 hor6=>?_;refine fin (I6.weak (fun i' k'=>?_)) le6 un6 sub6 s6 (kp6 _ _ hw5 nwx nwd) hx6 hd6 nd6 hkk6 tt6 hor6 (fun t2 ht2=>by cases ht2;exact cl6);rcases k' with (k' | k') | k'
           · exact .inl (sub6 _ k')
           · exact .inr k'
           · exact .inl k'
     · rintro σ HD ⟨ss2, ks2, u7, u8, u9, s4, hw4, rfl, hx4, hd4, nd4, hkk4, I4, le4, st4, tt4, hor4⟩;rw [List.length_map,List.length_map,List.drop_length] at I4;refine ⟨2*cm ss2+(if ks2=[] then 0 else 1),?_,ss2,ks2,dn,_,_,_,_,s4,rfl,hx4,hd4,nd4,ndnH,hkk4,I4.weak (fun i k=>k.resolve_right (by simp)),st4,rfl⟩;split
       · omega
       · rename_i hne
         have:=hor4.resolve_left hne
         omega
end
section
variable {P:Program} {w:World} {K:W.Frag} {mg:Str→Option Value} {base:Heap} {a:cM}
theorem jk (x:V) (r:List V):ip (x::r) (some 1) none=r:=by
 unfold ip;have e1:HT.bD (x::r).length 0 (some 1)=1:=by
   rw [show HT.bD (x::r).length 0 (some 1)=min 1 (x::r).length from HT.j6 _ _ 1,List.length_cons];omega
 have e2:HT.bD (x::r).length (x::r).length none=(x::r).length:=rfl;rw [e1,e2,List.length_cons,List.drop_succ_cons,List.drop_zero,Nat.add_sub_cancel,List.take_length]
theorem gi (x:V) (r:List V) : ¬ (HT.bD (x::r).length 0 (some 1)=0∧HT.bD (x::r).length (x::r).length none=(x::r).length):=by
 intro z;have e1:HT.bD (x::r).length 0 (some 1)=1:=by
   rw [show HT.bD (x::r).length 0 (some 1)=min 1 (x::r).length from HT.j6 _ _ 1,List.length_cons];omega
 rw [e1] at z;exact absurd z.1 (by decide)
local macro_rules | `(tactic| walk_at "gt") => `(tactic| repeat (first | (with_reducible refine xy ?_) | (with_reducible refine Aw ?_) | (refine' Fy ?x ?_; (case x => simp only [List.set_cons_succ, List.set_cons_zero]; rfl))))
theorem kj (T:Txt K mg a):cG P w K mg base be 4 "_law_row" (vC a):=by
 refine bJ (sp:=(vC a)) 3 T.ya iD (fun vs H Q E h=>?_) (fun f cdv A outer s H vs Q E hr h=>?_)
 · obtain ⟨u, r, rfl, _⟩ := h;rfl
 · obtain ⟨u, r, rfl, ⟨p, rfl, hp⟩, ⟨ok, here⟩, q⟩ := h;refine' ⟨_,?fz,?_⟩;(case fz=>(refine' aj ?Wd ?V7;(case V7=>(refine' aj ?Wf ?Wk;(case Wk=>(refine' aj ?Wc ?Wa;(case Wa=>(refine' aj ?V2 ?V5;(case V5=>(refine' aj ?V4 ?VE;(case VE=>(refine' aj ?VL ?Us;(case Us=>exact (ak (az (aD (aJ (K:=K) rfl) (aW (aa (cH (ED (K:=K) T) (hr.mono (by decide)) aC rfl (aa (aD (aJ (K:=K) rfl) (pv 0) ai (fun _ _=>rfl)) ag)) (aa (cH (EH (K:=K) T) (hr.mono (by decide)) aC rfl (aa (aD (aJ (K:=K) rfl) (pv 0) ai (fun _ _=>rfl)) ag)) ag))) (eu jj rfl T.tE tH (aa (gP (cp (K:=K) rfl hr.units) (pv 1) aK (aF _)) ag)) (fun _ _=>rfl)))));(case VL=>(refine' aS ?T7 ?Ul ?US;(case T7=>(refine' aB (jQ (K:=K) rfl) ?VS ?Ve rfl;(case VS=>exact (pv 1));(case Ve=>(refine' aW ?TH;(case TH=>(refine' aa ?Uy ?TU ?U2;(case U2=>rfl);(case Uy=>exact aK);(case TU=>(refine' aa ?U9 ?Ub ?TK;(case TK=>rfl);(case U9=>exact aK);(case Ub=>exact ag)))))))));(case Ul=>exact (ak (az (aD (aJ (K:=K) rfl) (aW (aa (cH (D8 (K:=K) T) (hr.mono (by decide)) aC rfl (aa (aD (aJ (K:=K) rfl) (pv 0) ai (fun _ _=>rfl)) ag)) (aa (cH (DO (K:=K) T) (hr.mono (by decide)) aC rfl (aa (aD (aJ (K:=K) rfl) (pv 0) ai (fun _ _=>rfl)) ag)) ag))) (eu jj rfl T.tE tH (aa (gP (cp (K:=K) rfl hr.units) (pv 1) aK (aF _)) ag)) (fun _ _=>rfl)))));(case US=>exact aH)))));(case V4=>(refine' aS ?U1 ?UJ ?UD;(case U1=>(refine' aB (jQ (K:=K) rfl) ?TX ?Uv rfl;(case TX=>exact (pv 1));(case Uv=>(refine' aW ?U3;(case U3=>(refine' aa ?Vd ?UA ?U7;(case U7=>rfl);(case Vd=>exact aK);(case UA=>(refine' aa ?U_ ?Vf ?UE;(case UE=>rfl);(case U_=>exact aK);(case Vf=>exact ag)))))))));(case UJ=>exact (ak (az (aD (aJ (K:=K) rfl) (aW (aa (cH (D7 (K:=K) T) (hr.mono (by decide)) aC rfl (aa (aD (aJ (K:=K) rfl) (pv 0) ai (fun _ _=>rfl)) ag)) (aa (cH (zF (K:=K) T) (hr.mono (by decide)) aC rfl (aa (aD (aJ (K:=K) rfl) (pv 0) ai (fun _ _=>rfl)) ag)) ag))) (eu jj rfl T.tE tH (aa (gP (cp (K:=K) rfl hr.units) (pv 1) aK (aF _)) ag)) (fun _ _=>rfl)))));(case UD=>exact aH)))));(case V2=>exact (aS (aB (cp (K:=K) rfl hr.units) (pv 1) aK (aF _)) (ak (az (cH (zH (K:=K) T) (hr.mono (by decide)) aC rfl (aa (aD (aJ (K:=K) rfl) (pv 0) ai (fun _ _=>rfl)) (aa (aD (aJ (K:=K) rfl) (pv 0) ai (fun _ _=>rfl)) ag))))) aH))));(case Wc=>exact (aS (aB (cp (K:=K) rfl hr.units) (pv 1) aK (aF _)) (ak (az (cH (Fh (K:=K) T) (hr.mono (by decide)) aC rfl (aa (aD (aJ (K:=K) rfl) (pv 0) ai (fun _ _=>rfl)) (aa (aD (aJ (K:=K) rfl) (pv 0) ai (fun _ _=>rfl)) (aa (aD (aJ (K:=K) rfl) (pv 0) ai (fun _ _=>rfl)) ag)))))) aH))));(case Wf=>(refine' aS ?Uk ?UI ?UX;(case Uk=>(refine' aB (jQ (K:=K) rfl) ?UC ?Vo rfl;(case UC=>exact (pv 1));(case Vo=>(refine' aW ?UG;(case UG=>(refine' aa ?VG ?Ui ?Um;(case Um=>rfl);(case VG=>exact aK);(case Ui=>(refine' aa ?VM ?Vg ?TQ;(case TQ=>rfl);(case VM=>exact aK);(case Vg=>(refine' aa ?UR ?T3 ?VO;(case VO=>rfl);(case UR=>exact aK);(case T3=>(refine' aa ?Vm ?Vn ?Uj;(case Uj=>rfl);(case Vm=>exact aK);(case Vn=>exact ag)))))))))))));(case UI=>exact (aj (fQ (fY (oU (K:=K) rfl) (pv 0) (eT ai) mT) (fD (K:=K) rfl rfl (bP (aO (i:=2) iD.nd rfl (Or.inl rfl)) (bP (aO (i:=3) iD.nd rfl (Or.inl rfl)) ft)))) (aj (aS (aB (cp (K:=K) rfl hr.units) (pv 1) aK (aF _)) (ak (az (cH (E8 (K:=K) T) (hr.mono (by decide)) aC rfl (aa (pv 2) (aa (pv 3) ag))))) aH) (aj (aS (aB (cp (K:=K) rfl hr.units) (pv 1) aK (aF _)) (ak (az (cH (D4 (K:=K) T) (hr.mono (by decide)) aC rfl (aa (pv 2) (aa (pv 3) ag))))) aH) (ak (az (aD (aJ (K:=K) rfl) (aW (aa (cH (Gv (K:=K) T) (hr.mono (by decide)) aC rfl (aa (pv 2) (aa (pv 3) ag))) (aa (cH (Fj (K:=K) T) (hr.mono (by decide)) aC rfl (aa (pv 2) (aa (pv 3) ag))) ag))) (eu jj rfl T.tE tH (aa (gP (cp (K:=K) rfl hr.units) (pv 1) aK (aF _)) ag)) (fun _ _=>rfl))))))));(case UX=>exact aH)))));(case Wd=>exact (aI (i:=1) iD.nd rfl (Or.inl rfl) (aD (aJ (K:=K) rfl) (pv 0) ai (fun _ _=>rfl))))))
   refine aX (σ':=[some _,none,none,none]) rfl ?_;cases r
   all_goals (try exact False.elim here)
   case set b n =>
     have hp0:H p=some (.tup [.str "set",.int b,.int n]):=hp;clear hp;walk_at "rd";rename_i l1 n1;refine b_ (b:=true) ae rfl rfl (by decide +kernel) fun H1 s1=>?_;have S1:au H H1:=((ah n1).trans s1)
     have hp1:=S1 _ _ hp0;clear s1 n1;walk_at "rd";refine tK (aZ.of hp1) (gi _ _) (fun lt hlt=>?_);rw [jk];have S2:=S1.trans (ah hlt (o:=.tup [V.int b,V.int n]));clear S1;walk_at "rd";exact va (a:=a) ok rfl (fun x H5 s np z=>q x H5 (S2.trans s) (aQ S2 np) z)
   case copy b n =>
     have hp0:H p=some (.tup [.str "copy",.int b,.int n]):=hp;clear hp;walk_at "rd";rename_i l1 n1;refine b_ (b:=true) ae rfl rfl (by decide +kernel) fun H1 s1=>?_;have S1:au H H1:=((ah n1).trans s1)
     have hp1:=S1 _ _ hp0;clear s1 n1;walk_at "rd";refine tK (aZ.of hp1) (gi _ _) (fun lt hlt=>?_);rw [jk];have S2:=S1.trans (ah hlt (o:=.tup [V.int b,V.int n]));clear S1;walk_at "rd";exact va (a:=a) ok rfl (fun x H5 s np z=>q x H5 (S2.trans s) (aQ S2 np) z)
   case add b n m =>
     have hp0:H p=some (.tup [.str "add",.int b,.int n,.int m]):=hp;clear hp;walk_at "rd";rename_i l1 n1;refine b_ (b:=false) ae rfl rfl (by decide +kernel) fun H1 s1=>?_;have S1:au H H1:=((ah n1).trans s1)
     have hp1:=S1 _ _ hp0;clear s1 n1;walk_at "rd";exact G_ (a:=a) ok rfl (fun x H5 s np z=>q x H5 (S1.trans s) (aQ S1 np) z)
   case grow b =>
     have hp0:H p=some (.tup [.str "grow",.int b]):=hp;clear hp;walk_at "rd";rename_i l1 n1;refine b_ (b:=false) ae rfl rfl (by decide +kernel) fun H1 s1=>?_;have S1:au H H1:=((ah n1).trans s1)
     have hp1:=S1 _ _ hp0;clear s1 n1;walk_at "rd";rename_i l2 n2;refine b_ (b:=true) ae rfl rfl (by decide +kernel) fun H2 s2=>?_;have S2:au H H2:=S1.trans ((ah n2).trans s2);have hp2:=S2 _ _ hp0;clear s2 n2 S1 hp1;walk_at "rd";have okx:=ok;simp only [Rw.ok,aU,aM,bb] at okx;intro r7 dr7 m7 g7 _;refine ⟨r7,dr7,_,rfl,⟨by first | decide | omega,by first | decide | omega⟩,ae,fun H7 kp7 hH7=>⟨rfl,?_⟩⟩;have s7:au H2 H7:=fun b o e=>kp7 b o (by rw [aw (aq e m7),aw (aq e g7)];exact e) (aq e m7);have w7:bX a H7 r7 (.grow _):=⟨dr7,hH7⟩
     clear kp7 hH7;walk_at "rd";intro r8 dr8 m8 g8 _;refine ⟨r8,dr8,_,rfl,⟨by first | decide | omega,by first | decide | omega⟩,ae,fun H8 kp8 hH8=>⟨rfl,?_⟩⟩;have s8:au H7 H8:=fun b o e=>kp8 b o (by rw [aw (aq e m8),aw (aq e g8)];exact e) (aq e m8);have w8:bX a H8 r8 (.shrink _):=⟨dr8,hH8⟩
     clear kp8 hH8;walk_at "rd";rename_i l9 n9;rw [show decide (V.str (Str.ofString "grow")=V.str (Str.ofString "shrink"))=false from by decide +kernel];refine .inr ⟨_,rfl,?_⟩;rw [if_neg (show ¬ (false=true) by decide)];refine c6 (aA.of ae) (v:=.ref r7) rfl ?_;exact q r7 _ (S2.trans (s7.trans (s8.trans (ah n9)))) (aQ S2 m7) (w7.same (s8.trans (ah n9)))
   case shrink b =>
     have hp0:H p=some (.tup [.str "shrink",.int b]):=hp;clear hp;walk_at "rd";rename_i l1 n1;refine b_ (b:=false) ae rfl rfl (by decide +kernel) fun H1 s1=>?_;have S1:au H H1:=((ah n1).trans s1)
     have hp1:=S1 _ _ hp0;clear s1 n1;walk_at "rd";rename_i l2 n2;refine b_ (b:=true) ae rfl rfl (by decide +kernel) fun H2 s2=>?_;have S2:au H H2:=S1.trans ((ah n2).trans s2);have hp2:=S2 _ _ hp0;clear s2 n2 S1 hp1;walk_at "rd";have okx:=ok;simp only [Rw.ok,aU,aM,bb] at okx;intro r7 dr7 m7 g7 _;refine ⟨r7,dr7,_,rfl,⟨by first | decide | omega,by first | decide | omega⟩,ae,fun H7 kp7 hH7=>⟨rfl,?_⟩⟩;have s7:au H2 H7:=fun b o e=>kp7 b o (by rw [aw (aq e m7),aw (aq e g7)];exact e) (aq e m7);have w7:bX a H7 r7 (.grow _):=⟨dr7,hH7⟩
     clear kp7 hH7;walk_at "rd";intro r8 dr8 m8 g8 _;refine ⟨r8,dr8,_,rfl,⟨by first | decide | omega,by first | decide | omega⟩,ae,fun H8 kp8 hH8=>⟨rfl,?_⟩⟩;have s8:au H7 H8:=fun b o e=>kp8 b o (by rw [aw (aq e m8),aw (aq e g8)];exact e) (aq e m8);have w8:bX a H8 r8 (.shrink _):=⟨dr8,hH8⟩
     clear kp8 hH8;walk_at "rd";rename_i l9 n9;rw [show decide (V.str (Str.ofString "shrink")=V.str (Str.ofString "shrink"))=true from by decide +kernel];refine .inr ⟨_,rfl,?_⟩;rw [if_pos rfl];refine c6 (aA.of ae) (v:=.ref r8) rfl ?_;exact q r8 _ (S2.trans (s7.trans (s8.trans (ah n9)))) (aQ (S2.trans s7) m8) (w8.same (ah n9))
   case put b n =>
     have hp0:H p=some (.tup [.str "put",.int b,.int n]):=hp;clear hp;walk_at "rd";rename_i l1 n1;refine b_ (b:=true) ae rfl rfl (by decide +kernel) fun H1 s1=>?_;have S1:au H H1:=((ah n1).trans s1)
     have hp1:=S1 _ _ hp0;clear s1 n1;walk_at "rd";refine tK (aZ.of hp1) (gi _ _) (fun lt hlt=>?_);rw [jk];have S2:=S1.trans (ah hlt (o:=.tup [V.int b,V.int n]));clear S1;walk_at "rd";have okx:=ok;simp only [Rw.ok,aU,aM,bb] at okx;intro r7 dr7 m7 g7 _;refine ⟨r7,dr7,_,_,rfl,⟨⟨by first | decide | omega,by first | decide | omega⟩,⟨by first | decide | omega,by first | decide | omega⟩⟩,ae,fun H7 kp7 hH7=>⟨rfl,?_⟩⟩;have s7:au (upd H1 lt (.tup [V.int b,V.int n])) H7:=fun b o e=>kp7 b o (by rw [aw (aq e m7),aw (aq e g7)];exact e) (aq e m7);have w7:bX a H7 r7 (.put _ _):=⟨dr7,hH7⟩
     clear kp7 hH7;walk_at "rd";intro r8 dr8 m8 g8 _;refine ⟨r8,dr8,_,_,rfl,⟨⟨by first | decide | omega,by first | decide | omega⟩,⟨by first | decide | omega,by first | decide | omega⟩⟩,ae,fun H8 kp8 hH8=>⟨rfl,?_⟩⟩;have s8:au H7 H8:=fun b o e=>kp8 b o (by rw [aw (aq e m8),aw (aq e g8)];exact e) (aq e m8);have w8:bX a H8 r8 (.get _ _):=⟨dr8,hH8⟩
     clear kp8 hH8;walk_at "rd";rename_i l9 n9;rw [show decide (V.str (Str.ofString "put")=V.str (Str.ofString "get"))=false from by decide +kernel];refine .inr ⟨_,rfl,?_⟩;rw [if_neg (show ¬ (false=true) by decide)];refine c6 (aA.of ae) (v:=.ref r7) rfl ?_;exact q r7 _ (S2.trans (s7.trans (s8.trans (ah n9)))) (aQ S2 m7) (w7.same (s8.trans (ah n9)))
   case get b n =>
     have hp0:H p=some (.tup [.str "get",.int b,.int n]):=hp;clear hp;walk_at "rd";rename_i l1 n1;refine b_ (b:=true) ae rfl rfl (by decide +kernel) fun H1 s1=>?_;have S1:au H H1:=((ah n1).trans s1)
     have hp1:=S1 _ _ hp0;clear s1 n1;walk_at "rd";refine tK (aZ.of hp1) (gi _ _) (fun lt hlt=>?_);rw [jk];have S2:=S1.trans (ah hlt (o:=.tup [V.int b,V.int n]));clear S1;walk_at "rd";have okx:=ok;simp only [Rw.ok,aU,aM,bb] at okx;intro r7 dr7 m7 g7 _;refine ⟨r7,dr7,_,_,rfl,⟨⟨by first | decide | omega,by first | decide | omega⟩,⟨by first | decide | omega,by first | decide | omega⟩⟩,ae,fun H7 kp7 hH7=>⟨rfl,?_⟩⟩;have s7:au (upd H1 lt (.tup [V.int b,V.int n])) H7:=fun b o e=>kp7 b o (by rw [aw (aq e m7),aw (aq e g7)];exact e) (aq e m7);have w7:bX a H7 r7 (.put _ _):=⟨dr7,hH7⟩
     clear kp7 hH7;walk_at "rd";intro r8 dr8 m8 g8 _;refine ⟨r8,dr8,_,_,rfl,⟨⟨by first | decide | omega,by first | decide | omega⟩,⟨by first | decide | omega,by first | decide | omega⟩⟩,ae,fun H8 kp8 hH8=>⟨rfl,?_⟩⟩;have s8:au H7 H8:=fun b o e=>kp8 b o (by rw [aw (aq e m8),aw (aq e g8)];exact e) (aq e m8);have w8:bX a H8 r8 (.get _ _):=⟨dr8,hH8⟩
     clear kp8 hH8;walk_at "rd";rename_i l9 n9;rw [show decide (V.str (Str.ofString "get")=V.str (Str.ofString "get"))=true from by decide +kernel];refine .inr ⟨_,rfl,?_⟩;rw [if_pos rfl];refine c6 (aA.of ae) (v:=.ref r8) rfl ?_;exact q r8 _ (S2.trans (s7.trans (s8.trans (ah n9)))) (aQ (S2.trans s7) m8) (w8.same (ah n9))
   case dD b =>
     have hp0:H p=some (.tup [.str "jump",.int b]):=hp;clear hp;walk_at "rd";rename_i l1 n1;refine b_ (b:=false) ae rfl rfl (by decide +kernel) fun H1 s1=>?_;have S1:au H H1:=((ah n1).trans s1)
     have hp1:=S1 _ _ hp0;clear s1 n1;walk_at "rd";rename_i l2 n2;refine b_ (b:=false) ae rfl rfl (by decide +kernel) fun H2 s2=>?_;have S2:au H H2:=S1.trans ((ah n2).trans s2);have hp2:=S2 _ _ hp0;clear s2 n2 S1 hp1;walk_at "rd";rename_i l3 n3;refine b_ (b:=false) ae rfl rfl (by decide +kernel) fun H3 s3=>?_;have S3:au H H3:=S2.trans ((ah n3).trans s3);have hp3:=S3 _ _ hp0;clear s3 n3 S2 hp2;walk_at "rd";have okx:=ok;simp only [Rw.ok,aU,aM,bb] at okx;intro r7 dr7 m7 g7 _;refine ⟨r7,dr7,_,rfl,⟨by first | decide | omega,by first | decide | omega⟩,ae,fun H7 kp7 hH7=>⟨rfl,?_⟩⟩;have s7:au H3 H7:=fun b o e=>kp7 b o (by rw [aw (aq e m7),aw (aq e g7)];exact e) (aq e m7);have w7:bX a H7 r7 (.dD _):=⟨dr7,hH7⟩
     clear kp7 hH7;walk_at "rd";intro r8 dr8 m8 g8 _;refine ⟨r8,dr8,_,rfl,⟨by first | decide | omega,by first | decide | omega⟩,ae,fun H8 kp8 hH8=>⟨rfl,?_⟩⟩;have s8:au H7 H8:=fun b o e=>kp8 b o (by rw [aw (aq e m8),aw (aq e g8)];exact e) (aq e m8);have w8:bX a H8 r8 (.call _):=⟨dr8,hH8⟩
     clear kp8 hH8;walk_at "rd";rename_i l9 n9;rw [show decide (V.str (Str.ofString "jump")=V.str (Str.ofString "call"))=false from by decide +kernel];refine .inr ⟨_,rfl,?_⟩;rw [if_neg (show ¬ (false=true) by decide)];refine c6 (aA.of ae) (v:=.ref r7) rfl ?_;exact q r7 _ (S3.trans (s7.trans (s8.trans (ah n9)))) (aQ S3 m7) (w7.same (s8.trans (ah n9)))
   case branch b n =>
     have hp0:H p=some (.tup [.str "branch",.int b,.int n]):=hp;clear hp;walk_at "rd";rename_i l1 n1;refine b_ (b:=false) ae rfl rfl (by decide +kernel) fun H1 s1=>?_;have S1:au H H1:=((ah n1).trans s1)
     have hp1:=S1 _ _ hp0;clear s1 n1;walk_at "rd";exact va (a:=a) ok rfl (fun x H5 s np z=>q x H5 (S1.trans s) (aQ S1 np) z)
   case call b =>
     have hp0:H p=some (.tup [.str "call",.int b]):=hp;clear hp;walk_at "rd";rename_i l1 n1;refine b_ (b:=false) ae rfl rfl (by decide +kernel) fun H1 s1=>?_;have S1:au H H1:=((ah n1).trans s1)
     have hp1:=S1 _ _ hp0;clear s1 n1;walk_at "rd";rename_i l2 n2;refine b_ (b:=false) ae rfl rfl (by decide +kernel) fun H2 s2=>?_;have S2:au H H2:=S1.trans ((ah n2).trans s2);have hp2:=S2 _ _ hp0;clear s2 n2 S1 hp1;walk_at "rd";rename_i l3 n3;refine b_ (b:=false) ae rfl rfl (by decide +kernel) fun H3 s3=>?_;have S3:au H H3:=S2.trans ((ah n3).trans s3);have hp3:=S3 _ _ hp0;clear s3 n3 S2 hp2;walk_at "rd";have okx:=ok;simp only [Rw.ok,aU,aM,bb] at okx;intro r7 dr7 m7 g7 _;refine ⟨r7,dr7,_,rfl,⟨by first | decide | omega,by first | decide | omega⟩,ae,fun H7 kp7 hH7=>⟨rfl,?_⟩⟩;have s7:au H3 H7:=fun b o e=>kp7 b o (by rw [aw (aq e m7),aw (aq e g7)];exact e) (aq e m7);have w7:bX a H7 r7 (.dD _):=⟨dr7,hH7⟩
     clear kp7 hH7;walk_at "rd";intro r8 dr8 m8 g8 _;refine ⟨r8,dr8,_,rfl,⟨by first | decide | omega,by first | decide | omega⟩,ae,fun H8 kp8 hH8=>⟨rfl,?_⟩⟩;have s8:au H7 H8:=fun b o e=>kp8 b o (by rw [aw (aq e m8),aw (aq e g8)];exact e) (aq e m8);have w8:bX a H8 r8 (.call _):=⟨dr8,hH8⟩
     clear kp8 hH8;walk_at "rd";rename_i l9 n9;rw [show decide (V.str (Str.ofString "call")=V.str (Str.ofString "call"))=true from by decide +kernel];refine .inr ⟨_,rfl,?_⟩;rw [if_pos rfl];refine c6 (aA.of ae) (v:=.ref r8) rfl ?_;exact q r8 _ (S3.trans (s7.trans (s8.trans (ah n9)))) (aQ (S3.trans s7) m8) (w8.same (ah n9))
   case back b =>
     have hp0:H p=some (.tup [.str "back",.int b]):=hp;clear hp;walk_at "rd";rename_i l1 n1;refine b_ (b:=false) ae rfl rfl (by decide +kernel) fun H1 s1=>?_;have S1:au H H1:=((ah n1).trans s1)
     have hp1:=S1 _ _ hp0;clear s1 n1;walk_at "rd";rename_i l2 n2;refine b_ (b:=false) ae rfl rfl (by decide +kernel) fun H2 s2=>?_;have S2:au H H2:=S1.trans ((ah n2).trans s2);have hp2:=S2 _ _ hp0;clear s2 n2 S1 hp1;walk_at "rd";rename_i l3 n3;refine b_ (b:=true) ae rfl rfl (by decide +kernel) fun H3 s3=>?_;have S3:au H H3:=S2.trans ((ah n3).trans s3);have hp3:=S3 _ _ hp0;clear s3 n3 S2 hp2;walk_at "rd";have okx:=ok;simp only [Rw.ok,aU,aM,bb] at okx;intro r7 dr7 m7 g7 _;refine ⟨r7,dr7,_,rfl,⟨by first | decide | omega,by first | decide | omega⟩,ae,fun H7 kp7 hH7=>⟨rfl,?_⟩⟩;have s7:au H3 H7:=fun b o e=>kp7 b o (by rw [aw (aq e m7),aw (aq e g7)];exact e) (aq e m7);have w7:bX a H7 r7 (.back _):=⟨dr7,hH7⟩
     clear kp7 hH7;walk_at "rd";intro r8 dr8 m8 g8 _;refine ⟨r8,dr8,_,rfl,⟨by first | decide | omega,by first | decide | omega⟩,ae,fun H8 kp8 hH8=>⟨rfl,?_⟩⟩;have s8:au H7 H8:=fun b o e=>kp8 b o (by rw [aw (aq e m8),aw (aq e g8)];exact e) (aq e m8);have w8:bX a H8 r8 (.drop _):=⟨dr8,hH8⟩
     clear kp8 hH8;walk_at "rd";rename_i l9 n9;rw [show decide (V.str (Str.ofString "back")=V.str (Str.ofString "drop"))=false from by decide +kernel];refine .inr ⟨_,rfl,?_⟩;rw [if_neg (show ¬ (false=true) by decide)];refine c6 (aA.of ae) (v:=.ref r7) rfl ?_;exact q r7 _ (S3.trans (s7.trans (s8.trans (ah n9)))) (aQ S3 m7) (w7.same (s8.trans (ah n9)))
   case drop b =>
     have hp0:H p=some (.tup [.str "drop",.int b]):=hp;clear hp;walk_at "rd";rename_i l1 n1;refine b_ (b:=false) ae rfl rfl (by decide +kernel) fun H1 s1=>?_;have S1:au H H1:=((ah n1).trans s1)
     have hp1:=S1 _ _ hp0;clear s1 n1;walk_at "rd";rename_i l2 n2;refine b_ (b:=false) ae rfl rfl (by decide +kernel) fun H2 s2=>?_;have S2:au H H2:=S1.trans ((ah n2).trans s2);have hp2:=S2 _ _ hp0;clear s2 n2 S1 hp1;walk_at "rd";rename_i l3 n3;refine b_ (b:=true) ae rfl rfl (by decide +kernel) fun H3 s3=>?_;have S3:au H H3:=S2.trans ((ah n3).trans s3);have hp3:=S3 _ _ hp0;clear s3 n3 S2 hp2;walk_at "rd";have okx:=ok;simp only [Rw.ok,aU,aM,bb] at okx;intro r7 dr7 m7 g7 _;refine ⟨r7,dr7,_,rfl,⟨by first | decide | omega,by first | decide | omega⟩,ae,fun H7 kp7 hH7=>⟨rfl,?_⟩⟩;have s7:au H3 H7:=fun b o e=>kp7 b o (by rw [aw (aq e m7),aw (aq e g7)];exact e) (aq e m7);have w7:bX a H7 r7 (.back _):=⟨dr7,hH7⟩
     clear kp7 hH7;walk_at "rd";intro r8 dr8 m8 g8 _;refine ⟨r8,dr8,_,rfl,⟨by first | decide | omega,by first | decide | omega⟩,ae,fun H8 kp8 hH8=>⟨rfl,?_⟩⟩;have s8:au H7 H8:=fun b o e=>kp8 b o (by rw [aw (aq e m8),aw (aq e g8)];exact e) (aq e m8);have w8:bX a H8 r8 (.drop _):=⟨dr8,hH8⟩
     clear kp8 hH8;walk_at "rd";rename_i l9 n9;rw [show decide (V.str (Str.ofString "drop")=V.str (Str.ofString "drop"))=true from by decide +kernel];refine .inr ⟨_,rfl,?_⟩;rw [if_pos rfl];refine c6 (aA.of ae) (v:=.ref r8) rfl ?_;exact q r8 _ (S3.trans (s7.trans (s8.trans (ah n9)))) (aQ (S3.trans s7) m8) (w8.same (ah n9))
end
section
variable {P:Program} {w:World} {K:W.Frag} {mg:Str→Option Value} {base:Heap} {a:cM}
def Tw (H:Hp) (i:Int) (v:V) (o:Int×Option Wt):Prop:=∃ q,v=.ref q∧H q=some (.tup [.int i,.int o.1,oV o.2])
def eG (H:Hp) (i:Int) (vs:List V) (os:List (Int×Option Wt)):Prop:=vs.length=os.length∧∀ (k:Nat) (o:Int×Option Wt),os[k]? = some o→∃ v,vs[k]? = some v∧Tw H i v o
theorem eG.to {H H':Hp} {i:Int} {vs:List V} {os:List (Int×Option Wt)} (h:eG H i vs os) (s:∀ b xs,H b=some (.tup xs)→H' b=some (.tup xs)):eG H' i vs os:=⟨h.1,fun k o e=>let ⟨v,e1,q,e2,e3⟩:=h.2 k o e;⟨v,e1,q,e2,s _ _ e3⟩⟩
theorem eG.same {H H':Hp} {i:Int} {vs:List V} {os:List (Int×Option Wt)} (h:eG H i vs os) (s:au H H'):eG H' i vs os:=h.to fun _ _ e=>s _ _ e
theorem eG.nil {H:Hp} {i:Int}:eG H i [] []:=⟨rfl,fun i c e=>by simp at e⟩
theorem eG.app {H:Hp} {i:Int} {vs us:List V} {cs ds:List (Int×Option Wt)} (h:eG H i vs cs) (k:eG H i us ds):eG H i (vs++us) (cs++ds):=by
 refine ⟨by rw [List.length_append,List.length_append,h.1,k.1],fun j o e=>?_⟩;by_cases hi:j<cs.length
 · rw [List.getElem?_append_left hi] at e;obtain ⟨u,e1,e2⟩:=h.2 j o e;exact ⟨u,by rw [List.getElem?_append_left (by rw [h.1];exact hi)];exact e1,e2⟩
 · rw [List.getElem?_append_right (by omega)] at e;obtain ⟨u,e1,e2⟩:=k.2 _ o e;exact ⟨u,by rw [List.getElem?_append_right (by rw [h.1];omega),h.1];exact e1,e2⟩
theorem eG.one {H:Hp} {i:Int} {v:V} {o:Int×Option Wt} (h:Tw H i v o):eG H i [v] [o]:=⟨rfl,fun k c' e=>by
 cases k with
 | zero=>simp at e;subst e;exact ⟨v,rfl,h⟩
 | succ k=>simp at e⟩
theorem zx {r:Rw} {e:Ent} (h:dW r e=none) : 0≤e.h∧e.h≤4000∧(r.aY e.h).isSome=true:=by
 unfold dW at h;split at h
 · cases h
 · rename_i hw;unfold cP at hw;simp only [Bool.not_eq_true,Bool.or_eq_false_iff,decide_eq_false_iff_not] at hw;split at h
   · cases h
   · rename_i hg;exact ⟨by omega,by omega,by cases hx:r.aY e.h with | none=>exact absurd hx hg | some z=>rfl⟩
theorem Cd (r:Rw) (i:Int):(r.dM i).length≤4000:=by cases r <;> exact Nat.le_of_ble_eq_true rfl
theorem B4 (r:Rw) (i:Int):(once (r.dM i)).length≤9:=by
 cases r <;> simp [Rw.dM,once]
 split <;> simp
theorem m_ (T:Txt K mg a):cG P w K mg base be 5 "row_complaints" (z_ K a):=by
 refine bJ (sp:=(z_ K a)) 4 T.m6 dG (fun vs H Q E h=>?_) (fun f cdv A outer s H vs Q E hr h=>?_)
 · obtain ⟨c, l, i, prs, rs, ev, es, rfl, _⟩ := h;rfl
 · obtain ⟨c, l, i, prs, rs, ev, es, rfl, hc, hrs, hl, hev, E', hi, hre, q⟩ := h;have hpl:=hrs.1;have hri:rs[i]? = some rs[i]:=List.getElem?_eq_getElem hi;obtain ⟨p,hp⟩:∃ p,prs[i]? = some p:=⟨_,List.getElem?_eq_getElem (by omega)⟩
   obtain ⟨dx,hx⟩:=hrs.2 i p _ hp hri;obtain ⟨ok,hh⟩:=E'.ok _ (List.getElem_mem hi);obtain ⟨v,oe,hat,hoe,hmem,hv⟩:=hev.at (c:=(i:Int)) (by omega) (by omega)
   rw [Int.toNat_natCast] at hoe;have hatp:dz (prs.map V.ref) (i:Int)=some (.ref p):=cn (by rw [List.getElem?_map,hp];rfl);unfold jr at q;rw [hri,hoe,Option.join_some] at q;generalize rs[i]=r at *
   refine ⟨_, (aj (aI (i := 3) dG.nd rfl (Or.inr rfl) (aD (aJ (K := K) rfl) (pv 0) (pv 2) (fun _ _ => rfl)))
     (aj (aI (i:=4) dG.nd rfl (Or.inr rfl) (aD (aJ (K:=K) rfl) (pv 1) (pv 2) (fun _ _=>rfl)))
     (aj (aS (aB cU (pv 4) bB (aF _)) (ak (az (aW ag))) aH)
     (aj (aI (i:=5) dG.nd rfl (Or.inl rfl) (ax (i6 (K:=K) T) (hr.mono (by decide)) aC rfl (aa (pv 3) (aa (pv 4) ag))))
     (aj (aS (aB i7 (pv 5) bB (aF _)) (ak (az (aW (aa (aV (aa (pv 2) (aa (pv 2) (aa (pv 5) ag)))) ag)))) aH)
     (aj (f9 (i:=6) dG.nd rfl rfl (own:=["coming"]) (fr:=[("entries",1),("at",2),("row",3),("entry",4)]) rfl ⟨rfl,(by walk_at "clok"),(by walk_at "frok"),rfl,(by decide +kernel),(by decide +kernel),rfl⟩ (cw (K:=K) rfl (ax (vB (K:=K) T) (hr.mono (by decide)) aC rfl (aa (fW (P:=P) (w:=w) (K:=K) (mg:=mg) (base:=base) (k:=1) ⟨rfl,rfl,rfl,rfl,rfl⟩ (pv 3) (hr.mono (by decide)) aC (aa (pv 2) ag)) ag))) (fun _ _ _ _=>(aO (i:=0) (show List.Nodup [("coming" : Str),("entries" : Str),("at" : Str),("row" : Str),("entry" : Str)] from by decide +kernel) rfl (Or.inl rfl))) (fun _ _ _ _=>cW) (fun _ _ _ _=>(aV (aa (pv 2) (aa (pv 0) (aa (ax (iZ (K:=K) T) (hr.mono (by decide)) aC rfl (aa (pv 3) (aa (pv 4) (aa (pv 0) (aa (pv 1) ag))))) ag))))))
     (aj (aS (cV (K:=K) rfl (aP (e_ (K:=K) rfl) rfl T.dS dQ (aa (pv 3) (aa (bj (v:=.ref a.bq) rfl T.jT rfl) ag)))) (ak (bG (cA (K:=K) rfl PySem.F.plainAttrs_list PySem.F.slot_list_append PySem.F.type_list_append bM (pv 6) (aa (aV (aa (pv 2) (aa (bA (K:=K) rfl (pv 3)) (aa (ax (kW (K:=K) T) (hr.mono (by decide)) aC rfl (aa (pv 3) (aa (pv 1) ag))) ag)))) ag)))) aH)
     (ak (az (dY (own:=["complaint"]) (fr:=[]) rfl ⟨rfl,(by walk_at "clok"),(by walk_at "frok"),rfl,(by decide +kernel),(by decide +kernel),rfl⟩ (cw (K:=K) rfl (pv 6)) (fun _ _ _ _=>(aO (i:=0) (show List.Nodup [("complaint" : Str)] from by decide +kernel) rfl (Or.inl rfl))) (fun _ _ _ _=>(mV (aB i7 (aD (aJ (K:=K) rfl) (pv 0) ai (fun _ _=>rfl)) bB (aF _)))) (fun _ _ _ _=>(pv 0)))))))))))),?_⟩
   refine aX (σ':=[some _,some _,some _,none,none,none,none]) rfl ?_;walk_at "rd";cases oe with
   | none =>
     cases hv
     walk_at "rd";rename_i l1 nl1;exact q l1 [] _ (ah nl1) ae cB.nil nl1
   | some e =>
     have q:∀ p us H',au H H'→H' p=some (.lst us)→cB H' us (jK r e i es)→H p=none→Q (.ref p) H':=q;obtain ⟨pe,rfl,he⟩:=id hv;have nn:=E'.nn e hmem;walk_at "rd";refine ⟨p,pe,r,e,rfl,⟨dx,hx⟩,ok,hh,he,fun H1 s1=>?_⟩;have hx1:=s1 _ _ hx;have he1:=he.same s1;have hl1:=s1 _ _ hl;have hev1:=hev.same s1;unfold jK at q;cases ho:dW r e with
     | some w =>
       rw [ho] at q;show c8 5 w.v _ _ _;walk_at "rd";rename_i t nt l1 nl1;exact q l1 [.ref t] _ (s1.trans (by walk_at "same")) ae (cB.one ⟨t,rfl,by walk_at "hlk"⟩) (aQ s1 (by walk_at "none"))
     | none =>
       rw [ho] at q;show c8 5 V.aR _ _ _;have hnw : 0≤e.h∧e.h≤4000∧(r.aY e.h).isSome=true:=zx ho;obtain ⟨e0,e4,hs⟩:=hnw;have nl0:∀ b,H1 b=none→H b=none:=fun b z=>aQ s1 z;walk_at "rd";refine eS hx1 (rO _) ((nP T hh).mono (by decide)) ?_;walk_at "rd";refine ⟨p,(i:Int),rfl,⟨dx,hx1⟩,fun g ng=>?_⟩;walk_at "rd";refine ⟨g,r.dM i,rfl,aA.of ae,Cd r i,fun q1 H2 s2 hq1=>?_⟩;have s12:=(ah (o:=.lst ((r.dM i).map V.int)) ng).trans s2;have n2:∀ b,H2 b=none→H b=none:=fun b z=>nl0 b (aQ s12 z);have s02:=s1.trans s12;have hx2:=s12 _ _ hx1;have he2:=he1.same s12;have hl2:=s12 _ _ hl1;have hev2:=hev1.same s12;clear s12 s2 ng s1 hx1 he1 hl1 hev1 hx hl hev he hv nl0 hc hrs;walk_at "rd";have hol:=B4 r i;refine ez (K:=K) (a:=q1) (xs:=(once (r.dM i)).map V.int) (fun k ys σ H3=>(∃ u,σ = [u,some (.ref l),some (.int (i:Int)),some (.ref p),some (.ref pe)])∧au H2 H3∧eG H3 i ys (((once (r.dM i)).take k).map fun c=>(c,eL r e c es))) ⟨⟨_,rfl⟩,au.refl _,eG.nil⟩ (fun k ys σ H3 hk ⟨_,s3,e3⟩=>⟨aA.of (s3 _ _ hq1),by have:=e3.1;rw [List.length_map,List.length_take] at this;rw [sizeLine_eq];omega⟩) ?_ ?_
       · rintro k v ys σ H3 hk ⟨⟨u, rfl⟩, s3, ho3⟩;obtain ⟨cc,hcc,rfl⟩:∃ n,(once (r.dM i))[k]? = some n∧v=.int n:=by
           rw [List.getElem?_map] at hk;obtain ⟨p,hp,e⟩:=Option.map_eq_some_iff.mp hk;exact ⟨p,hp,e.symm⟩
         walk_at "rd";refine ⟨p,pe,l,cc,r,e,ev,es,rfl,⟨dx,s3 _ _ hx2⟩,ok,hh,he2.same s3,nn,e0,e4,hs,s3 _ _ hl2,hev2.same s3,E'.nn,fun H4 s4=>?_⟩;walk_at "rd";rename_i t nt;refine ⟨⟨_,rfl⟩,(s3.trans s4).trans (ah nt),?_⟩;rw [List.take_add_one,hcc,Option.toList_some,List.map_append];exact ((ho3.same s4).same (ah nt)).app (eG.one ⟨t,rfl,ae⟩)
       rintro ys σ H3 ⟨_,s3,ho3⟩;rw [List.length_map,List.take_length] at ho3;walk_at "rd";rename_i lf nlf;have sn:=s3.trans (ah (o:=.lst ys) nlf);have hlf:(upd H3 lf (.lst ys)) lf=some (.lst ys):=ae;have ho4:=ho3.same (ah (o:=.lst ys) nlf);have n4:H lf=none:=n2 lf (aQ s3 nlf);clear s3 nlf ho3;generalize upd H3 lf (.lst ys)=H4 at sn hlf ho4 ⊢;have s04:=s02.trans sn;have hx4:=sn _ _ hx2;have hl4:=sn _ _ hl2;have hev4:=hev2.same sn;clear sn s02 hx2 he2 hl2 hev2 hq1 n2;have kk:∀ (lf:Addr) (H5:Hp),(∃ us os,au H H5∧H5 lf=some (.lst us)∧eG H5 i us os∧os.length≤10∧(os.filterMap fun o=>o.2.map fun w=>Cm.mk i o.1 w)=((once (r.dM i)).filterMap fun c=>(eL r e c es).map fun w=>Cm.mk i c w)++lC r i es)→gT (pV K lf) (c8 0) (fT (d7 gW (d7 (jF K) (bF 0) (tC (V.int 2))) (tC V.aR))) (bF 0) (fun ys H3=>∀ p,H3 p=none→Q (V.ref p) (upd H3 p (HO.lst ys))) [none] H5:=by
         rintro lf H5 ⟨us,os,s5,hlf,ho5,h10,hfm⟩;rw [← hfm] at q;clear hfm;have hul:=ho5.1;refine ez (K:=K) (a:=lf) (xs:=us) (fun k ys σ H6=>(∃ u,σ = [u])∧H6=H5∧cB H5 ys ((os.take k).filterMap fun o=>o.2.map fun w=>Cm.mk i o.1 w)∧ys.length≤k) ⟨⟨_,rfl⟩,rfl,cB.nil,Nat.le_refl _⟩ (fun k ys σ H6 hk ⟨_,e6,_,e7⟩=>⟨by rw [e6];exact aA.of hlf,by rw [sizeLine_eq];omega⟩) ?_ ?_
         · rintro k v ys σ H6 hk ⟨⟨u, rfl⟩, rfl, hcm, hyl⟩;have hk2:k<os.length:=by rw [← hul];exact (List.getElem?_eq_some_iff.mp hk).1
           obtain ⟨v',hv',qq,e1,e2⟩:=ho5.2 k _ (List.getElem?_eq_getElem hk2);rw [hk] at hv';cases hv'
           subst e1;rw [List.take_add_one,List.getElem?_eq_getElem hk2,Option.toList_some,List.filterMap_append];generalize os[k]=o at e2 ⊢;obtain ⟨cc,ow⟩:=o;walk_at "rd";cases ow with
           | none =>
             show gW V.aR V.aR _ _;walk_at "rd";exact ⟨⟨_,rfl⟩,rfl,by rw [show List.filterMap (fun o:Int×Option Wt=>o.2.map fun w=>Cm.mk i o.1 w) [(cc,none)]=[] from rfl,List.append_nil];exact hcm,by omega⟩
           | some w =>
             show gW w.v V.aR _ _;walk_at "rd";exact ⟨⟨_,rfl⟩,rfl,hcm.app (cB.one (c:=⟨i,cc,w⟩) ⟨qq,rfl,e2⟩),by rw [List.length_append];show _+1≤_+1;omega⟩
         · rintro ys σ H6 ⟨_, rfl, hcm, hyl⟩;rw [hul,List.take_length] at hcm;intro p1 np1;exact q p1 ys _ (s5.trans (ah np1)) ae (hcm.same (ah np1)) (aQ s5 np1)
       obtain ⟨t',ty,kc,kb⟩:=jP T hh ⟨dx,hx4⟩;cases hC:r.isCall with
       | false =>
         rw [hC] at kc;refine iB (fun z=>by cases z) ty kc ?_;walk_at "rd";refine kk lf H4 ⟨ys,_,s04,hlf,ho4,by rw [List.length_map];omega,?_⟩;rw [List.filterMap_map,show lC r i es=[] from (by cases r <;> first | rfl | cases hC),List.append_nil];rfl
       | true =>
         obtain ⟨t,hrt⟩:∃ t,r=.call t:=by cases r <;> first | exact ⟨_,rfl⟩ | cases hC
         rw [hC] at kc;refine iB (b:=true) (fun z=>by cases z) ty kc ?_;rw [hrt] at hx4
         change H4 p=some (.ins a.bq dx (aL "target" (.int t) [])) at hx4
         walk_at "rd";refine ⟨p,l,t,ev,es,rfl,⟨dx,hx4⟩,hl4,hev4,fun H5 s5=>?_⟩;have hlf5:=s5 _ _ hlf;have ho5:=ho4.same s5;have hyl:ys.length≤10:=by rw [ho4.1,List.length_map];omega
         walk_at "rd";rename_i tt ntt;have ho6:=(ho5.same (ah (o:=.tup [.int (i:Int),.int t,oV (ej t es)]) ntt)).app (eG.one (i:=i) (o:=(t,ej t es)) ⟨tt,rfl,ae⟩);have kb6:∀ (b:Addr) (xs:List V),(upd H5 tt (.tup [.int (i:Int),.int t,oV (ej t es)])) b=some (.tup xs)→(upd (upd H5 tt (.tup [.int (i:Int),.int t,oV (ej t es)])) lf (.lst (ys++[.ref tt]))) b=some (.tup xs):=fun b xs e=>by
           rw [aw (fun z=>by subst z;rw [ay hlf5 ntt] at e;cases e)];exact e
         have ho7:=ho6.to kb6;have s07:au H (upd (upd H5 tt (.tup [.int (i:Int),.int t,oV (ej t es)])) lf (.lst (ys++[.ref tt]))):=fun b o e=>by
           rw [aw (aq e n4)];exact (s04.trans (s5.trans (ah ntt))) b o e
         have hlf7:(upd (upd H5 tt (.tup [.int (i:Int),.int t,oV (ej t es)])) lf (.lst (ys++[.ref tt]))) lf=some (.lst (ys++[.ref tt])):=ae;clear kb6 ho6 ho5 hlf5;generalize (upd (upd H5 tt (.tup [.int (i:Int),.int t,oV (ej t es)])) lf (.lst (ys++[.ref tt])))=H7 at ho7 s07 hlf7 ⊢;refine kk lf H7 ⟨_,_,s07,hlf7,ho7,by rw [List.length_append,List.length_map];show _+1≤10;omega,?_⟩;rw [List.filterMap_append,List.filterMap_map,show lC r i es=((ej t es).map fun w=>Cm.mk i t w).toList from by rw [hrt];rfl];show _++(List.filterMap _ [(t,ej t es)])=_++((ej t es).map fun w=>Cm.mk i t w).toList;cases ej t es <;> rfl
theorem zk {r:Rw} {e:Ent} (h:dW r e=none) : 0≤e.h∧e.h≤4000∧(r.aY e.h).isSome=true:=by
 unfold dW at h;split at h
 · cases h
 · rename_i hw;unfold cP at hw;simp only [Bool.not_eq_true,Bool.or_eq_false_iff,decide_eq_false_iff_not] at hw;split at h
   · cases h
   · rename_i hg;exact ⟨by omega,by omega,by cases hx:r.aY e.h with | none=>exact absurd hx hg | some z=>rfl⟩
theorem km (T:Txt K mg a):cG P w K mg base be 5 "landing_complaint" (xE K a):=by
 refine bJ (sp:=(xE K a)) 4 T.kn gv (fun vs H Q E h=>?_) (fun f cdv A outer s H vs Q E hr h=>?_)
 · obtain ⟨c, l, i, z, prs, rs, ev, es, rfl, _⟩ := h;rfl
 · obtain ⟨c, l, i, z, prs, rs, ev, es, rfl, hc, hrs, hl, hev, E', hre, q⟩ := h;have hpl:=hrs.1;unfold gX at q
   refine ⟨_, (aj (aS (PW.pt (fR (hV (cV (K := K) rfl (ax (mz (K := K) T) (hr.mono (by decide)) aC rfl (aa (pv 2) (aa (pv 1) ag))))) (fK (hV (cV (K := K) rfl (aP (e_ (K := K) rfl) rfl T.dS dQ (aa (aD (aJ (K := K) rfl) (pv 0) (pv 2) (fun _ _ => rfl)) (aa (bj (v := .ref a.bq) rfl T.jT rfl) ag)))))))) (ak (az aK)) aH)
     (aj (aI (i:=4) gv.nd rfl (Or.inl rfl) (aD (aJ (K:=K) rfl) (pv 1) (pv 2) (fun _ _=>rfl)))
     (aj (aS (PW.pt (fR (aB cU (pv 4) bB (aF _)) (fK (aB i7 (ax (i6 (K:=K) T) (hr.mono (by decide)) aC rfl (aa (aD (aJ (K:=K) rfl) (pv 0) (pv 2) (fun _ _=>rfl)) (aa (pv 4) ag))) bB (aF _))))) (ak (az bB)) aH)
     (ak (az (ax (iZ (K:=K) T) (hr.mono (by decide)) aC rfl (aa (aD (aJ (K:=K) rfl) (pv 0) (pv 2) (fun _ _=>rfl)) (aa (pv 4) (aa (pv 3) (aa (pv 1) ag)))))))))),?_⟩
   refine aX (σ':=[some _,some _,some _,some _,none]) rfl ?_;walk_at "rd";refine ⟨i,l,ev,rfl,aA.of hl,?_⟩;rw [hev.1];by_cases hc0 : 0≤i∧i<(es.length:Int)
   · rw [decide_eq_true hc0];rw [if_pos hc0] at q;have hi:i.toNat<rs.length:=by omega
     have hri:rs[i.toNat]? = some rs[i.toNat]:=List.getElem?_eq_getElem hi;obtain ⟨p,hp⟩:∃ p,prs[i.toNat]? = some p:=⟨_,List.getElem?_eq_getElem (by omega)⟩
     obtain ⟨dx,hx⟩:=hrs.2 _ p _ hp hri;obtain ⟨ok,hh⟩:=E'.ok _ (List.getElem_mem hi);obtain ⟨v,oe,hat,hoe,hmem,hv⟩:=hev.at hc0.1 hc0.2;have hatp:dz (prs.map V.ref) i=some (.ref p):=by
       rw [show i=((i.toNat:Nat):Int) from by omega];exact cn (by rw [List.getElem?_map,hp];rfl)
     rw [hri,hoe,Option.join_some] at q;generalize rs[i.toNat]=r at *;have q:∀ H',au H H'→Q (oV (jn r oe z es)) H':=q;unfold jn at q;walk_at "rd";obtain ⟨t',ty,kc,kb⟩:=jP T hh ⟨dx,hx⟩;refine iB (fun z=>by cases z) ty kc ?_;cases hC:r.isCall with
     | false =>
       rw [hC] at q;walk_at "rd";exact q _ (au.refl _)
     | true =>
       rw [hC] at q;walk_at "rd";cases oe with
       | none =>
         cases hv
         walk_at "rd";exact q _ (au.refl _)
       | some e =>
         have q:∀ H',au H H'→Q (oV (if (dW r e).isSome=true then none else eL r e z es)) H':=q;obtain ⟨pe,rfl,he⟩:=id hv;walk_at "rd";refine ⟨p,pe,r,e,rfl,⟨dx,hx⟩,ok,hh,he,fun H1 s1=>?_⟩;cases ho:dW r e with
         | some w =>
           rw [ho] at q;walk_at "rd";show gW w.v V.aR _ _;walk_at "rd";exact q _ s1
         | none =>
           rw [ho] at q;obtain ⟨e0,e4,hs⟩:=zk ho;have hx1:=s1 _ _ hx;have hc1:=s1 _ _ hc;walk_at "rd";show gW V.aR V.aR _ _;walk_at "rd";exact ⟨p,pe,l,z,r,e,ev,es,rfl,⟨dx,hx1⟩,ok,hh,he.same s1,E'.nn e hmem,e0,e4,hs,s1 _ _ hl,hev.same s1,E'.nn,fun H2 s2=>q _ (s1.trans s2)⟩
   · rw [decide_eq_false hc0];rw [if_neg hc0] at q;walk_at "rd";exact q _ (au.refl _)
theorem sL (T:Txt K mg a):cG P w K mg base (eM P w) 5 "entries_of" (Ba K a):=by
 refine v_ (sp:=(Ba K a)) 4 T.sd cq (fun vs H Q E h=>?_) (fun f cdv A outer s H vs Q E hr h=>?_)
 · obtain ⟨c, d, prs, rs, ls, rfl, _⟩ := h;rfl
 · obtain ⟨c, d, prs, rs, ls, rfl, hc, hrs, aG, h2000, hls, hd, qe, q⟩ := h;have hpl:=hrs.1
   refine ⟨_, (aj (PS.cO (aS (aB (cp (K := K) rfl hr.units) (aP (a8 (K := K) rfl) rfl T.bS bR (aa (pv 0) ag)) ai (aF _)) (ak (az (aW ag))) aH))
     (aj (PS.cO (aI (i:=2) cq.nd rfl (Or.inr rfl) (dY (own:=["at"]) (fr:=[("code",0),("landings",1)]) rfl ⟨rfl,(by walk_at "clok"),(by walk_at "frok"),rfl,(by decide +kernel),(by decide +kernel),rfl⟩ (dq rfl T.dJ (aa (aP (a8 (K:=K) rfl) rfl T.bS bR (aa (pv 0) ag)) ag)) (fun _ _ _ _=>(aO (i:=0) (show List.Nodup [("at" : Str),("code" : Str),("landings" : Str)] from by decide +kernel) rfl (Or.inl rfl))) (fun _ _ _ _=>cW) (fun _ _ _ _=>(ax (ym (K:=K) T) (hr.mono (by decide)) aC rfl (aa (pv 1) (aa (pv 2) (aa (pv 0) ag))))))))
     (aj (aI (i:=3) cq.nd rfl (Or.inr rfl) (ax (tw (K:=K) T) (hr.mono (by decide)) jR rfl (aa (pv 0) (aa (pv 2) ag))))
     (aj (PS.cO (f9 (i:=4) cq.nd rfl rfl (own:=["first"]) (fr:=[("code",0),("ways",2),("heights",3)]) rfl ⟨rfl,(by walk_at "clok"),(by walk_at "frok"),rfl,(by decide +kernel),(by decide +kernel),rfl⟩ (cw (K:=K) rfl (ax (iz (K:=K) T) (hr.mono (by decide)) aC rfl (aa (bj (v:=.ref a.f_) rfl T.iE rfl) ag))) (fun _ _ _ _=>(aO (i:=0) (show List.Nodup [("first" : Str),("code" : Str),("ways" : Str),("heights" : Str)] from by decide +kernel) rfl (Or.inl rfl))) (fun _ _ _ _=>cW) (fun _ _ _ _=>(ax (uV (K:=K) T) (hr.mono (by decide)) aC rfl (aa (pv 1) (aa (pv 2) (aa (pv 3) (aa (pv 0) ag))))))))
     (aj (PS.cO (aI (i:=5) cq.nd rfl (Or.inl rfl) (aW ag)))
     (aj (PS.cO (dE PassesOwn.never rfl (Ej (K:=K) rfl rfl T.tG (aa (pv 3) (aa (aD (aJ (K:=K) rfl) (pv 4) ai (fun _ _=>rfl)) (aa (aD (aJ (K:=K) rfl) (pv 4) ai (fun _ _=>rfl)) (aa (aD (aJ (K:=K) rfl) (pv 4) ai (fun _ _=>rfl)) (aa (aD (aJ (K:=K) rfl) (pv 4) ai (fun _ _=>rfl)) ag)))))) (fD (K:=K) rfl rfl (bP (aO (i:=6) cq.nd rfl (Or.inl rfl)) (bP (aO (i:=7) cq.nd rfl (Or.inl rfl)) (bP (aO (i:=8) cq.nd rfl (Or.inl rfl)) (bP (aO (i:=9) cq.nd rfl (Or.inl rfl)) (bP (aO (i:=10) cq.nd rfl (Or.inl rfl)) ft)))))) (ak (bG (cA (K:=K) rfl PySem.F.plainAttrs_list PySem.F.slot_list_append PySem.F.type_list_append bM (pv 5) (aa (iX (aB cU (pv 6) bB (aF _)) bB (aV (aa (pv 6) (aa (pv 7) (aa (aV (aa (pv 8) (aa (pv 9) (aa (pv 10) ag)))) ag))))) ag))))))
     (ak (PS.cO (az (pv 5)))))))))),?_⟩
   refine aX (σ':=[some _,some _,none,none,none,none,none,none,none,none,none]) rfl ?_;walk_at "rk";refine fJ (aA.of hc) ?_;rw [List.length_map,hpl];by_cases hz:rs=[]
   · subst hz;walk_at "rk";rename_i l nl;exact q l [] [] _ (ah nl) nl ae ⟨rfl,fun i oe e=>by simp at e⟩ ⟨rfl,fun z=>absurd z (Nat.lt_irrefl 0)⟩
   · have hpos : 0 < rs.length := List.length_pos_iff.mpr hz;walk_at "rk";refine fJ (aA.of hc) ?_;rw [List.length_map,hpl];walk_at "rk";rw [Int.toNat_natCast];refine dZ (fun i ys σ H1=>(∃ v,σ = [v,some (.ref c),some (.ref d)])∧au H H1∧∃ wps:List Addr,ys=wps.map V.ref∧wps.length=i∧∀ (j:Nat) (p:Addr),wps[j]? = some p→H1 p=some (.lst ((cN rs ls j).map V.int))) ⟨⟨_,rfl⟩,au.refl _,[],rfl,rfl,fun j p e=>by simp at e⟩ ?_ ?_ ?_
     · rintro i ys σ H1 hi ⟨_, _, wps, rfl, e, _⟩;rw [List.length_map,e,sizeLine_eq];omega
     · rintro i ys σ H1 hi ⟨⟨v, rfl⟩, s1, wps, rfl, hl, hw⟩;walk_at "rk";refine ⟨c,d,i,prs,rs,ls,by rw [Int.zero_add],s1 _ _ hc,hrs.same s1,aG,s1 _ _ hd,hls.1,hi,fun p H2 s2 np hp=>?_⟩;refine ⟨⟨_,rfl⟩,s1.trans s2,wps++[p],by rw [List.map_append];rfl,by rw [List.length_append,hl];rfl,fun j p' e=>?_⟩;by_cases hj:j<i
       · rw [List.getElem?_append_left (by omega)] at e;exact s2 _ _ (hw j p' e)
       · rw [List.getElem?_append_right (by omega)] at e;cases hjj:j - wps.length with
         | zero =>
           rw [hjj] at e
           have:p=p':=by simpa using e
           subst this;rw [show j=i by omega];exact hp
         | succ m=>rw [hjj] at e;simp at e
     rintro ys σ H1 ⟨_,s1,wps,rfl,hl,hw⟩ ly nly;have s2:=s1.trans (ah (o:=.lst (wps.map V.ref)) nly);have hwy:mL (upd H1 ly (.lst (wps.map V.ref))) ly rs ls:=⟨wps,ae,hl,fun i p e=>ay (hw i p e) nly⟩
     generalize (upd H1 ly (.lst (wps.map V.ref)))=H2 at s2 hwy ⊢;clear s1 nly hl hw;obtain ⟨qs',hst,hst2⟩:=T.j8;walk_at "rk";refine ⟨c,ly,prs,rs,ls,rfl,s2 _ _ hc,hrs.same s2,aG,hpos,h2000,hls,hwy,fun hb H' s'=>qe ⟨hpos,hb⟩ _ (s2.trans s'),fun lh hs H3 s3 nlh hlh hO=>?_⟩;have s23:=s2.trans s3;have hwy3:=hwy.same s3;clear s2 hwy s3 nlh;walk_at "rk";refine ⟨a.f_,⟨0,128,16,32,64⟩,rfl,⟨qs',hst _,hst2 _⟩,fun tt ntt=>?_⟩;have s4:=s23.trans (ah (o:=.tup (List.map V.int (Ent.mk 0 128 16 32 64).dC)) ntt);have hlh4:=ay (o:=.tup (List.map V.int (Ent.mk 0 128 16 32 64).dC)) hlh ntt;have hwy4:=hwy3.same (ah (o:=.tup (List.map V.int (Ent.mk 0 128 16 32 64).dC)) ntt);have htt:(upd H3 tt (.tup (List.map V.int (Ent.mk 0 128 16 32 64).dC))) tt=some (.tup (firstsD.map fun f:Nat=>V.int (f:Int))):=ae;generalize (upd H3 tt (.tup (List.map V.int (Ent.mk 0 128 16 32 64).dC)))=H4 at s4 hlh4 hwy4 htt ⊢;clear ntt s23;walk_at "rk";refine we (xs:=firstsD.map fun f:Nat=>V.int (f:Int)) (fun i ys σ H5=>(∃ v,σ = [v,some (.ref c),some (.ref ly),some (.ref lh)])∧au H4 H5∧∃ ps:List Addr,ys=ps.map V.ref∧ps.length=i∧∀ (j:Nat) (p:Addr) (f:Nat),ps[j]? = some p→firstsD[j]? = some f→∃ ss,H5 p=some (.lst (ss.map cC))∧jG rs ls hs f ss) ⟨⟨_,rfl⟩,au.refl _,[],rfl,rfl,fun j p f e=>by simp at e⟩ ?_ ?_ ?_
     · rintro i ys σ H5 hi ⟨_, s5, ps, rfl, e, _⟩;refine ⟨aZ.of (s5 _ _ htt),?_⟩
       have:i≤4:=hi
       rw [List.length_map,e,sizeLine_eq];omega
     · rintro i x ys σ H5 hx ⟨⟨v, rfl⟩, s5, ps, rfl, hl, hps⟩;rw [List.getElem?_map] at hx;obtain ⟨f,hf,rfl⟩:=Option.map_eq_some_iff.mp hx;have hfb:f<2 ^ 4100:=by
         have hm:=List.mem_of_getElem? hf
         have:f≤128:=by
           simp only [firstsD,List.mem_cons,List.not_mem_nil,or_false] at hm;omega
         exact Nat.lt_of_le_of_lt this (by decide)
       have s45:=s4.trans s5;walk_at "rk";refine ⟨c,ly,lh,prs,rs,ls,hs,f,rfl,s45 _ _ hc,hrs.same s45,aG,hpos,h2000,hls,hwy4.same s5,s5 _ _ hlh4,hO,hfb,fun p ss H6 s6 np hp hP=>?_⟩;refine ⟨⟨_,rfl⟩,s5.trans s6,ps++[p],by rw [List.map_append];rfl,by rw [List.length_append,hl];rfl,fun j p' f' e ef=>?_⟩;by_cases hj:j<i
       · rw [List.getElem?_append_left (by omega)] at e;obtain ⟨ss',e1,e2⟩:=hps j p' f' e ef;exact ⟨ss',s6 _ _ e1,e2⟩
       · rw [List.getElem?_append_right (by omega)] at e;cases hjj:j - ps.length with
         | zero =>
           rw [hjj] at e
           have:p=p':=by simpa using e
           subst this;obtain rfl:j=i:=by omega
           rw [hf] at ef;cases ef;exact ⟨ss,hp,hP⟩
         | succ m=>rw [hjj] at e;simp at e
     rintro ys σ H5 ⟨_,s5,ps,rfl,hl,hps⟩ lf nlf;obtain ⟨p0,p4,p5,p6,rfl⟩:∃ p0 p4 p5 p6,ps=[p0,p4,p5,p6]:=by
       match ps,hl with
       | [p0,p4,p5,p6],_=>exact ⟨_,_,_,_,rfl⟩
     obtain ⟨sb,hb,Pb⟩:=hps 0 p0 128 rfl rfl;obtain ⟨s4',h4,P4⟩:=hps 1 p4 16 rfl rfl;obtain ⟨s5',h5,P5⟩:=hps 2 p5 32 rfl rfl;obtain ⟨s6',h6,P6⟩:=hps 3 p6 64 rfl rfl;have sn:=ah (o:=.lst ([p0,p4,p5,p6].map V.ref)) nlf;have hlf:(upd H5 lf (.lst ([p0,p4,p5,p6].map V.ref))) lf=some (.lst [V.ref p0,.ref p4,.ref p5,.ref p6]):=ae;have s6:=(s4.trans s5).trans sn;have hlh6:=sn _ _ (s5 _ _ hlh4);have hb6:=sn _ _ hb;have h46:=sn _ _ h4;have h56:=sn _ _ h5;have h66:=sn _ _ h6;generalize (upd H5 lf (.lst ([p0,p4,p5,p6].map V.ref)))=H6 at s6 hlf hlh6 hb6 h46 h56 h66 ⊢;clear hps sn hb h4 h5 h6 nlf s5 s4 hlh4 hwy4 htt hwy3 hlh;walk_at "rk";refine FJ ?_;walk_at "rk";rename_i le nle;have hle:∀ {b:Addr} {o:HO},H6 b=some o→b≠le:=fun e z=>by subst z;rw [nle] at e;cases e
     have sn:=ah (o:=.lst []) nle;refine ⟨lh,p0,p4,p5,p6,_,_,_,_,_,rfl,aA.of (sn _ _ hlh6),aA.of (sn _ _ hb6),aA.of (sn _ _ h46),aA.of (sn _ _ h56),aA.of (sn _ _ h66),?_⟩;have nleH:H le=none:=aQ s6 nle;have hlen:=hO.len
     refine B7 (by rw [List.length_map, List.length_map, Pb.pi.len, hlen]) (by rw [List.length_map, List.length_map, P4.pi.len, hlen]) (by rw [List.length_map, List.length_map, P5.pi.len, hlen]) (by rw [List.length_map, List.length_map, P6.pi.len, hlen])
       (fun i σ HD=>au H6 HD∧∃ (ev:List V) (u1 u2 u3 u4 u5:Option V),σ = [some (.ref c),some (.ref d),some (.ref ly),some (.ref lh),some (.ref lf),some (.ref le),u1,u2,u3,u4,u5]∧HD le=some (.lst ev)∧kL HD ev ((List.range i).map (eJ hs sb s4' s5' s6')))
       ⟨sn,[],_,_,_,_,_,rfl,ae,kL.nil⟩ (fun i σ HD hi ⟨s,_⟩=>⟨aA.of (s _ _ hlh6),aA.of (s _ _ hb6),aA.of (s _ _ h46),aA.of (s _ _ h56),aA.of (s _ _ h66)⟩) ?_ ?_
     · rintro i x1 x2 x3 x4 x5 tn σ HD e1 e2 e3 e4 e5 ⟨s, ev, u1, u2, u3, u4, u5, rfl, hev, hE⟩ nT;rw [List.getElem?_map] at e1 e2 e3 e4 e5;obtain ⟨oh,f1,rfl⟩:=Option.map_eq_some_iff.mp e1;obtain ⟨ob,f2,rfl⟩:=Option.map_eq_some_iff.mp e2;obtain ⟨o4,f3,rfl⟩:=Option.map_eq_some_iff.mp e3;obtain ⟨o5,f4,rfl⟩:=Option.map_eq_some_iff.mp e4;obtain ⟨o6,f5,rfl⟩:=Option.map_eq_some_iff.mp e5;clear e1 e2 e3 e4 e5;have hi:i<hs.length:=(List.getElem?_eq_some_iff.mp f1).1;have hz:ev.length<sizeLine:=by
         rw [hE.1,List.length_map,List.length_range,sizeLine_eq];omega
       have hr:(List.range (i+1)).map (eJ hs sb s4' s5' s6')=(List.range i).map (eJ hs sb s4' s5' s6')++[eJ hs sb s4' s5' s6' i]:=by
         rw [List.range_succ,List.map_append];rfl
       have hnT:tn≠le:=fun z=>by subst z;rw [hev] at nT;cases nT
       have hevT:(upd HD tn (.tup [cv oh,cC ob,cC o4,cC o5,cC o6])) le=some (.lst ev):=ay hev nT;have sT:=s.trans (ah (o:=.tup [cv oh,cC ob,cC o4,cC o5,cC o6]) nT);have hET:=hE.to (H':=upd HD tn (.tup [cv oh,cC ob,cC o4,cC o5,cC o6])) (fun b xs e=>ay e nT);cases oh with
       | none =>
         have hen:eJ hs sb s4' s5' s6' i=none:=by unfold eJ;rw [f1];rfl
         simp only [cv] at hevT sT hET ⊢;walk_at "rk";refine oK hevT hz ?_;refine ⟨bz sT nle,ev++[.aR],_,_,_,_,_,rfl,ae,?_⟩;rw [hr,hen];exact (hET.to (mQ hevT)).snoc rfl
       | some h =>
         obtain ⟨b,g2⟩:=qm hO Pb f1;obtain ⟨b4,g3⟩:=qm hO P4 f1;obtain ⟨b5,g4⟩:=qm hO P5 f1;obtain ⟨b6,g5⟩:=qm hO P6 f1;rw [f2] at g2;rw [f3] at g3;rw [f4] at g4;rw [f5] at g5;cases g2;cases g3;cases g4;cases g5
         have hen:eJ hs sb s4' s5' s6' i=some ⟨h,b,b4,b5,b6⟩:=by
           unfold eJ gN;rw [f1,f2,f3,f4,f5];rfl
         simp only [cv,cC] at hevT sT hET ⊢;walk_at "rk";rename_i tq ntq tp ntp;have k1:=ay (o:=.tup [V.int (b4:Int),V.int (b5:Int),V.int (b6:Int)]) hevT ntq;have k2:=ay (o:=.tup [V.int h,V.int (b:Int),.ref tq]) k1 ntp;have s1:=sT.trans ((ah (o:=.tup [V.int (b4:Int),V.int (b5:Int),V.int (b6:Int)]) ntq).trans (ah (o:=.tup [V.int h,V.int (b:Int),.ref tq]) ntp));refine oK k2 hz ?_;refine ⟨bz s1 nle,ev++[.ref tp],_,_,_,_,_,rfl,ae,?_⟩;rw [hr,hen];refine ((hET.to (fun b xs e=>ay (ay e ntq) ntp)).to (mQ k2)).snoc ⟨tp,tq,rfl,mQ k2 _ _ ae,mQ k2 _ _ (ay ae ntp)⟩
     · rintro σ HD ⟨s, ev, u1, u2, u3, u4, u5, rfl, hev, hE⟩;walk_at "rk";refine q le ev _ HD (s6.trans s) nleH hev hE.ents ⟨?_,fun _=>⟨hs,sb,s4',s5',s6',⟨hO,Pb,P4,P5,P6⟩,fun i hi=>?_⟩⟩
       · rw [List.length_map,List.length_range,List.length_map,hlen]
       · rw [List.getElem?_map,List.getElem?_range (by rw [List.length_map,hlen];exact hi)];rfl
theorem cB.to {H H':Hp} {vs:List V} {cs:List Cm} (h:cB H vs cs) (s:∀ b xs,H b=some (.tup xs)→H' b=some (.tup xs)):cB H' vs cs:=⟨h.1,fun k o e=>let ⟨v,e1,q,e2,e3⟩:=h.2 k o e;⟨v,e1,q,e2,s _ _ e3⟩⟩
theorem Eg {D PP:Addr→Hp→Prop} {G:Prop} (key:∀ lf H3,D lf H3→PP lf H3) (use:(∀ lf H3,D lf H3→PP lf H3)→G):G:=use key
theorem uK {HX:Hp} {R:Hp→Prop} {b:Addr} {xs:List V} {H:Hp} {cs:List Cm} (h:au H HX) (hb:HX b=some (.lst xs)) (hc:cB HX xs cs) (k:∀ H9,au H H9→H9 b=some (.lst xs)→cB H9 xs cs→R H9):R HX:=k HX h hb hc
theorem q_ {H:Hp} {l:Addr} {ys:List V} {o:HO} (h:H l=some (.lst ys)) (b:Addr) (xs:List V) (e:H b=some (.tup xs)):(upd H l o) b=some (.tup xs):=by
 rw [aw (fun z=>by subst z;rw [h] at e;cases e)];exact e
theorem gc (T:Txt K mg a):cG P w K mg base be 6 "checked" (j5 K a):=by
 refine bJ (sp:=(j5 K a)) 5 T.yk eK (fun vs H Q E h=>?_) (fun f cdv A outer s H vs Q E hr h=>?_)
 · obtain ⟨c, t, prs, rs, ev, es, ls, rfl, _⟩ := h;rfl
 · obtain ⟨c, t, prs, rs, ev, es, ls, rfl, hc, hrs, ⟨dt, l, d, ht, hl, hd⟩, hev, E', hnd, h64, q⟩ := h;have hpl:=hrs.1;have hel:=hev.1;have en:=E'.ne;have rn:=E'.nr;unfold fq at ht
   refine ⟨_, (aj (aI (i := 2) eK.nd rfl (Or.inl rfl) (bA (K := K) rfl (pv 1)))
     (aj (aS (aB (eN (K:=K) rfl hr.units) (aP (a8 (K:=K) rfl) rfl T.bS bR (aa (pv 2) ag)) (aP (a8 (K:=K) rfl) rfl T.bS bR (aa (pv 0) ag)) (aF _)) (ak (az (aW (aa (aV (aa (gQ h_ ai) (aa (gQ h_ ai) (aa aK ag)))) ag)))) aH)
     (aj (aI (i:=3) eK.nd rfl (Or.inl rfl) (aW ag))
     (aj (aS (PW.pt (i_ (aB fB (aP (a8 (K:=K) rfl) rfl T.bS bR (aa (pv 0) ag)) ai (aF _)) (gL (aB (eN (K:=K) rfl hr.units) (aD (aJ (K:=K) rfl) (pv 2) ai (fun _ _=>rfl)) (bj (v:=.ref a.f_) rfl T.iE rfl) (aF _))))) (ak (bG (cA (K:=K) rfl PySem.F.plainAttrs_list PySem.F.slot_list_append PySem.F.type_list_append bM (pv 3) (aa (aV (aa (gQ h_ ai) (aa ai (aa aK ag)))) ag)))) aH)
     (aj (dE PassesOwn.never rfl (dq rfl T.dJ (aa (aP (a8 (K:=K) rfl) rfl T.bS bR (aa (pv 0) ag)) ag)) (aO (i:=4) eK.nd rfl (Or.inl rfl)) (ak (bG (cA (K:=K) rfl PySem.F.plainAttrs_list PySem.F.slot_list_extend PySem.F.type_list_extend Ac (pv 3) (aa (ax (m_ (K:=K) T) (hr.mono (by decide)) aC rfl (aa (pv 0) (aa (pv 2) (aa (pv 4) ag)))) ag)))))
     (aj (dE PassesOwn.never rfl (cw (K:=K) rfl (aP (vx rfl) rfl T.CU BR (aa (bA (K:=K) rfl (pv 1)) ag))) (aO (i:=4) eK.nd rfl (Or.inl rfl)) (aj (aI (i:=5) eK.nd rfl (Or.inl rfl) (xT (mM hr) (bA (K:=K) rfl (pv 1)) (pv 4) (fun _ _=>rfl)))
     (aj (aI (i:=6) eK.nd rfl (Or.inl rfl) (ax (km (K:=K) T) (hr.mono (by decide)) aC rfl (aa (pv 0) (aa (pv 2) (aa (pv 4) (aa (pv 5) ag))))))
     (ak (aS (aB i7 (pv 6) bB (aF _)) (ak (bG (cA (K:=K) rfl PySem.F.plainAttrs_list PySem.F.slot_list_append PySem.F.type_list_append bM (pv 3) (aa (aV (aa (pv 4) (aa (pv 5) (aa (pv 6) ag)))) ag)))) aH)))))
     (ak (az (pv 3))))))))),?_⟩
   refine aX (σ':=[some _,some _,none,none,none,none,none]) rfl ?_;walk_at "rd";rw [show (List.map V.ref prs).length=rs.length from by rw [List.length_map,hpl]];refine er (fun hh=>?_) (fun hh=>?_)
   · walk_at "rd";rename_i t1 nt1 l1 nl1;have hck:c9 rs es ls []=[⟨-1,-1,.length⟩]:=by unfold c9;rw [if_neg (by omega)]
     exact q l1 [.ref t1] [] _ (by walk_at "same") ae (fun z=>absurd z (by omega)) (by rw [hck];exact cB.one ⟨t1,rfl,by walk_at "hlk"⟩)
   have hre:es.length=rs.length:=by omega
   have hck:∀ ks,c9 rs es ls ks=dF rs es++fN rs es rs.length++gZ rs es ls ks:=fun ks=>by unfold c9;rw [if_pos hre]
   refine' Eg (D:=fun lcm H1=>∃ us,H lcm=none∧au H H1∧H1 lcm=some (.lst us)∧cB H1 us (dF rs es)) (PP:=?PP) ?key (fun kk=>?use)
   case use =>
     walk_at "rd";rename_i lcm nlc;refine cS (fun h1=>?_) (fun h1=>?_)
     · have h1' : 0 < rs.length := by rw [List.length_map] at h1; omega
       obtain ⟨v,oe,hat,hoe,hmem,hv⟩:=hev.at (c:=0) (Int.le_refl _) (by omega)
       obtain ⟨qs,st1,st2⟩:=T.j8;walk_at "rd";refine OZ oe iJ (hv.same (ah nlc)).dp (vV (st1 _) (st2 _)) ?_;have hoe:es[0]? = some oe:=hoe;have hst:dF rs es=if iw oe iJ=true then [] else [⟨-1,0,.start⟩]:=by unfold dF;rw [if_pos h1',hoe];rfl
       cases hb:iw oe iJ with
       | true =>
         rw [hb,if_pos rfl] at hst;walk_at "rk";refine fJ (aA.of (by walk_at "hlk")) ?_;clear h1 h1' hat hoe;walk_at "rd";refine uK (H:=H) (b:=lcm) (cs:=dF rs es) (by walk_at "same") ae (by rw [hst];exact cB.nil) (fun H9 s9 hb9 hc9=>?_);exact kk lcm H9 ⟨_,nlc,s9,hb9,hc9⟩
       | false =>
         rw [hb,if_neg (by decide)] at hst;walk_at "rk";rename_i t1 nt1;refine fJ (aA.of (by walk_at "hlk")) ?_;clear h1 h1' hat hoe;walk_at "rd";refine uK (H:=H) (b:=lcm) (cs:=dF rs es) (by walk_at "same") ae ?_ (fun H9 s9 hb9 hc9=>?_)
         · rw [hst];exact (cB.one ⟨t1,rfl,ae⟩).to (q_ (by walk_at "hlk"))
         · exact kk lcm H9 ⟨_,nlc,s9,hb9,hc9⟩
     · have hst : dF rs es = [] := by unfold dF; rw [if_neg (by rw [List.length_map] at h1; omega)]
       walk_at "rd";refine uK (H:=H) (b:=lcm) (cs:=dF rs es) (by walk_at "same") ae (by rw [hst];exact cB.nil) (fun H9 s9 hb9 hc9=>?_);exact kk lcm H9 ⟨_,nlc,s9,hb9,hc9⟩
   case key =>
     rintro lcm H1 ⟨us,nlc,s1,hlc,hcm⟩;have sf:=zc rs es;refine ic (fun i σ H2=>(∃ u1 u2 u3,σ = [some (.ref c),some (.ref t),some (.ref l),some (.ref lcm),u1,u2,u3])∧au H H2∧∃ us,H2 lcm=some (.lst us)∧cB H2 us (dF rs es++fN rs es i)) ⟨⟨_,_,_,rfl⟩,s1,us,hlc,by rw [show fN rs es 0=[] from rfl,List.append_nil];exact hcm⟩ ?_ ?_
     · rintro i σ H2 hi ⟨⟨u1, u2, u3, rfl⟩, s2, us2, hlc2, hcm2⟩;rw [List.length_map] at hi;clear s1 hlc hcm;walk_at "rd";refine ⟨c,l,i,prs,rs,ev,es,by rw [Int.zero_add],s2 _ _ hc,hrs.same s2,s2 _ _ hl,hev.same s2,E',by omega,hre.symm,fun p1 us1 H3 s3 hp1 hcm3 np1=>?_⟩;have hlc3:=s3 _ _ hlc2;have hcl2:=hcm2.1;have hcl3:=hcm3.1;have f1:=kq rs es i;have f2:=rN rs es i;rw [List.length_append] at hcl2;walk_at "rd";refine BU hlc3 hp1 (by rw [sizeLine_eq];omega) ?_;refine ⟨⟨_,_,_,rfl⟩,fun b o e=>by rw [aw (aq e nlc)];exact (s2.trans s3) b o e,_,ae,?_⟩;rw [nQ,← List.append_assoc];exact ((hcm2.same s3).app hcm3).to (q_ hlc3)
     rintro σ H2 ⟨⟨u1,u2,u3,rfl⟩,s2,us2,hlc2,hcm2⟩;rw [show (((List.map V.ref prs).length:Nat):Int).toNat=rs.length from by rw [List.length_map,hpl];omega] at hcm2;clear s1 hlc hcm;have ht2:=s2 _ _ ht;have hd2:=s2 _ _ hd;have f1:=kq rs es rs.length;walk_at "rd";refine D9 hd2 (zY ls) (by rw [List.length_map];exact h64) fun ks pp hperm hpw hpp=>?_;have hkl:ks.length<64:=by rw [hperm.length_eq,List.length_map];exact h64
     walk_at "rd";refine eE (K:=K) (a:=pp) (xs:=ks.map V.int) (fun i σ H4=>(∃ u1 u2 u3,σ = [some (.ref c),some (.ref t),some (.ref l),some (.ref lcm),u1,u2,u3])∧au H H4∧H4 pp=some (.lst (ks.map V.int))∧∃ us,H4 lcm=some (.lst us)∧us.length≤21000+i∧cB H4 us (dF rs es++fN rs es rs.length++gZ rs es ls (ks.take i))) ⟨⟨_,_,_,rfl⟩,s2.trans (ah hpp),ae,us2,ay hlc2 hpp,by rw [hcm2.1,List.length_append];omega,by rw [List.take_zero,show gZ rs es ls []=[] from rfl,List.append_nil];exact hcm2.same (ah hpp)⟩ (fun i σ H4 _ ⟨_,_,h4,_⟩=>aA.of h4) ?_ ?_
     · rintro i v σ H4 hvi ⟨⟨u1, u2, u3, rfl⟩, s4, hpp4, us4, hlc4, hul4, hcm4⟩;obtain ⟨k,hk,rfl⟩:∃ n,ks[i]? = some n∧v=.int n:=by
         rw [List.getElem?_map] at hvi;obtain ⟨p,hp,e⟩:=Option.map_eq_some_iff.mp hvi;exact ⟨p,hp,e.symm⟩
       have hi:i<ks.length:=(List.getElem?_eq_some_iff.mp hk).1;obtain ⟨kv,hkv,hke⟩:=List.mem_map.mp (hperm.mem_iff.mp (List.mem_of_getElem? hk));obtain ⟨hv1,hv2⟩:=gG hnd kv hkv;rw [hke] at hv1 hv2;rw [← hv2] at hv1;have ht4:=s4 _ _ ht;have hd4:=s4 _ _ hd;have hnp:pp≠lcm:=fun z=>by rw [z] at hpp;rw [hlc2] at hpp;cases hpp
       clear ht2 hd2 hlc2 hcm2 s2;have htk:gZ rs es ls (ks.take (i+1))=gZ rs es ls (ks.take i)++((gX rs es k (lv ls k)).map fun w=>Cm.mk k (lv ls k) w).toList:=by
         unfold gZ;rw [List.take_add_one,hk,Option.toList_some,List.flatMap_append];simp
       rw [htk];walk_at "rd";refine Ae ?_;walk_at "rd";refine Eb hd4 hv1 ?_;walk_at "rd";refine ⟨c,l,k,lv ls k,prs,rs,ev,es,rfl,s4 _ _ hc,hrs.same s4,s4 _ _ hl,hev.same s4,E',hre.symm,fun H5 s5=>?_⟩;have hlc5:=s5 _ _ hlc4;have hcm5:=hcm4.same s5;have s05:=s4.trans s5;have hpp5:=s5 _ _ hpp4;cases hw:gX rs es k (lv ls k) with
       | none =>
         show c8 6 V.aR _ _ _;walk_at "rd";exact ⟨⟨_,_,_,rfl⟩,s05,hpp5,us4,hlc5,by omega,by show cB _ _ (_++(_++[]));rw [List.append_nil];exact hcm5⟩
       | some w =>
         show c8 6 w.v _ _ _;walk_at "rd";rename_i t1 nt1;refine ⟨⟨_,_,_,rfl⟩,fun b o e=>by rw [aw (aq e nlc)];exact (s05.trans (ah nt1)) b o e,by rw [aw hnp];exact ay hpp5 nt1,_,ae,by rw [List.length_append];show _+1≤_;omega,?_⟩;rw [← List.append_assoc];exact ((hcm5.same (ah nt1)).app (cB.one (c:=⟨k,lv ls k,w⟩) ⟨t1,rfl,ae⟩)).to (q_ (ay hlc5 nt1))
     · rintro σ H4 ⟨⟨u1, u2, u3, rfl⟩, s4, hpp4, us4, hlc4, hul4, hcm4⟩;rw [List.length_map,List.take_length] at hcm4;walk_at "rd";exact q lcm us4 ks H4 s4 hlc4 (fun _=>⟨hperm,hpw⟩) (by rw [hck];exact hcm4)
theorem zT (T:Txt K mg a):cG P w K mg base (eM P w) 7 "guess" (mF K a)∧Tc P w K mg base (eM P w) 7 "guess" (mF K a):=by
 refine DY (sp:=(mF K a)) 6 T.Cq oZ (fun vs H Q E h=>?_) (fun f cdv A outer s H vs Q E hr h=>?_)
 · obtain ⟨c, lvv, prs, rs, ls, rfl, _⟩ := h;rfl
 · obtain ⟨c, lvv, prs, rs, ls, rfl, hc, hrs, aG, h2000, hls, hlv, qe, q⟩ := h
   refine ⟨_, (aj (PS.cO (aI (i := 2) oZ.nd rfl (Or.inl rfl) (iX (aB cU (pv 1) bB (aF _)) gM (pv 1))))
     (aj (aI (i:=3) oZ.nd rfl (Or.inl rfl) (cH (o8 (K:=K) T) (hr.mono (by decide)) aC rfl (aa (ax (sL (K:=K) T) (hr.mono (by decide)) jR rfl (aa (pv 0) (aa (pv 2) ag))) (aa (pv 2) ag))))
     (aj (aS (PT.cO (aB fB (aP (a8 (K:=K) rfl) rfl T.bS bR (aa (ax (gc (K:=K) T) (hr.mono (by decide)) aC rfl (aa (pv 0) (aa (pv 3) ag))) ag)) ai (aF _))) (ak (ku T.g0 rfl (aa aK ag))) aH)
     (ak (PS.cO (az (pv 3))))))),?_⟩
   refine aX (σ':=[some _,some _,none,none]) rfl ?_;rcases hlv with ⟨rfl,rfl⟩ | ⟨d,rfl,hd⟩
   · walk_at "rk";rename_i d nd;have s1:=ah (o:=.dK []) nd;have hd1:(upd H d (.dK [])) d=some (.dK (bp [])):=ae;generalize (upd H d (.dK []))=H1 at s1 hd1 ⊢;have hc1:=s1 _ _ hc;have hrs1:=hrs.same s1;walk_at "rk";refine ⟨c,d,prs,rs,([]:List (Int×Int)),rfl,hc1,hrs1,aG,h2000,hls,hd1,fun hb H' s'=>qe (.inl hb) _ (s1.trans s'),fun le ev es H2 s2 nle hle hev G=>?_⟩;have s12:=s1.trans s2;have hd2:=s2 _ _ hd1;clear nle;walk_at "rk";intro xt dxt nxt ndxt nne;refine' tT (kvs:=bp ([]:List (Int×Int))) (xs:=ev) nxt ndxt ?h1 ?h2 ?q;(case h1=>exact aA.of hle)
     (case h2=>exact .inr ⟨d,rfl,hd2⟩)
     (case q =>
       intro l8 d8 H8 s8 nl8 nd8 n12 nxl nxd hxt hl8 hd8;refine ⟨rfl,?_⟩;have s18:=s12.trans s8;have nxtH:H xt=none:=aQ s12 nxt;have hev8:=hev.same s8;have nl8H:H l8=none:=aQ s12 nl8;have nd8H:H d8=none:=aQ s12 nd8;have htab:TabOf K a H8 xt ev ([]:List (Int×Int)):=⟨dxt,l8,d8,hxt,hl8,hd8⟩
       clear s8 nl8 nd8 n12 nxl nxd nxt ndxt nne;walk_at "rk";refine ⟨c,xt,prs,rs,ev,es,([]:List (Int×Int)),rfl,s18 _ _ hc,hrs.same s18,htab,hev8,⟨aG,mU G,h2000,by rw [G.len];exact h2000⟩,hls.1,hls.2.1,fun p us ks H9 s9 hp hks hcm=>?_⟩;have hks':=(hks G.len).1;walk_at "rk";refine fJ (aA.of hp) ?_;rw [hcm.1];have s19:=s18.trans s9;by_cases hz:c9 rs es ([]:List (Int×Int)) ks=[]
       · rw [hz];walk_at "rk";exact q xt ev es ks H9 s19 nxtH ⟨dxt,l8,d8,nl8H,nd8H,s9 _ _ hxt,s9 _ _ hl8,s9 _ _ hd8⟩ (hev8.same s9) G hks' hz
       · have : 0 < (c9 rs es ([] : List (Int × Int)) ks).length := List.length_pos_iff.mpr hz;walk_at "rk";refine iH ?_;walk_at "rk";exact ⟨by show 1≤1000;decide,qe (.inr ⟨es,ks,G,hks',hz⟩) _ s19⟩)
   · have s1 := au.refl H;have hd1:=hd;have hc1:=s1 _ _ hc;have hrs1:=hrs.same s1;walk_at "rk";refine ⟨c,d,prs,rs,ls,rfl,hc1,hrs1,aG,h2000,hls,hd1,fun hb H' s'=>qe (.inl hb) _ (s1.trans s'),fun le ev es H2 s2 nle hle hev G=>?_⟩;have s12:=s1.trans s2;have hd2:=s2 _ _ hd1;clear nle;walk_at "rk";intro xt dxt nxt ndxt nne;refine' tT (kvs:=bp ls) (xs:=ev) nxt ndxt ?h1 ?h2 ?q;(case h1=>exact aA.of hle)
     (case h2=>exact .inr ⟨d,rfl,hd2⟩)
     (case q =>
       intro l8 d8 H8 s8 nl8 nd8 n12 nxl nxd hxt hl8 hd8;refine ⟨rfl,?_⟩;have s18:=s12.trans s8;have nxtH:H xt=none:=aQ s12 nxt;have hev8:=hev.same s8;have nl8H:H l8=none:=aQ s12 nl8;have nd8H:H d8=none:=aQ s12 nd8;have htab:TabOf K a H8 xt ev ls:=⟨dxt,l8,d8,hxt,hl8,hd8⟩
       clear s8 nl8 nd8 n12 nxl nxd nxt ndxt nne;walk_at "rk";refine ⟨c,xt,prs,rs,ev,es,ls,rfl,s18 _ _ hc,hrs.same s18,htab,hev8,⟨aG,mU G,h2000,by rw [G.len];exact h2000⟩,hls.1,hls.2.1,fun p us ks H9 s9 hp hks hcm=>?_⟩;have hks':=(hks G.len).1;walk_at "rk";refine fJ (aA.of hp) ?_;rw [hcm.1];have s19:=s18.trans s9;by_cases hz:c9 rs es ls ks=[]
       · rw [hz];walk_at "rk";exact q xt ev es ks H9 s19 nxtH ⟨dxt,l8,d8,nl8H,nd8H,s9 _ _ hxt,s9 _ _ hl8,s9 _ _ hd8⟩ (hev8.same s9) G hks' hz
       · have : 0 < (c9 rs es ls ks).length := List.length_pos_iff.mpr hz;walk_at "rk";refine iH ?_;walk_at "rk";exact ⟨by show 1≤1000;decide,qe (.inr ⟨es,ks,G,hks',hz⟩) _ s19⟩)
theorem Bw (T:Txt K mg a):cG P w K mg base (eM P w) 7 "guess" (mF K a):=(zT T).1
theorem iQ (T:Txt K mg a):cG P w K mg base be 8 "_law_guess" (Cz K a):=by
 refine bJ (sp:=(Cz K a)) 7 T.uk gk (fun vs H Q E h=>?_) (fun f cdv A outer s H vs Q E hr h=>?_)
 · obtain ⟨c, d, prs, rs, ls, rfl, _⟩ := h;rfl
 · obtain ⟨c, d, prs, rs, ls, rfl, hc, hrs, aG, h2000, hls, hd, qn, q⟩ := h
   refine ⟨_, (aj (aI (i := 2) gk.nd rfl (Or.inl rfl) bB)
     (aj (El rfl rfl rfl (G7 (i:=2) gk.nd rfl (Or.inl rfl) (Bw (K:=K) T) (hr.mono (by decide)) rfl (aa (pv 0) (aa (pv 1) ag))) T.g0 rfl (fun ea=>(ak (aI (i:=2) gk.nd rfl (Or.inl rfl) bB))))
     (ak (az (pv 2))))),?_⟩
   refine aX (σ':=[some _,some _,none]) rfl ?_;walk_at "rk";refine DW ?_;walk_at "rk";refine ⟨c,.ref d,prs,rs,ls,rfl,hc,hrs,aG,h2000,hls,.inr ⟨d,rfl,hd⟩,fun hb H1 s1=>⟨rfl,?_⟩,fun t ev es ks H1 s1 nt htab hev G hks hz=>?_⟩
   · have qn1 := qn (fun es' L => ?_) H1 s1
     · walk_at "rk";exact qn1
     · rcases hb with hb | ⟨es, ks, G, hks, hz⟩
       · exact L.good hb
       · exact hz (yH (great aG L G).1 hks)
   · walk_at "rk";exact q t ev es H1 s1 nt htab hev G (x9 hz hks)
theorem zf (T:Txt K mg a):cG P w K mg base be 9 "_law_any" (DI K):=by
 refine bJ (sp:=(DI K)) 8 T.yI eC (fun vs H Q E h=>?_) (fun f cdv A outer s H vs Q E hr h=>?_)
 · obtain ⟨a0, ns, rfl, _⟩ := h;rfl
 · obtain ⟨a0, ns, rfl, hS, h63, q⟩ := h;refine' ⟨_,?fz,?_⟩;(case fz=>(refine' aj ?Jr ?M7;(case M7=>(refine' aj ?JY ?O9;(case O9=>(refine' aj ?NM ?MP;(case MP=>exact (aj (dE PassesOwn.never rfl (rz rfl T.dJ (aa ai (aa (aP (a8 (K:=K) rfl) rfl T.bS bR (aa (pv 3) ag)) ag))) (aO (i:=5) eC.nd rfl (Or.inl rfl)) (ak (bG (cA (K:=K) rfl PySem.F.plainAttrs_list PySem.F.slot_list_append PySem.F.type_list_append bM (pv 4) (aa (ax (o9 (K:=K) T) (hr.mono (by decide)) aC rfl (aa (ax (bN (K:=K) T) (hr.mono (by decide)) aC rfl (aa (pv 0) (aa (ar (aT (K:=K) rfl) ai (pv 5)) ag))) ag)) ag))))) (aj (aS (aB (ka (K:=K) rfl hr.units) (ax (gc (K:=K) T) (hr.mono (by decide)) aC rfl (aa (pv 3) (aa (cH (o8 (K:=K) T) (hr.mono (by decide)) aC rfl (aa (pv 4) (aa (pv 2) ag))) ag))) (aW ag) (aF _)) (ak (az fu)) aH) (aj (aI (i:=6) eC.nd rfl (Or.inr rfl) (ax (iQ (K:=K) T) (hr.mono (by decide)) aC rfl (aa (pv 3) (aa (pv 2) ag)))) (aj (aS (PW.pt (fR (aB cU (pv 6) bB (aF _)) (fK (aB (ka (K:=K) rfl hr.units) (ax (gc (K:=K) T) (hr.mono (by decide)) aC rfl (aa (pv 3) (aa (pv 6) ag))) (aW ag) (aF _))))) (ak (az fu)) aH) (ak (az (aP (Av (K:=K) rfl rfl) rfl T.Dh DK (aa (dY (own:=["_law_k"]) (fr:=[("_law_entries",4),("_law_found",6)]) rfl ⟨rfl,(by walk_at "clok"),(by walk_at "frok"),rfl,(by decide +kernel),(by decide +kernel),rfl⟩ (dq rfl T.dJ (aa (aP (a8 (K:=K) rfl) rfl T.bS bR (aa (pv 3) ag)) ag)) (fun _ _ _ _=>(aO (i:=0) (show List.Nodup [("_law_k" : Str),("_law_entries" : Str),("_law_found" : Str)] from by decide +kernel) rfl (Or.inl rfl))) (fun _ _ _ _=>cW) (fun _ _ _ _=>(ax (kM (K:=K) T) (hr.mono (by decide)) aC rfl (aa (aD (aJ (K:=K) rfl) (bA (K:=K) rfl (pv 2)) (pv 0) (fun _ _=>rfl)) (aa (aD (aJ (K:=K) rfl) (pv 1) (pv 0) (fun _ _=>rfl)) ag))))) ag)))))))));(case NM=>(refine' aI (i:=4) ?Jh ?Jv ?Ki ?Pd ?N6 ?Q5;(case Jh=>exact eC.nd);(case Jv=>rfl);(case Ki=>exact (Or.inr rfl));(case N6=>rfl);(case Q5=>exact .inl rfl);(case Pd=>(refine' aW ?L7;(case L7=>(refine' aa ?Ms ?Mr ?Ql;(case Ql=>rfl);(case Ms=>(refine' aV ?JF;(case JF=>(refine' aa ?OA ?OK ?IT;(case IT=>rfl);(case OA=>exact ai);(case OK=>(refine' aa ?J3 ?IS ?J1;(case J1=>rfl);(case J3=>exact ai);(case IS=>(refine' aa ?Nm ?Na ?R9;(case R9=>rfl);(case Nm=>(refine' aV ?KJ;(case KJ=>(refine' aa ?Ml ?Q6 ?KC;(case KC=>rfl);(case Ml=>exact ai);(case Q6=>(refine' aa ?Nr ?Qy ?QU;(case QU=>rfl);(case Nr=>exact ai);(case Qy=>(refine' aa ?Rj ?La ?Ni;(case Ni=>rfl);(case Rj=>exact ai);(case La=>exact ag)))))))));(case Na=>exact ag)))))))));(case Mr=>exact ag)))))))));(case JY=>exact (f9 (i:=3) eC.nd rfl rfl (own:=["_law_told"]) (fr:=[]) rfl ⟨rfl,(by walk_at "clok"),(by walk_at "frok"),rfl,(by decide +kernel),(by decide +kernel),rfl⟩ (cw (K:=K) rfl (pv 1)) (fun _ _ _ _=>(aO (i:=0) (show List.Nodup [("_law_told" : Str)] from by decide +kernel) rfl (Or.inl rfl))) (fun _ _ _ _=>cW) (fun _ _ _ _=>(ax (kj (K:=K) T) (hr.mono (by decide)) aC rfl (aa (pv 0) ag)))))));(case Jr=>exact (fQ (ax (pL (K:=K) T) (hr.mono (by decide)) aC rfl (aa (pv 0) ag)) (fD (K:=K) rfl rfl (bP (aO (i:=1) eC.nd rfl (Or.inl rfl)) (bP (aO (i:=2) eC.nd rfl (Or.inl rfl)) ft)))))))
   refine aX (σ':=[some _,none,none,none,none,none,none]) rfl ?_;walk_at "rd";refine ⟨a0,ns,rfl,hS,h63,fun t l d us ls H1 s1 ht hl0 hd0 hld hl u1 u12 tds hd hls=>?_⟩;walk_at "rd";refine ez (K:=K) (a:=l) (xs:=us) (fun i ys σ H2=>(∃ v,σ = [v])∧au H1 H2∧∃ (prs:List Addr) (rs:List Rw),ys=prs.map V.ref∧prs.length=i∧bY a H2 prs rs∧∀ r∈rs,r.ok∧r.here) ⟨⟨_,rfl⟩,au.refl _,[],[],rfl,rfl,bY.nil,(fun _ z=>by cases z)⟩ (fun i ys σ H2 hi ⟨_,s2,prs,rs,e,e2,_⟩=>⟨aA.of (s2 _ _ hl),by rw [e,List.length_map,e2,sizeLine_eq];omega⟩) ?_ ?_
   · rintro i u ys σ H2 hu ⟨⟨v, rfl⟩, s2, prs, rs, rfl, e2, hrs, aG⟩;obtain ⟨r,td,ok⟩:=tds u (List.mem_of_getElem? hu);walk_at "rd";refine ⟨_,r,rfl,td.same s2,ok,fun x H3 s3 _ hx=>⟨⟨_,rfl⟩,s2.trans s3,prs++[x],rs++[r],by rw [List.map_append];rfl,by rw [List.length_append,e2];rfl,(hrs.same s3).snoc hx,fun r' hr'=>?_⟩⟩;rcases List.mem_append.mp hr' with z | z
     · exact aG r' z
     · have e : r' = r := by simpa using z
       rw [e];exact ok
   rintro ys σ H2 ⟨_,s2,prs,rs,rfl,e2,hrs,aG⟩;have hd2:=s2 _ _ hd;have hS2:=bc (s1.trans s2) hS;have S2:au H H2:=s1.trans s2;clear s1 s2 hS hd hl tds ht;walk_at "rd";rename_i lc nlc t1 nt1 t2 nt2 le nle;have hpl:((prs.map V.ref).length:Int)=us.length:=by rw [List.length_map,e2]
   refine ⟨1,_,rfl,⟨by decide,by decide,by rw [hpl];omega,by rw [hpl];omega⟩,?_⟩;have en0:bQ K (upd (upd (upd (upd H2 lc (HO.lst (List.map V.ref prs))) t1 (HO.tup [V.int 16,V.int 32,V.int 64])) t2 (HO.tup [V.int 0,V.int 128,V.ref t1])) le (HO.lst [V.ref t2])) [V.ref t2] [some ⟨0,128,16,32,64⟩]:=bQ.nil.snoc ⟨t2,rfl,t1,aZ.of (ay ae nle),aZ.of (ay (ay ae nt2) nle)⟩;have sB:au H2 (upd (upd (upd H2 lc (HO.lst (List.map V.ref prs))) t1 (HO.tup [V.int 16,V.int 32,V.int 64])) t2 (HO.tup [V.int 0,V.int 128,V.ref t1])):=((ah nlc).trans (ah nt1)).trans (ah nt2);have hlcB:(upd (upd (upd H2 lc (HO.lst (List.map V.ref prs))) t1 (HO.tup [V.int 16,V.int 32,V.int 64])) t2 (HO.tup [V.int 0,V.int 128,V.ref t1])) lc=some (.lst (prs.map V.ref)):=ay (ay ae nt1) nt2;generalize upd (upd (upd H2 lc (HO.lst (List.map V.ref prs))) t1 (HO.tup [V.int 16,V.int 32,V.int 64])) t2 (HO.tup [V.int 0,V.int 128,V.ref t1])=HB at en0 sB hlcB nle ⊢;have hdB:=sB _ _ hd2;have hSB:=bc sB hS2;have hrB:=hrs.same sB;have SB:au H HB:=S2.trans sB;clear S2 sB hd2 hS2 hrs nlc nt1 nt2;refine ic (fun i σ HD=>∃ (ev:List V) (es:List (Option Ent)) (v:Option V),σ = [some (.ref a0),some (.ref l),some (.ref d),some (.ref lc),some (.ref le),v,none]∧au HB HD∧HD le=some (.lst ev)∧bQ K HD ev es∧es.length=1+i∧∀ oe∈es,pM oe) ⟨[.ref t2],[some ⟨0,128,16,32,64⟩],_,rfl,ah nle,ae,en0,rfl,fun oe ho=>?_⟩ ?_ ?_
   · have e : oe = some ⟨0, 128, 16, 32, 64⟩ := by simpa using ho
     rw [e];exact fun e' z=>by cases z;exact ⟨⟨by decide,by decide,by decide,by decide⟩,by decide,by decide⟩
   · rintro i σ HD hi ⟨ev, es, v, rfl, sD, hle, hen, hes, hE⟩;have hSD:=bc sD hSB;walk_at "rd";refine ⟨_,rfl,fun u oe H3 s3 hu ho=>?_⟩;have hle3:=s3 _ _ hle;have hevl:=hen.1;have s4:=sD.trans s3;have hen3:=hen.same s3;clear sD s3 SB;walk_at "rd";refine ⟨ev++[u],es++[oe],_,rfl,bz s4 nle,ae,(hen3.snoc hu).off hle3 (.inl ⟨_,rfl⟩),by rw [List.length_append,hes];rfl,fun o ho'=>?_⟩;rcases List.mem_append.mp ho' with z | z
     · exact hE o z
     · have e : o = oe := by simpa using z
       rw [e];exact ho
   rintro σ HD ⟨ev,es,v,rfl,sD,hle,hen,hes,hE⟩;have hlcD:=sD _ _ hlcB;have hdD:=sD _ _ hdB;have hrD:=hrB.same sD;have SD:=SB.trans sD;have hrl:=hrB.1;have hesr:es.length=rs.length:=by rw [hpl] at hes;omega
   clear sD SB hlcB hdB hrB hSB en0 nle hpl hes;walk_at "rd";intro x dx nx ndx nxd;refine' tT (kvs:=bp ls) (xs:=ev) nx ndx ?h1 ?h2 ?q;(case h1=>exact aA.of hle)
   (case h2=>exact .inr ⟨d,rfl,hdD⟩)
   (case q =>
     intro l8 d8 H8 s8 nl8 nd8 n12 nxl nxd hxt hl8 hd8;refine ⟨rfl,?_⟩;have hlc8:=s8 _ _ hlcD;have hd08:=s8 _ _ hdD;have hle8:=s8 _ _ hle;have hr8:=hrD.same s8;have hen8:=hen.same s8;have S8:=SD.trans s8;clear s8 nl8 nd8 n12 nxl nxd nx ndx hlcD hdD hrD SD hle hen;walk_at "rd";refine ⟨lc,x,prs,rs,ev,es,ls,rfl,hlc8,hr8,⟨dx,l8,d8,hxt,hl8,hd8⟩,hen8,⟨aG,fun t ht=>((hE _ ht) t rfl).1,by omega,by omega⟩,hls.1,hls.2.1,fun p us1 ks H9 s9 hp hks hcm=>?_⟩;have hks':=(hks hesr).1;have hlc9:=s9 _ _ hlc8;have hd9:=s9 _ _ hd08;have hle9:=s9 _ _ hle8;have hr9:=hr8.same s9;have hen9:=hen8.same s9;have S9:=S8.trans s9;have hcl:=hcm.1;clear s9 S8 hxt hl8 hd8 hcm hks hlc8 hd08 hle8 hr8 hen8;walk_at "rd";rename_i l9 nl9;by_cases hz:c9 rs es ls ks=[]
     · rw [hz] at hcl;have hu1:us1=[]:=List.length_eq_zero_iff.mp hcl;subst hu1;refine jZ (ay hp nl9) ae ?_;have L0:=x9 hz hks';have sA:au H9 (upd H9 l9 (.lst [])):=ah nl9;have hlcA:=sA _ _ hlc9;have hdA:=sA _ _ hd9;have hleA:=sA _ _ hle9;have hrA:=hr9.same sA;have henA:=hen9.same sA;have SA:=S9.trans sA;clear sA S9 hlc9 hd9 hle9 hr9 hen9 hp;generalize upd H9 l9 (HO.lst [])=HA at hlcA hdA hleA hrA henA SA ⊢;clear nl9;walk_at "rd";refine ⟨lc,d,prs,rs,ls,rfl,hlcA,hrA,aG,by omega,hls,hdA,fun h=>absurd L0 (h es),fun tf evf esf HF sF ntf htab hevf G L=>?_⟩;obtain ⟨dtf,lf,df,nlf,ndf,htf,hlf,hdf⟩:=htab;have hlcF:=sF _ _ hlcA;have hleF:=sF _ _ hleA;have hrF:=hrA.same sF;have henF:=henA.same sF;have SF:=SA.trans sF;have hfl:=hevf.1;have hGl:=G.len;clear sF SA hlcA hdA hleA hrA henA nlf ndf ntf;walk_at "rd";refine ⟨lc,tf,prs,rs,evf,esf,ls,rfl,hlcF,hrF,⟨dtf,lf,df,htf,hlf,hdf⟩,hevf,⟨aG,mU G,by omega,by omega⟩,hls.1,hls.2.1,fun p2 us2 ks2 HG sG hp2 hks2 hcm2=>?_⟩;have hu2:us2=[]:=by
         have z:=hcm2.1;rw [yH L (hks2 G.len).1] at z;exact List.length_eq_zero_iff.mp z
       subst hu2;have hlcG:=sG _ _ hlcF;have hleG:=sG _ _ hleF;have htG:=sG _ _ htf;have hlG:=sG _ _ hlf;have henG:=henF.same sG;have hevG:=hevf.same sG;have SG:=SF.trans sG;clear sG SF hlcF hleF hrF henF htf hlf hdf hcm2 hks2 hevf;walk_at "rd";rename_i lz nlz;refine jZ (ay hp2 nlz) ae ?_;have sZ:au HG (upd HG lz (.lst [])):=ah nlz;have hlcZ:=sZ _ _ hlcG;have hleZ:=sZ _ _ hleG;have htZ:=sZ _ _ htG;have hlZ:=sZ _ _ hlG;have henZ:=henG.same sZ;have hevZ:=hevG.same sZ;have SZ:=SG.trans sZ;clear sZ SG hlcG hleG htG hlG henG hevG hp2;generalize upd HG lz (HO.lst [])=HZ at hlcZ hleZ htZ hlZ henZ hevZ SZ ⊢;clear nlz;walk_at "rd";rw [show ((List.map V.ref prs).length:Int).toNat=rs.length from by rw [List.length_map];omega];have bg:=(great aG L0 G).2;refine dZ (fun i ys σ H1=>(∃ v,σ = [v,some (.ref le),some (.ref tf)])∧au HZ H1∧ys=(List.replicate i true).map V.bl) ⟨⟨_,rfl⟩,au.refl _,rfl⟩ (fun i ys σ H1 hi h=>by rw [h.2.2,List.length_map,List.length_replicate,sizeLine_eq];omega) ?_ ?_
       · rintro i ys σ H1 hi ⟨⟨v, rfl⟩, s1, rfl⟩;have hle1:=s1 _ _ hleZ;have ht1:=s1 _ _ htZ;have hl1:=s1 _ _ hlZ;have hen1:=henZ.same s1;have hev1:=hevZ.same s1;clear SZ hleZ htZ hlZ hlcZ henZ hevZ;obtain ⟨vf,oef,af,bf,_,cf⟩:=hev1.at (c:=0+(i:Int)) (by omega) (by omega)
         obtain ⟨vo,oeo,ao,bo,_,co⟩:=hen1.at (c:=0+(i:Int)) (by omega) (by omega)
         rw [show (0+(i:Int)).toNat=i from by omega] at bf bo;walk_at "rd";refine ⟨vf,vo,oef,oeo,rfl,cf,co,?_,fun H2 s2=>⟨⟨_,rfl⟩,s1.trans s2,by rw [List.replicate_succ',List.map_append];rfl⟩⟩;cases oef with
         | none=>exact .inl rfl
         | some e =>
           obtain ⟨e',h1,h2⟩:=bg i e (by rw [bf];rfl);rw [bo] at h1;exact .inr ⟨e,e',rfl,h1,h2⟩
       rintro ys σ H1 ⟨_,s1,rfl⟩;have S1:=SZ.trans s1;clear s1 SZ;intro p np;walk_at "rd";refine Le (bs:=List.replicate rs.length true) (aA.of ae) ?_;rw [show (List.replicate rs.length true).all id=true from by simp];exact q _ (S1.trans (ah np))
     · have hu1 : us1.length ≠ 0 := fun z => hz (List.length_eq_zero_iff.mp (hcl ▸ z));refine rf (ay hp nl9) ae hu1 ?_;walk_at "rd";exact q _ (S9.trans (ah nl9)))
theorem oH {P : Program} {w : World} {K : W.Frag} {mg : Str → Option Value} {base : Heap} {a : cM} (T : Txt K mg a) {Q : VK} {a0 l d t dt lf df lc : Addr} {fo : V} {v4 : Option V} {H : Hp} {prs : List Addr} {rs : List Rw} {ls : List (Int × Int)} {ns : List Int} {ev : List V} {es : List (Option Ent)} (q : ∀ (H' : Hp), Q (V.bl true) H') (hS : aA K H a0 (ns.map V.int)) (h63 : ns.length ≤ 63) (hd : H d = some (.dK (bp ls))) (hls : eW ls) (hc : H lc = some (.lst (prs.map V.ref))) (hr : bY a H prs rs) (aG : ∀ r ∈ rs, r.ok ∧ r.here) (r1 : 1 ≤ rs.length) (r450 : rs.length ≤ 450) (ht : H t = some (.ins a.bT dt (fq lf df))) (hlf : H lf = some (.lst ev)) (hev : bQ K H ev es) (hel : es.length = rs.length) (hE : ∀ oe ∈ es, pM oe)
   (hfo:(fo=.aR∧∀ es',¬ Lb rs es' ls)∨∃ tf dtf l2 df2 evf esf,fo=.ref tf∧H tf=some (.ins a.bT dtf (fq l2 df2))∧H l2=some (.lst evf)∧bQ K H evf esf∧jH rs ls esf) :
   Ct K (Str.ofString "entries") (V.ref t) H fun x H1=>cZ [some (V.ref a0),some (V.ref l),some (V.ref d),some (V.ref t),v4,some (V.ref lc),some fo,none,none,none] H1 fun xs H2=>vX K (x::xs) H2 fun x H1=>c8 7 x [some (V.ref a0),some (V.ref l),some (V.ref d),some (V.ref t),v4,some (V.ref lc),some fo,none,none,none] H1 ({ nx:=fX (qL (vg K (DD (oR K) (bF 0) (mG (tC (V.int 3))) (mG (d7 (mE K) (tC (V.int 3)) (d7 (rI (fun x j=>0<j) fun i j=>V.int (i%j)) (d7 (rI qM fun i j=>V.int (i/j)) (dP (gO K) E0 (bO (bF 0) (bO (tC (V.int 2)) cZ))) (tC (V.int 3))) (tC (V.int 4))))))) (c8 8) (lF (dP (pW K) E0 (bO (bF 7) (bO (bF 8) cZ))) (yj (bF 7) (d7 (rI (fun x j=>0<j) fun i j=>V.int (i%j)) (bF 8) (qr (mB K) (bO (bF 7) cZ))) ql))) (fX (ij (fT (d7 (fun x y H Q=>il K x y H Q∨iY K x y H Q) (dP (j5 K a) E0 (bO (bF 5) (bO (mj a.bT (kA K a.bT) E0 (bO (bF 7) (bO (bF 2) cZ))) cZ))) (uv cZ))) (ik (tC (V.bl true))) fU) (fX (ij (fT (d7 kr (bF 6) (tC V.aR))) (ik (tC (V.bl false))) fU) (fX (qL (tJ (bO (qr (mB K) (bO (bF 5) cZ)) cZ)) (c8 9) (ij (uN (qR K (dP (pT K) E0 (bO (d7 (jF K) (l6 K (bF 6) (Str.ofString "entries")) (bF 9)) (bO (d7 (jF K) (bF 7) (bF 9)) cZ))))) (ik (tC (V.bl false))) fU)) (ik (tC (V.bl true)))))) { nx:=fun x H'=>Q V.aR H',rt:=Q },rt:=({ nx:=fun x H'=>Q V.aR H',rt:=Q }:Ends).rt }:Ends).nx:=by
 have hk : 0≤cellAt ns 2/3%4∧cellAt ns 2/3%4<4:=⟨by omega,by omega⟩
 have hcl:=oT ns (j:=3) (k:=cellAt ns 2/3%4) (by decide) hk.1;walk_at "rd";rename_i le nle lx nlx;generalize de ns (some 3) (some (3+cellAt ns 2/3%4))=cs at hcl nlx ⊢;have hen0:bQ K (upd (upd H le (.lst ev)) lx (.lst (cs.map V.int))) ev es:=hev.same ((ah nle).trans (ah nlx));refine eE (K:=K) (a:=lx) (xs:=cs.map V.int) (fun i σ HD=>∃ (ev':List V) (es':List (Option Ent)) (v8:Option V),σ = [some (.ref a0),some (.ref l),some (.ref d),some (.ref t),v4,some (.ref lc),some fo,some (.ref le),v8,none]∧au H HD∧HD lx=some (.lst (cs.map V.int))∧HD le=some (.lst ev')∧bQ K HD ev' es'∧es'.length=rs.length∧∀ oe∈es',pM oe) ⟨ev,es,_,rfl,(ah nle).trans (ah nlx),ae,ay ae nlx,hen0,hel,hE⟩ (fun i σ HD _ ⟨_,_,_,_,_,h,_⟩=>aA.of h) ?_ ?_
 · rintro i x σ HD hx ⟨ev', es', v8, rfl, sD, hlx, hle, hen, hel', hE'⟩;obtain ⟨c,hc2,rfl⟩:∃ c:Int,cs[i]? = some c∧x=.int c:=by
     rw [List.getElem?_map] at hx;obtain ⟨c,h1,e⟩:=Option.map_eq_some_iff.mp hx;exact ⟨c,h1,e.symm⟩
   clear hx hc2 hen0;walk_at "rd";refine ⟨le,c,ev',es',rfl,hle,hen,by omega,by omega,hE',fun u oe H3 s3 hu ho=>?_⟩;have hle3:=s3 _ _ hle;have hlx3:=s3 _ _ hlx;have hen3:=hen.same s3;have sD3:=sD.trans s3;have hevl:=hen.1;have hl0 : 0<(ev'.length:Int):=by omega
   have z0:=Int.emod_nonneg c (show (ev'.length:Int)≠0 by omega);have z1:=Int.emod_lt_of_pos c hl0;clear sD s3 hle hlx hen;walk_at "rd";refine iS hle3 (ve z0 z1) ?_;refine ⟨ev'.set (c%(ev'.length:Int)).toNat u,es'.set (c%(ev'.length:Int)).toNat oe,_,rfl,bz sD3 nle,by rw [aw (fun z=>by rw [z,ae] at nlx;cases nlx)];exact hlx3,ae,(hen3.set hu).off hle3 (.inl ⟨_,rfl⟩),by rw [List.length_set];exact hel',fun o ho'=>?_⟩;rcases List.mem_or_eq_of_mem_set ho' with z | z
   · exact hE' o z
   · rw [z];exact ho
 rintro σ HD ⟨ev',es',v8,rfl,sD,hlx,hle,hen,hel',hE'⟩;have hlcD:=sD _ _ hc;have hdD:=sD _ _ hd;have hrD:=hr.same sD;have hfoD:(fo=.aR∧∀ es',¬ Lb rs es' ls)∨∃ tf dtf l2 df2 evf esf,fo=.ref tf∧HD tf=some (.ins a.bT dtf (fq l2 df2))∧HD l2=some (.lst evf)∧bQ K HD evf esf∧jH rs ls esf:=by
   rcases hfo with h | ⟨tf,dtf,l2,df2,evf,esf,e,h1,h2,h3,h4⟩
   · exact .inl h
   · exact .inr ⟨tf,dtf,l2,df2,evf,esf,e,sD _ _ h1,sD _ _ h2,h3.same sD,h4⟩
 have hrl:=hr.1;clear sD hlx hen0 nle nlx hc hd hr hfo hev ht hlf hS hcl;walk_at "rd";intro x dx nx ndx nxd;refine' tT (kvs:=bp ls) (xs:=ev') nx ndx ?h1 ?h2 ?q;(case h1=>exact aA.of hle)
 (case h2=>exact .inr ⟨d,rfl,hdD⟩)
 (case q =>
   intro l8 d8 H8 s8 nl8 nd8 n12 nxl nxd hxt hl8 hd8;refine ⟨rfl,?_⟩;have hlc8:=s8 _ _ hlcD;have hle8:=s8 _ _ hle;have hr8:=hrD.same s8;have hen8:=hen.same s8;have hfo8:(fo=.aR∧∀ es',¬ Lb rs es' ls)∨∃ tf dtf l2 df2 evf esf,fo=.ref tf∧H8 tf=some (.ins a.bT dtf (fq l2 df2))∧H8 l2=some (.lst evf)∧bQ K H8 evf esf∧jH rs ls esf:=by
     rcases hfoD with h | ⟨tf,dtf,l2,df2,evf,esf,e,h1,h2,h3,h4⟩
     · exact .inl h
     · exact .inr ⟨tf,dtf,l2,df2,evf,esf,e,s8 _ _ h1,s8 _ _ h2,h3.same s8,h4⟩
   clear s8 nl8 nd8 n12 nxl nxd nx ndx hlcD hdD hrD hle hen hfoD;walk_at "rd";refine ⟨lc,x,prs,rs,ev',es',ls,rfl,hlc8,hr8,⟨dx,l8,d8,hxt,hl8,hd8⟩,hen8,⟨aG,fun t ht=>((hE' _ ht) t rfl).1,by omega,by omega⟩,hls.1,hls.2.1,fun p us1 ks H9 s9 hp hks hcm=>?_⟩;have hks':=(hks hel').1;have hlc9:=s9 _ _ hlc8;have hle9:=s9 _ _ hle8;have hen9:=hen8.same s9;have hfo9:(fo=.aR∧∀ es',¬ Lb rs es' ls)∨∃ tf dtf l2 df2 evf esf,fo=.ref tf∧H9 tf=some (.ins a.bT dtf (fq l2 df2))∧H9 l2=some (.lst evf)∧bQ K H9 evf esf∧jH rs ls esf:=by
     rcases hfo8 with h | ⟨tf,dtf,l2,df2,evf,esf,e,h1,h2,h3,h4⟩
     · exact .inl h
     · exact .inr ⟨tf,dtf,l2,df2,evf,esf,e,s9 _ _ h1,s9 _ _ h2,h3.same s9,h4⟩
   have hcl:=hcm.1;clear s9 hxt hl8 hd8 hcm hks hlc8 hle8 hr8 hen8 hfo8;walk_at "rd";rename_i l9 nl9;by_cases hz:c9 rs es' ls ks=[]
   · rw [hz] at hcl;have hu1:us1=[]:=List.length_eq_zero_iff.mp hcl;subst hu1;refine jZ (ay hp nl9) ae ?_;have L0:=x9 hz hks';rcases hfo9 with ⟨_,h⟩ | ⟨tf,dtf,l2,df2,evf,esf,rfl,htf,hl2,hevf,G⟩
     · exact absurd L0 (h es')
     have sA:au H9 (upd H9 l9 (.lst [])):=ah nl9;have hlcA:=sA _ _ hlc9;have hleA:=sA _ _ hle9;have henA:=hen9.same sA;have htA:=sA _ _ htf;have hlA:=sA _ _ hl2;have hevA:=hevf.same sA;clear sA hlc9 hle9 hen9 hp htf hl2 hevf;generalize upd H9 l9 (HO.lst [])=HZ at hlcA hleA henA htA hlA hevA ⊢;clear nl9;walk_at "rd";rw [show ((List.map V.ref prs).length:Int).toNat=rs.length from by rw [List.length_map];omega];have bg:=(great aG L0 G).2;have hGl:=G.len;refine ic (fun i σ H1=>(∃ v,σ = [some (.ref a0),some (.ref l),some (.ref d),some (.ref t),v4,some (.ref lc),some (.ref tf),some (.ref le),v8,v])∧au HZ H1) ⟨⟨_,rfl⟩,au.refl _⟩ ?_ ?_
     · rintro i σ H1 hi ⟨⟨v, rfl⟩, s1⟩;have hle1:=s1 _ _ hleA;have ht1:=s1 _ _ htA;have hl1:=s1 _ _ hlA;have hen1:=henA.same s1;have hev1:=hevA.same s1;clear hleA htA hlA hlcA henA hevA;obtain ⟨vf,oef,af,bf,_,cf⟩:=hev1.at (c:=0+(i:Int)) (by omega) (by omega)
       obtain ⟨vo,oeo,ao,bo,_,co⟩:=hen1.at (c:=0+(i:Int)) (by omega) (by omega)
       rw [show (0+(i:Int)).toNat=i from by omega] at bf bo;walk_at "rd";refine ⟨vf,vo,oef,oeo,rfl,cf,co,?_,fun H2 s2=>?_⟩
       · cases oef with
         | none=>exact .inl rfl
         | some e =>
           obtain ⟨e',h1,h2⟩:=bg i e (by rw [bf];rfl);rw [bo] at h1;exact .inr ⟨e,e',rfl,h1,h2⟩
       · walk_at "rd";exact ⟨⟨_,rfl⟩,s1.trans s2⟩
     · rintro σ H1 ⟨⟨v, rfl⟩, s1⟩;walk_at "rd";exact q _
   · have hu1 : us1.length ≠ 0 := fun z => hz (List.length_eq_zero_iff.mp (hcl ▸ z));refine rf (ay hp nl9) ae hu1 ?_;walk_at "rd";exact q _)
theorem kx {P : Program} {w : World} {K : W.Frag} {mg : Str → Option Value} {base : Heap} {a : cM} (T : Txt K mg a) {Q : VK} {a0 l d : Addr} {fv : V} {v4 : Option V} {H : Hp} {us : List V} {ls : List (Int × Int)} {ns : List Int} (q : ∀ (H' : Hp), Q (V.bl true) H') (hS : aA K H a0 (ns.map V.int)) (h63 : ns.length ≤ 63) (hl : H l = some (.lst us)) (u1 : 1 ≤ us.length) (u450 : us.length ≤ 450) (tds : ba jd H us) (hd : H d = some (.dK (bp ls))) (hls : eW ls) (hf : fw K a H fv us.length) :
   gT (pV K l) (c8 0) yg (dP (vC a) E0 (bO (bF 0) cZ)) (fun ys H3=>∀ (p:Addr),H3 p=none→c8 5 (V.ref p) [some (V.ref a0),some (V.ref l),some (V.ref d),some fv,v4,none,none,none,none,none] (upd H3 p (HO.lst ys)) ({ nx:=fX (lF (dP (Cz K a) E0 (bO (bF 5) (bO (bF 2) cZ))) (c8 6)) (fX (ij (fT (d7 gW (bF 6) (tC V.aR))) (fX (ij (DA (fT (d7 (fun x y H Q=>il K x y H Q∨iY K x y H Q) (dP (j5 K a) E0 (bO (bF 5) (bO (bF 6) cZ))) (uv cZ))) (DA (fT (d7 vS (l6 K (bF 6) (Str.ofString "landings")) (bF 2))) (uN (qR K (qr (zq K) (bO (l6 K (bF 6) (Str.ofString "entries")) (bO (tC (V.ty "list")) cZ))))))) (ik (tC (V.bl false))) fU) (ij (fT (d7 (jo fun i j=>V.bl (decide (j<i))) (d7 (rI (fun x j=>0<j) fun i j=>V.int (i%j)) (dP (gO K) E0 (bO (bF 0) (bO (tC (V.int 2)) cZ))) (tC (V.int 3))) (tC (V.int 0)))) (lF (bF 6) (c8 3)) fU)) fU) (fX (ij (fT (d7 kr (bF 3) (tC V.aR))) (ik (tC (V.bl true))) fU) (fX (lF (qr (vX K) (bO (l6 K (bF 3) (Str.ofString "entries")) cZ)) (c8 7)) (fX (qL (vg K (DD (oR K) (bF 0) (mG (tC (V.int 3))) (mG (d7 (mE K) (tC (V.int 3)) (d7 (rI (fun x j=>0<j) fun i j=>V.int (i%j)) (d7 (rI qM fun i j=>V.int (i/j)) (dP (gO K) E0 (bO (bF 0) (bO (tC (V.int 2)) cZ))) (tC (V.int 3))) (tC (V.int 4))))))) (c8 8) (lF (dP (pW K) E0 (bO (bF 7) (bO (bF 8) cZ))) (yj (bF 7) (d7 (rI (fun x j=>0<j) fun i j=>V.int (i%j)) (bF 8) (qr (mB K) (bO (bF 7) cZ))) ql))) (fX (ij (fT (d7 (fun x y H Q=>il K x y H Q∨iY K x y H Q) (dP (j5 K a) E0 (bO (bF 5) (bO (mj a.bT (kA K a.bT) E0 (bO (bF 7) (bO (bF 2) cZ))) cZ))) (uv cZ))) (ik (tC (V.bl true))) fU) (fX (ij (fT (d7 kr (bF 6) (tC V.aR))) (ik (tC (V.bl false))) fU) (fX (qL (tJ (bO (qr (mB K) (bO (bF 5) cZ)) cZ)) (c8 9) (ij (uN (qR K (dP (pT K) E0 (bO (d7 (jF K) (l6 K (bF 6) (Str.ofString "entries")) (bF 9)) (bO (d7 (jF K) (bF 7) (bF 9)) cZ))))) (ik (tC (V.bl false))) fU)) (ik (tC (V.bl true)))))))))) { nx:=fun x H'=>Q V.aR H',rt:=Q },rt:=({ nx:=fun x H'=>Q V.aR H',rt:=Q }:Ends).rt }:Ends).nx) (j0 [Str.ofString "_law_told"] [] [some (V.ref a0),some (V.ref l),some (V.ref d),some fv,v4,none,none,none,none,none]) H:=by
 refine ez (K:=K) (a:=l) (xs:=us) (fun i ys σ H2=>(∃ v,σ = [v])∧au H H2∧∃ (prs:List Addr) (rs:List Rw),ys=prs.map V.ref∧prs.length=i∧bY a H2 prs rs∧∀ r∈rs,r.ok∧r.here) ⟨⟨_,rfl⟩,au.refl _,[],[],rfl,rfl,bY.nil,(fun _ z=>by cases z)⟩ (fun i ys σ H2 hi ⟨_,s2,prs,rs,e,e2,_⟩=>⟨aA.of (s2 _ _ hl),by rw [e,List.length_map,e2,sizeLine_eq];omega⟩) ?_ ?_
 · rintro i u ys σ H2 hu ⟨⟨v, rfl⟩, s2, prs, rs, rfl, e2, hrs, aG⟩;obtain ⟨r,td,ok⟩:=tds u (List.mem_of_getElem? hu);walk_at "rd";refine ⟨_,r,rfl,td.same s2,ok,fun x H3 s3 _ hx=>⟨⟨_,rfl⟩,s2.trans s3,prs++[x],rs++[r],by rw [List.map_append];rfl,by rw [List.length_append,e2];rfl,(hrs.same s3).snoc hx,fun r' hr'=>?_⟩⟩;rcases List.mem_append.mp hr' with z | z
   · exact aG r' z
   · have e : r' = r := by simpa using z
     rw [e];exact ok
 rintro ys σ H2 ⟨_,s2,prs,rs,rfl,e2,hrs,aG⟩;intro lc nlc;have s3:=s2.trans (ah nlc (o:=.lst (prs.map V.ref)));have hr3:=hrs.same (ah nlc (o:=.lst (prs.map V.ref)));have hc3:(upd H2 lc (.lst (prs.map V.ref))) lc=some (.lst (prs.map V.ref)):=ae;generalize upd H2 lc (HO.lst (prs.map V.ref))=H3 at s3 hr3 hc3 ⊢;have hd3:=s3 _ _ hd;have hS3:=bc s3 hS;have hrl:=hrs.1;have hf3:=hf.same s3;clear s2 s3 hl hd tds hS hrs nlc hf;walk_at "rd";refine ⟨lc,d,prs,rs,ls,rfl,hc3,hr3,aG,by omega,hls,hd3,fun nol H4 s4=>?_,fun tf evf esf H4 s4 ntf htab hevf G L=>?_⟩
 · have hd4 := s4 _ _ hd3;have hc4:=s4 _ _ hc3;have hr4:=hr3.same s4;have hS4:=bc s4 hS3;have hf4:=hf3.same s4;clear s4 hd3 hS3 hc3 hr3 hf3;rcases hf4 with rfl | ⟨t,dt,lf,df,ev,es,rfl,ht,hlf,hev,hel,hE⟩
   · walk_at "rd";exact q _
   · have fin := oH (P := P) (w := w) (base := base) T (l := l) (v4 := v4) q hS4 h63 hd4 hls hc4 hr4 aG (by omega) (by omega) ht hlf hev (by omega) hE (.inl ⟨rfl, nol⟩);clear T;walk_at "rd";exact fin
 · obtain ⟨dtf, l2, df2, nl2, ndf2, htf, hl2, hdf2⟩ := htab;have hd4:=s4 _ _ hd3;have hc4:=s4 _ _ hc3;have hr4:=hr3.same s4;have hS4:=bc s4 hS3;have hf4:=hf3.same s4;have hGl:=G.len;have hfl:=hevf.1;clear s4 hd3 hS3 hc3 hr3 hf3 nl2 ndf2 ntf;walk_at "rd";refine ⟨lc,tf,prs,rs,evf,esf,ls,rfl,hc4,hr4,⟨dtf,l2,df2,htf,hl2,hdf2⟩,hevf,⟨aG,mU G,by omega,by omega⟩,hls.1,hls.2.1,fun p2 us2 ks2 HG sG hp2 hks2 hcm2=>?_⟩;have hu2:us2=[]:=by
     have z:=hcm2.1;rw [yH L (hks2 G.len).1] at z;exact List.length_eq_zero_iff.mp z
   subst hu2;have hdG:=sG _ _ hd4;have hcG:=sG _ _ hc4;have hrG:=hr4.same sG;have hSG:=bc sG hS4;have hfG:=hf4.same sG;have htG:=sG _ _ htf;have hlG:=sG _ _ hl2;have hdfG:=sG _ _ hdf2;have hevG:=hevf.same sG;clear sG hd4 hc4 hr4 hS4 hf4 htf hl2 hdf2 hevf hcm2 hks2;walk_at "rd";rename_i lz nlz;refine jZ (ay hp2 nlz) ae ?_;have sZ:au HG (upd HG lz (.lst [])):=ah nlz;have hdZ:=sZ _ _ hdG;have hcZ:=sZ _ _ hcG;have hrZ:=hrG.same sZ;have hSZ:=bc sZ hSG;have hfZ:=hfG.same sZ;have htZ:=sZ _ _ htG;have hlZ:=sZ _ _ hlG;have hdfZ:=sZ _ _ hdfG;have hevZ:=hevG.same sZ;generalize upd HG lz (HO.lst [])=HZ at sZ hdZ hcZ hrZ hSZ hfZ htZ hlZ hdfZ hevZ ⊢;clear sZ nlz hp2 hdG hcG hrG hSG hfG htG hlG hdfG hevG;walk_at "rd";refine Ep hdfZ hdZ (Br hls) ?_;walk_at "rd";refine cS (fun hh=>?_) (fun hh=>?_)
   · have fin := oH (P := P) (w := w) (base := base) T (l := l) (v4 := v4) q hSZ h63 hdZ hls hcZ hrZ aG (by omega) (by omega) htZ hlZ hevZ (by omega) (zE L (mU G)) (.inr ⟨tf, dtf, l2, df2, evf, esf, rfl, htZ, hlZ, hevZ, G⟩);clear T;walk_at "rd";exact fin
   · rcases hfZ with rfl | ⟨t, dt, lf, df, ev, es, rfl, ht, hlf, hev, hel, hE⟩
     · walk_at "rd";exact q _
     · have fin := oH (P := P) (w := w) (base := base) T (l := l) (v4 := v4) q hSZ h63 hdZ hls hcZ hrZ aG (by omega) (by omega) ht hlf hev (by omega) hE (.inr ⟨tf, dtf, l2, df2, evf, esf, rfl, htZ, hlZ, hevZ, G⟩);clear T;walk_at "rd";exact fin
theorem law_fn {fa:Addr} {fd:FuncData} (T:Txt K mg a) (F:fL K "law" "law" jg fa fd):eg P w K mg base be 10 fa fd ["_law_script"] (yF K):=by
 refine F.ok (k:=9) fj (fun vs H Q E h=>?_) (fun cdv A outer s H vs Q E hr h=>?_)
 · obtain ⟨a0, ns, rfl, _⟩ := h;rfl
 · obtain ⟨a0, ns, rfl, hS, h63, q⟩ := h
   refine ⟨_, (aj (aS (aB (cp (K := K) rfl hr.units) (ar aN (ax (bN (K := K) T) (hr.mono (by decide)) aC rfl (aa (pv 0) (aa ai ag))) ai) ai (aF _)) (ak (az (ax (zf (K := K) T) (hr.mono (by decide)) aC rfl (aa (pv 0) ag)))) aH)
     (aj (fQ (ax (wC (K:=K) T) (hr.mono (by decide)) aC rfl (aa (pv 0) ag)) (fD (K:=K) rfl rfl (bP (aO (i:=1) fj.nd rfl (Or.inl rfl)) (bP (aO (i:=2) fj.nd rfl (Or.inl rfl)) ft))))
     (aj (aI (i:=3) fj.nd rfl (Or.inl rfl) (ax (iQ (K:=K) T) (hr.mono (by decide)) aC rfl (aa (dY (own:=["_law_told"]) (fr:=[]) rfl ⟨rfl,(by walk_at "clok"),(by walk_at "frok"),rfl,(by decide +kernel),(by decide +kernel),rfl⟩ (cw (K:=K) rfl (pv 1)) (fun _ _ _ _=>(aO (i:=0) (show List.Nodup [("_law_told" : Str)] from by decide +kernel) rfl (Or.inl rfl))) (fun _ _ _ _=>cW) (fun _ _ _ _=>(ax (kj (K:=K) T) (hr.mono (by decide)) aC rfl (aa (pv 0) ag)))) (aa (pv 2) ag))))
     (aj (aS (aB (cp (K:=K) rfl hr.units) (ar aN (ax (bN (K:=K) T) (hr.mono (by decide)) aC rfl (aa (pv 0) (aa ai ag))) ai) ai (aF _)) (aj (aI (i:=4) fj.nd rfl (Or.inl rfl) (ax (pf (K:=K) T) (hr.mono (by decide)) aC rfl (aa (ar a9 (ax (bN (K:=K) T) (hr.mono (by decide)) aC rfl (aa (pv 0) (aa ai ag))) ai) (aa (aP (a8 (K:=K) rfl) rfl T.bS bR (aa (pv 1) ag)) ag))))
     (ak (fQ (pv 4) (my (pv 1) (ar aN (ar a9 (ax (bN (K:=K) T) (hr.mono (by decide)) aC rfl (aa (pv 0) (aa ai ag))) ai) (aP (a8 (K:=K) rfl) rfl T.bS bR (aa (pv 1) ag))) set_list)))) aH)
     (aj (f9 (i:=5) fj.nd rfl rfl (own:=["_law_told"]) (fr:=[]) rfl ⟨rfl,(by walk_at "clok"),(by walk_at "frok"),rfl,(by decide +kernel),(by decide +kernel),rfl⟩ (cw (K:=K) rfl (pv 1)) (fun _ _ _ _=>(aO (i:=0) (show List.Nodup [("_law_told" : Str)] from by decide +kernel) rfl (Or.inl rfl))) (fun _ _ _ _=>cW) (fun _ _ _ _=>(ax (kj (K:=K) T) (hr.mono (by decide)) aC rfl (aa (pv 0) ag))))
     (aj (aI (i:=6) fj.nd rfl (Or.inl rfl) (ax (iQ (K:=K) T) (hr.mono (by decide)) aC rfl (aa (pv 5) (aa (pv 2) ag))))
     (aj (aS (aB i7 (pv 6) bB (aF _)) (aj (aS (PW.pt (fR (aB (ka (K:=K) rfl hr.units) (ax (gc (K:=K) T) (hr.mono (by decide)) aC rfl (aa (pv 5) (aa (pv 6) ag))) (aW ag) (aF _)) (fR (aB (CB hr.units) (bA (K:=K) rfl (pv 6)) (pv 2) (aF _)) (fK (hV (cV (K:=K) rfl (aP (e_ (K:=K) rfl) rfl T.dS dQ (aa (bA (K:=K) rfl (pv 6)) (aa (Ea (v:=.ty "list") rfl T.pY px rfl) ag))))))))) (ak (az fu)) aH)
     (ak (aS (aB fB (ar aN (ax (bN (K:=K) T) (hr.mono (by decide)) aC rfl (aa (pv 0) (aa ai ag))) ai) ai (aF _)) (ak (aI (i:=3) fj.nd rfl (Or.inl rfl) (pv 6))) aH))) aH)
     (aj (aS (aB cU (pv 3) bB (aF _)) (ak (az fu)) aH)
     (aj (aI (i:=7) fj.nd rfl (Or.inl rfl) (eu (pN (K:=K) rfl) rfl T.pY px (aa (bA (K:=K) rfl (pv 3)) ag)))
     (aj (dE PassesOwn.never rfl (cw (K:=K) rfl (fY (oU (K:=K) rfl) (pv 0) (eT ai) (eT (ar (aT (K:=K) rfl) ai (ar aN (ar a9 (ax (bN (K:=K) T) (hr.mono (by decide)) aC rfl (aa (pv 0) (aa ai ag))) ai) ai))))) (aO (i:=8) fj.nd rfl (Or.inl rfl)) (ak (fQ (ax (rZ (K:=K) T) (hr.mono (by decide)) aC rfl (aa (pv 7) (aa (pv 8) ag))) (my (pv 7) (ar aN (pv 8) (aP (a8 (K:=K) rfl) rfl T.bS bR (aa (pv 7) ag))) set_list))))
     (aj (aS (aB (ka (K:=K) rfl hr.units) (ax (gc (K:=K) T) (hr.mono (by decide)) aC rfl (aa (pv 5) (aa (cH (o8 (K:=K) T) (hr.mono (by decide)) aC rfl (aa (pv 7) (aa (pv 2) ag))) ag))) (aW ag) (aF _)) (ak (az fu)) aH)
     (aj (aS (aB cU (pv 6) bB (aF _)) (ak (az fu)) aH)
     (aj (dE PassesOwn.never rfl (dq rfl T.dJ (aa (aP (a8 (K:=K) rfl) rfl T.bS bR (aa (pv 5) ag)) ag)) (aO (i:=9) fj.nd rfl (Or.inl rfl)) (ak (aS (hV (cV (K:=K) rfl (ax (kM (K:=K) T) (hr.mono (by decide)) aC rfl (aa (aD (aJ (K:=K) rfl) (bA (K:=K) rfl (pv 6)) (pv 9) (fun _ _=>rfl)) (aa (aD (aJ (K:=K) rfl) (pv 7) (pv 9) (fun _ _=>rfl)) ag))))) (ak (az fu)) aH)))
     (ak (az fu))))))))))))))),?_⟩
   refine aX (σ':=[some _,none,none,none,none,none,none,none,none,none]) rfl ?_;walk_at "rd";refine fA (fun hh=>?_) (fun hh=>?_)
   · walk_at "rd";exact ⟨a0,ns,rfl,hS,h63,fun H' _=>q H'⟩
   walk_at "rd";refine ⟨a0,ns,rfl,hS,h63,fun t l d us ls H1 s1 ht hl0 hd0 hld hl u1 u450 tds hd hls=>?_⟩;have hS1:=bc s1 hS;have m1:xl H H1:=⟨s1⟩
   clear s1 hh;walk_at "rd";refine ez (K:=K) (a:=l) (xs:=us) (fun i ys σ H2=>(∃ v,σ = [v])∧au H1 H2∧∃ (prs:List Addr) (rs:List Rw),ys=prs.map V.ref∧prs.length=i∧bY a H2 prs rs∧∀ r∈rs,r.ok∧r.here) ⟨⟨_,rfl⟩,au.refl _,[],[],rfl,rfl,bY.nil,(fun _ z=>by cases z)⟩ (fun i ys σ H2 hi ⟨_,s2,prs,rs,e,e2,_⟩=>⟨aA.of (s2 _ _ hl),by rw [e,List.length_map,e2,sizeLine_eq];omega⟩) ?_ ?_
   · rintro i u ys σ H2 hu ⟨⟨v, rfl⟩, s2, prs, rs, rfl, e2, hrs, aG⟩;obtain ⟨r,td,ok⟩:=tds u (List.mem_of_getElem? hu);walk_at "rd";refine ⟨_,r,rfl,td.same s2,ok,fun x H3 s3 _ hx=>⟨⟨_,rfl⟩,s2.trans s3,prs++[x],rs++[r],by rw [List.map_append];rfl,by rw [List.length_append,e2];rfl,(hrs.same s3).snoc hx,fun r' hr'=>?_⟩⟩;rcases List.mem_append.mp hr' with z | z
     · exact aG r' z
     · have e : r' = r := by simpa using z
       rw [e];exact ok
   rintro ys σ H2 ⟨_,s2,prs,rs,rfl,e2,hrs,aG⟩;intro lc0 nlc0;have s3:=s2.trans (ah nlc0 (o:=.lst (prs.map V.ref)));have hr3:=hrs.same (ah nlc0 (o:=.lst (prs.map V.ref)));have hc3:(upd H2 lc0 (.lst (prs.map V.ref))) lc0=some (.lst (prs.map V.ref)):=ae;generalize upd H2 lc0 (HO.lst (prs.map V.ref))=H3 at s3 hr3 hc3 ⊢;have hl3:=s3 _ _ hl;have hd3:=s3 _ _ hd;have tds3:=tds.same s3;have hS3:=bc s3 hS1;have hrl:=hrs.1;have m3:xl H H3:=⟨m1.s.trans s3⟩
   clear s2 s3 hl hd tds hS1 hrs nlc0 ht hd0;walk_at "rd";refine ⟨lc0,d,prs,rs,ls,rfl,hc3,hr3,aG,by omega,hls,hd3,fun _ H4 s4=>?_,fun tf ev es H4 s4 ntf htab hev G L=>?_⟩
   · have hl4 := s4 _ _ hl3;have hd4:=s4 _ _ hd3;have tds4:=tds3.same s4;have hS4:=bc s4 hS3;have m4:xl H H4:=⟨m3.s.trans s4⟩
     have hf4:fw K a H4 .aR us.length:=.inl rfl;clear s4 hl3 hd3 tds3 hS3 hc3 hr3;have hul1 : 0<(us.length:Int):=by omega
     have z0:=Int.emod_nonneg (cellAt ns 1/2) (show (us.length:Int)≠0 by omega);have z1:=Int.emod_lt_of_pos (cellAt ns 1/2) hul1;walk_at "rd";refine fA (fun hx=>?_) (fun hx=>?_)
     · walk_at "rd";refine ⟨_,_,rfl,by omega,by omega,fun u r H5 s5 hu ho=>?_⟩;have hl5:=s5 _ _ hl4;have hd5:=s5 _ _ hd4;have tds5:=tds4.same s5;have hS5:=bc s5 hS4;have hf5:=hf4.same s5;have m5:xl H H5:=⟨m4.s.trans s5⟩
       clear s5 hl4 hd4 tds4 hS4 hf4;walk_at "rd";refine iS hl5 (ve z0 z1) ?_;have hS6:aA K (upd H5 l (.lst (us.set (cellAt ns 1/2%(us.length:Int)).toNat u))) a0 (ns.map V.int):=bc (bz m5.s hl0) hS;have hd6:(upd H5 l (.lst (us.set (cellAt ns 1/2%(us.length:Int)).toNat u))) d=some (.dK (bp ls)):=by rw [aw (fun z=>by rw [z,hl5] at hd5;cases hd5)];exact hd5
       have td6:ba jd (upd H5 l (.lst (us.set (cellAt ns 1/2%(us.length:Int)).toNat u))) (us.set (cellAt ns 1/2%(us.length:Int)).toNat u):=(tds5.set hu ho).off hl5;have hf6:=hf5.off (o:=.lst (us.set (cellAt ns 1/2%(us.length:Int)).toNat u)) hl5 (fun t dt lf df e=>by cases e);have fin:=kx (P:=P) (w:=w) (base:=base) T (v4:=some u) q hS6 h63 ae (by rw [List.length_set];omega) (by rw [List.length_set];omega) td6 hd6 hls (by rw [List.length_set];exact hf6);walk_at "rd";exact fin
     · have fin := kx (P := P) (w := w) (base := base) T (v4 := none) q hS4 h63 hl4 u1 u450 tds4 hd4 hls hf4;walk_at "rd";exact fin
   · have hl4 := s4 _ _ hl3;have hd4:=s4 _ _ hd3;have tds4:=tds3.same s4;have hS4:=bc s4 hS3;have m4:xl H H4:=⟨m3.s.trans s4⟩
     obtain ⟨dtf,lf,df,nlf,ndf,htf,hlf,hdf⟩:=htab;have hne:lf≠l:=fun z=>by rw [z,hl3] at nlf;cases nlf
     have hf4:fw K a H4 (.ref tf) us.length:=by
       exact .inr ⟨tf,dtf,lf,df,ev,es,rfl,htf,hlf,hev,by rw [L.len];omega,zE L (mU G)⟩
     clear s4 hl3 hd3 tds3 hS3 hc3 hr3;have hul1 : 0<(us.length:Int):=by omega
     have z0:=Int.emod_nonneg (cellAt ns 1/2) (show (us.length:Int)≠0 by omega);have z1:=Int.emod_lt_of_pos (cellAt ns 1/2) hul1;walk_at "rd";refine fA (fun hx=>?_) (fun hx=>?_)
     · walk_at "rd";refine ⟨_,_,rfl,by omega,by omega,fun u r H5 s5 hu ho=>?_⟩;have hl5:=s5 _ _ hl4;have hd5:=s5 _ _ hd4;have tds5:=tds4.same s5;have hS5:=bc s5 hS4;have htf5:=s5 _ _ htf;have hf5:=hf4.same s5;have m5:xl H H5:=⟨m4.s.trans s5⟩
       clear s5 hl4 hd4 tds4 hS4 hf4;walk_at "rd";refine iS hl5 (ve z0 z1) ?_;have hS6:aA K (upd H5 l (.lst (us.set (cellAt ns 1/2%(us.length:Int)).toNat u))) a0 (ns.map V.int):=bc (bz m5.s hl0) hS;have hd6:(upd H5 l (.lst (us.set (cellAt ns 1/2%(us.length:Int)).toNat u))) d=some (.dK (bp ls)):=by rw [aw (fun z=>by rw [z,hl5] at hd5;cases hd5)];exact hd5
       have td6:ba jd (upd H5 l (.lst (us.set (cellAt ns 1/2%(us.length:Int)).toNat u))) (us.set (cellAt ns 1/2%(us.length:Int)).toNat u):=(tds5.set hu ho).off hl5;have hf6:=hf5.off (o:=.lst (us.set (cellAt ns 1/2%(us.length:Int)).toNat u)) hl5 (fun t dt lf' df' e h=>by cases e;rw [← BW htf5 h];exact hne);have fin:=kx (P:=P) (w:=w) (base:=base) T (v4:=some u) q hS6 h63 ae (by rw [List.length_set];omega) (by rw [List.length_set];omega) td6 hd6 hls (by rw [List.length_set];exact hf6);walk_at "rd";exact fin
     · have fin := kx (P := P) (w := w) (base := base) T (v4 := none) q hS4 h63 hl4 u1 u450 tds4 hd4 hls hf4;walk_at "rd";exact fin
end
theorem gK {K : W.Frag} {x qual : Str} {st : Stmt} {f da : Addr} {n : Nat} {oc dc : Value} {od an dd : Option Addr} {osl dl : Array (Option Value)} {kV doc pm cdv ct : Value} (l : K.lookup f = some ⟨oc, od, .func (W.fnOf x qual (bW st) (bH st) (av st) (.ref da) kV doc pm an cdv ct), osl⟩)
   (d:K.lookup da=some ⟨dc,dd,.seq #[.none] n,dl⟩) (c:W.codeIn K cdv qual=true) (k:W.keepIn K (.ref f)=true):fm K x qual st f (W.fnOf x qual (bW st) (bH st) (av st) (.ref da) kV doc pm an cdv ct):=Ef l ⟨d,n,rfl⟩ c k
theorem AK {K : W.Frag} {x qual : Str} {st : Stmt} {f : Addr} {fd : FuncData} {ps : List Str} (F : fm K x qual st f fd)
   (h:∀ (da:Addr) (kV doc pm:Value) (an:Option Addr) (cdv ct:Value) (us:List Value),us.length=ps.length→∃ k:Option (Array Value)→Sem (List (Str×Value)),bindArgs (W.fnOf x qual (bW st) (bH st) (av st) (.ref da) kV doc pm an cdv ct) ⟨us,[]⟩=seqItems? (.ref da) >>= k∧k (some #[.none])=pure (ps.zip us)):Binds K fd ps []:=by
 obtain ⟨oc,od,da,kV,doc,pm,an,cdv,ct,osl,o,n,rfl,lk,hcd,ld,ed⟩:=F.ex;intro s us KX hl;rw [List.append_nil] at hl ⊢;obtain ⟨k,h1,h2⟩:=h da kV doc pm an cdv ct us hl;exact .of_defaults rfl (KX _ _ ld) ed h1 h2
section
variable {K:W.Frag} {h:Heap} {mg:Str→Option Value} {x qual:Str} {st:Stmt} {f C da:Addr} {n:Nat} {oc dc:Value} {od an dd:Option Addr} {osl dl:Array (Option Value)} {kV doc pm cdv ct:Value} {ps:List Str}
theorem tF (X:K.In h) (G:h.Ns mainGlobals mg) (a:W.nsIn K mainGlobals x=some (some (.ref f))) (l:K.lookup f=some ⟨oc,od,.func (W.fnOf x qual (bW st) (bH st) (av st) .none kV doc pm an cdv ct),osl⟩) (c:W.codeIn K cdv qual=true) (k:W.keepIn K (.ref f)=true) (b:∀ (kV doc pm:Value) (an:Option Addr) (cdv ct:Value) (us:List Value),us.length=ps.length→bindArgs (W.fnOf x qual (bW st) (bH st) (av st) .none kV doc pm an cdv ct) ⟨us,[]⟩=pure (ps.zip us)):∃ f fd,fL K x qual st f fd∧mg x=some (.ref f)∧Binds K fd ps []:=⟨_,_,iM l c k,W.mg_of X G a,(iM l c k).binds b⟩
theorem tM (a:W.findIn K (.ref C) x=some (some (.ref f))) (i:W.isFn K (.ref f)=true) (l:K.lookup f=some ⟨oc,od,.func (W.fnOf x qual (bW st) (bH st) (av st) .none kV doc pm an cdv ct),osl⟩) (c:W.codeIn K cdv qual=true) (k:W.keepIn K (.ref f)=true) (b:∀ (kV doc pm:Value) (an:Option Addr) (cdv ct:Value) (us:List Value),us.length=ps.length→bindArgs (W.fnOf x qual (bW st) (bH st) (av st) .none kV doc pm an cdv ct) ⟨us,[]⟩=pure (ps.zip us)):∃ f fd,fL K x qual st f fd∧vH K C x f∧Binds K fd ps []:=⟨_,_,iM l c k,⟨a,i,k⟩,(iM l c k).binds b⟩
theorem tI (m:W.makesIn K C=true) (kc:W.keepIn K (.ref C)=true) (a:W.findIn K (.ref C) "__init__" = some (some (.ref f))) (i:W.isFn K (.ref f)=true) (l:K.lookup f=some ⟨oc,od,.func (W.fnOf "__init__" qual (bW st) (bH st) (av st) .none kV doc pm an cdv ct),osl⟩) (c:W.codeIn K cdv qual=true) (k:W.keepIn K (.ref f)=true) (b:∀ (kV doc pm:Value) (an:Option Addr) (cdv ct:Value) (us:List Value),us.length=ps.length→bindArgs (W.fnOf "__init__" qual (bW st) (bH st) (av st) .none kV doc pm an cdv ct) ⟨us,[]⟩=pure (ps.zip us)):∃ f fd,fL K "__init__" qual st f fd∧Mk K C f∧Binds K fd ps []:=⟨_,_,iM l c k,⟨m,a,i,kc⟩,(iM l c k).binds b⟩
theorem Wg (m:W.makesIn K C=true) (kc:W.keepIn K (.ref C)=true) (a:W.findIn K (.ref C) "__init__" = some (some (.ref f))) (i:W.isFn K (.ref f)=true) (l:K.lookup f=some ⟨oc,od,.func (W.fnOf "__init__" qual (bW st) (bH st) (av st) (.ref da) kV doc pm an cdv ct),osl⟩) (d:K.lookup da=some ⟨dc,dd,.seq #[.none] n,dl⟩) (c:W.codeIn K cdv qual=true) (k:W.keepIn K (.ref f)=true) (b:∀ (da:Addr) (kV doc pm:Value) (an:Option Addr) (cdv ct:Value) (us:List Value),us.length=ps.length→∃ k:Option (Array Value)→Sem (List (Str×Value)),bindArgs (W.fnOf "__init__" qual (bW st) (bH st) (av st) (.ref da) kV doc pm an cdv ct) ⟨us,[]⟩=seqItems? (.ref da) >>= k∧k (some #[.none])=pure (ps.zip us)) (b2:∀ (da:Addr) (kV doc pm:Value) (an:Option Addr) (cdv ct:Value) (us:List Value),us.length+1=ps.length→∃ k:Option (Array Value)→Sem (List (Str×Value)),bindArgs (W.fnOf "__init__" qual (bW st) (bH st) (av st) (.ref da) kV doc pm an cdv ct) ⟨us,[]⟩=seqItems? (.ref da) >>= k∧k (some #[.none])=pure (ps.zip (us++[.none]))):∃ f fd,fm K "__init__" qual st f fd∧Mk K C f∧Binds K fd ps []∧Binds K fd ps [.none]:=⟨_,_,gK l d c k,⟨m,a,i,kc⟩,AK (gK l d c k) b,(gK l d c k).AH b2⟩
theorem Wi (X:K.In h) (G:h.Ns mainGlobals mg) (a:W.nsIn K mainGlobals x=some (some (.ref f))) (l:K.lookup f=some ⟨oc,od,.func (W.fnOf x qual (bW st) (bH st) (av st) (.ref da) kV doc pm an cdv ct),osl⟩) (d:K.lookup da=some ⟨dc,dd,.seq #[.none] n,dl⟩) (c:W.codeIn K cdv qual=true) (k:W.keepIn K (.ref f)=true) (b:∀ (da:Addr) (kV doc pm:Value) (an:Option Addr) (cdv ct:Value) (us:List Value),us.length=ps.length→∃ k:Option (Array Value)→Sem (List (Str×Value)),bindArgs (W.fnOf x qual (bW st) (bH st) (av st) (.ref da) kV doc pm an cdv ct) ⟨us,[]⟩=seqItems? (.ref da) >>= k∧k (some #[.none])=pure (ps.zip us)) (b2:∀ (da:Addr) (kV doc pm:Value) (an:Option Addr) (cdv ct:Value) (us:List Value),us.length+1=ps.length→∃ k:Option (Array Value)→Sem (List (Str×Value)),bindArgs (W.fnOf x qual (bW st) (bH st) (av st) (.ref da) kV doc pm an cdv ct) ⟨us,[]⟩=seqItems? (.ref da) >>= k∧k (some #[.none])=pure (ps.zip (us++[.none]))):∃ f fd,fm K x qual st f fd∧mg x=some (.ref f)∧Binds K fd ps []∧Binds K fd ps [.none]:=⟨_,_,gK l d c k,W.mg_of X G a,AK (gK l d c k) b,(gK l d c k).AH b2⟩
theorem tS {a:Addr} {xs:List V} {its:Array Value} {sl:Array (Option Value)} (hz:its.size≤sizeLine) (l:K.lookup a=some ⟨.type "tuple",od,.seq its n,sl⟩) (v:a_ xs its.toList):∀ H,aZ K H a xs:=UT l hz v
end
theorem Dm {α : Type} {P : List α → Prop} (f : ∀ x0, P [x0]) : ∀ us : List α, us.length = 1 → P us
 | [x0],_=>f x0
theorem V0 {α : Type} {P:List α→Prop} (f:∀ x0,P [x0]):∀ us:List α,us.length+1=2→P us:=fun us h=>Dm f us (Nat.succ.inj h)
theorem ln2 {α : Type} {P : List α → Prop} (f : ∀ x0 x1, P [x0, x1]) : ∀ us : List α, us.length = 2 → P us
 | [x0,x1],_=>f x0 x1
theorem Wh {α : Type} {P:List α→Prop} (f:∀ x0 x1,P [x0,x1]):∀ us:List α,us.length+1=3→P us:=fun us h=>ln2 f us (Nat.succ.inj h)
theorem Fn {α : Type} {P : List α → Prop} (f : ∀ x0 x1 x2, P [x0, x1, x2]) : ∀ us : List α, us.length = 3 → P us
 | [x0,x1,x2],_=>f x0 x1 x2
theorem Ff {α : Type} {P : List α → Prop} (f : ∀ x0 x1 x2 x3, P [x0, x1, x2, x3]) : ∀ us : List α, us.length = 4 → P us
 | [x0,x1,x2,x3],_=>f x0 x1 x2 x3
theorem tL {K:W.Frag} {h:Heap} {mg:Str→Option Value} {f fa:Addr} {oc:Value} {od an:Option Addr} {osl:Array (Option Value)} {kV doc pm cdv ct:Value} (X:K.In h) (G:h.Ns mainGlobals mg) (e:mg "law" = some (.ref fa)) (a:W.nsIn K mainGlobals "law" = some (some (.ref f))) (l:K.lookup f=some ⟨oc,od,.func (W.fnOf "law" "law" (bW jg) (bH jg) (av jg) .none kV doc pm an cdv ct),osl⟩) (c:W.codeIn K cdv "law" = true) (k:W.keepIn K (.ref f)=true):∃ fd,fL K "law" "law" jg fa fd∧∀ (s:Shared) (v:Value),BindsTo s fd ⟨[v],[]⟩ [("_law_script",v)]:=by
 cases e.symm.trans (W.mg_of X G a)
 exact ⟨_,iM l c k,fun s v=>.of_eq rfl⟩
theorem walk {l : W.OpenLaw} {q : Program} {loose : List Str} {XP : (Str → Option Value) → Heap → Prop} {YP : World → Heap → Prop} {d : DefRec} {K : Params → W.Frag} (hn : l.most = some 63) (hdf : d.params.defaults = [])
   (hY:∀ (w:World) (h:Heap),YP w h→(K w.params).In h)
   (F : ∀ (w : World) (mg : Str → Option Value) (fa : Addr) (h : Heap), (K w.params).In h → h.Ns mainGlobals mg → mg d.name = some (.ref fa) →
     ∃ fd:FuncData,(∀ (s:Shared) (u:Value),BindsTo s fd ⟨[u],[]⟩ [("_law_script",u)])∧∀ base:Heap,(K w.params).In base→base.Ns mainGlobals mg→eg l.prog w (K w.params) mg base be 10 fa fd ["_law_script"] (yF (K w.params))) :
   W.WalkO q loose XP YP l.row.toRowW d [] (fun f vs=>PySem.call f vs) :=
 L2.D5 (n:=63) (k:=10) (x:="_law_script") (CX:=fun _=>be) (sp:=fun w=>yF (K w.params)) hn (by decide) hdf ⟨rfl,by decide,by decide,rfl⟩ hY F (fun _ _ a ns hl _ hS=>⟨a,ns,rfl,hS,hl,fun _=>rfl⟩) fun _ _ _ _ _ z=>z
end FB
namespace PySem.W.Fast
def tw17134169427164160019:=0
def tw15962526643355599179:=0
def tw6512823629452435050:=0
def tw2360511751890086794:=0
def tw15346995994703385213:=0
def tw1258444716416418695:=0
def tw13485023110744055032:=0
def tw8278186744974626433:=0
def tw16347255113430938064:=0
def tw15830564057379742435:=0
def tw9299979987894949591:=0
def tw3764825458948996510:=0
def tw15567816118889173580:=0
def tw2927912554992737783:=0
def tw17456220874008909237:=0
def tw16987600706479818344:=0
def tw14404797365129351103:=0
def tw10639561179113876399:=0
def tw17454137457766509187:=0
def tw13465228070590237868:=0
def tw2190721564080150685:=0
def tw3047205148953515771:=0
def tw12247415612364991686:=0
def tw6356354137464941095:=0
def tw15740944966583784222:=0
def tw8229454886080366038:=0
def tw7216821595270489568:=0
def tw6636492475844849014:=0
def tw9306691617417408043:=0
def tw16893084091459385232:=0
def tw660944399722458982:=0
def tw15350961012559188081:=0
def tw16305742906703052373:=0
def tw15598396763246453982:=0
def tw14060209638874899676:=0
def tw8599682183081440867:=0
def tw5677335960714249277:=0
def tw7372040511211210918:=0
def tw8847696310271444739:=0
def tw16900964122918341470:=0
def tw8627705497408776149:=0
def tw1755230628232350977:=0
def tw11016618577448628593:=0
def tw10775582358072436614:=0
def tw6446166127846733220:=0
def tw433135442427331003:=0
def tw5504110516886574852:=0
def tw564926197314417452:=0
def tw12489112525333953155:=0
def tw14661191711668251483:=0
def tw14868587827405331755:=0
def tw1864546855675603383:=0
def tw7475049949141758155:=0
def tw7157098335969573982:=0
def tw10398979013138270062:=0
def tw12790981264832208587:=0
def tw16802372971572839398:=0
def tw136163762964551633:=0
def tw13076405194843382805:=0
def tw17983998350841038614:=0
def tw6377106344749854674:=0
def tw3649056325656813413:=0
def tw13038689887032640982:=0
def tw1952182919138883547:=0
def tw1321671493271498023:=0
def tw16507098233508130976:=0
def tw13838660307803053221:=0
def tw5048191334300893842:=0
def tw4692006264209424089:=0
def tw7749240328079194670:=0
def tw11794196914053153768:=0
def tw16959203997087142434:=0
def tw7815711916578353612:=0
def tw18081429788036864897:=0
def tw6307379036687840128:=0
def tw2430901645245622845:=0
def tw1575489323005349624:=0
def tw16143922352240132964:=0
def tw4741708269925451184:=0
def tw10957833063211178938:=0
def tw3966558768335616131:=0
def tw2911319538035562008:=0
def tw10676730132592839114:=0
def tw2507831052410075969:=0
def tw17537115596871576445:=0
def tw1822601898549286433:=0
def tw6999200678669505050:=0
def tw811257225515084970:=0
def tw9083062353907758167:=0
def tw9077264364025726889:=0
def tw10007986030103978602:=0
def tw664848485701447431:=0
def tw9044930009624663584:=0
def tw15380763854493215572:=0
def tw16591280541127971541:=0
def tw2072730782747229269:=0
def tw16270481972166348008:=0
def tw1588413331770638259:=0
def tw1354975068359902404:=0
def tw11480123099047441824:=0
def tw14025828620008254347:=0
def tw14900177354284990200:=0
def tw5943693033738823067:=0
def tw9741821368837662090:=0
def tw12648843761341749366:=0
def tw6135785799441490058:=0
def tw11785902195926032948:=0
def tw14534733606183237628:=0
def tw9369117360454948725:=0
def tw10121378162774436861:=0
def tw17323539761465691829:=0
def tw12339158758658605320:=0
def tw7266653088210065295:=0
def tw5215151127204816646:=0
def tw1798877618311984819:=0
def tw13906071794218806434:=0
def tw5944749560567870364:=0
def tw15595305727801221856:=0
def tw3726711375859247713:=0
def tw16845881361765978793:=0
def tw6789389910696475560:=0
def tw6763398326766500142:=0
def tw1139690647747368064:=0
def tw9273735355171548556:=0
def tw13584152661459668057:=0
def tw6592365921109752454:=0
def tw16868598508024157241:=0
def tw10459422303916568095:=0
def tw5571715116009272841:=0
def tw6615481517947098730:=0
def tw10283934877676046692:=0
def tw8533430415867157900:=0
def tw8049357987358971043:=0
def tw9412766537080962691:=0
def tw17961186600352188789:=0
def tw12202614338634459791:=0
def tw11227549393574695780:=0
def tw8777011061477889053:=0
def tw10323686298997789700:=0
def tw15894226560518670485:=0
def tw14206784070779426682:=0
def tw18158819936475995390:=0
def tw375946393717642846:=0
def tw17151535731646052481:=0
def tw15851512681958282455:=0
def tw12730417861689466124:=0
def tw4415187934276535676:=0
def tw13048777294974463711:=0
def tw8776659691870028279:=0
def tw4092652528345108423:=0
def tw15130954612420672833:=0
def tw12403802948386717054:=0
def tw2661382640269629593:=0
def tw5111060696810086957:=0
def tw6760376011550234839:=0
def tw7468180075694953613:=0
def tw17759048473384404053:=0
def tw11770473638215989595:=0
def tw9328697432006882078:=0
def tw2379031499572432560:=0
def tw1869994910430005194:=0
def tw17516033045805807742:=0
def tw1148443246327425777:=0
def tw15471438094873126357:=0
def tw1450469202567146398:=0
def tw6472875438277309805:=0
def tw1385136560675573001:=0
def tw12985052119344425337:=0
def tw915209890631272702:=0
def tw16605840104671730557:=0
def tw327117644715622700:=0
def tw1256755963216599737:=0
def tw18148798857269000823:=0
def tw703123595598354655:=0
def tw10233069436880049459:=0
def tw770100860600886569:=0
def tw3573631336149469383:=0
def tw7816154845228739084:=0
def tw3273135718097003143:=0
def tw18146433993661548252:=0
def tw9705312630677706270:=0
def tw6700499567808300596:=0
def tw6992190303358578480:=0
def tw16381365861513771495:=0
def tw7972710638081357795:=0
def tw13751069487443181802:=0
def tw12232492990056454992:=0
def tw13012539191739408207:=0
def tw906666516413163568:=0
def tw11210480349172201212:=0
def tw10481429949199150890:=0
def tw4132692681445612991:=0
def tw5077920866051505779:=0
def tw4937758537094077957:=0
def tw4517778127049755106:=0
def tw16543374272339320:=0
def tw15406829333566454887:=0
def tw15564991523709428830:=0
def tw17677335673200861396:=0
def tw18360347662151445272:=0
def tw3114541670501627713:=0
def tw7979927442879674409:=0
def tw3015532637066123823:=0
def tw12344884665356208025:=0
def tw2385658579877945476:=0
def tw11106044344784792259:=0
def tw13312255617668076906:=0
def tw7767552542675123293:=0
def tw2593071113745117861:=0
def tw10115902582232400011:=0
def tw2920300556047158999:=0
def tw15256607870050223462:=0
def tw14665580161282776958:=0
def tw9487524587533298814:=0
def tw5522372315182084836:=0
def tw16826641035727553080:=0
def tw1869931319774547832:=0
def tw5897868977111273566:=0
def tw219316722931679778:=0
def tw7037357111557986440:=0
def tw3022404330009595859:=0
def tw10995540606762360373:=0
def tw15380051625004857687:=0
def tw10740529393640718303:=0
def tw8278502987008207935:=0
def tw9202751595129007504:=0
def tw265958604464390191:=0
def tw16791317153263315664:=0
def tw7829746134699999604:=0
def tw2007859976234843119:=0
def tw16572971466883506817:=0
def tw4074909368221736214:=0
def tw7427619168130234893:=0
def tw9563974129836861859:=0
def tw18121960605825887850:=0
def tw4241644562795655932:=0
def tw8076557260064294175:=0
def tw14623193730030107285:=0
def tw11315116682335211626:=0
def tw5162992833751565404:=0
def tw9282046171213538242:=0
def tw10022385445328810579:=0
def tw3425939421189029523:=0
def tw4941460792453728462:=0
def tw10205440023224482647:=0
def tw4875118435441109676:=0
def tw11528973317236740645:=0
def tw5739753739375188304:=0
def tw17065371452383001447:=0
def tw15690422466722120783:=0
def tw14722682966982673642:=0
def tw15549552611689484428:=0
def tw4735235644786395855:=0
def tw6600003997492284303:=0
def tw7265299842216502288:=0
def tw10398301348187635805:=0
def tw2287715753401610692:=0
def tw7400332031137474300:=0
def tw9110878014405207590:=0
def tw4076577516600387950:=0
def tw12525826293870555815:=0
def tw10870373133110319518:=0
def tw13511258510723536589:=0
def tw16158889487242710031:=0
def tw17678240849018523642:=0
def tw14754037054163996728:=0
def tw4664672636541830943:=0
def tw10230003259767788059:=0
def tw3093161094171170797:=0
def tw11048467103887761664:=0
def tw15025381394986678670:=0
def tw10789451054593715189:=0
def tw726423245941526486:=0
def tw5778139762774094872:=0
def tw10705501434091314967:=0
def tw12728567183274110423:=0
def tw8544945379052319238:=0
def tw12811170695244580927:=0
def tw15460840672898622009:=0
def tw13617202876689716170:=0
def tw7681985808829415084:=0
def tw7734326710059809881:=0
def tw9431473634952063031:=0
def tw5497351845218606658:=0
def tw9075371279149659284:=0
def tw1974022158370118712:=0
def tw2203728120705121147:=0
def tw3131771457269987819:=0
def tw1862331337767618670:=0
def tw3077845509378781146:=0
def tw13306949211614853186:=0
def tw15699598434780418048:=0
def tw13165185726722877461:=0
def tw3203366189609122320:=0
def tw17494056590042342955:=0
def tw4720969287790170098:=0
def tw18346644220232265881:=0
def tw3794030116513766431:=0
def tw5477871299615937770:=0
def tw15757624702075947976:=0
def tw10376451461596237136:=0
def tw16699813313131346386:=0
def tw6493704882645809007:=0
def tw12871936431862431571:=0
def tw10924853238658887073:=0
def tw13020504604475409585:=0
def tw1364742785634064364:=0
def tw4120723520234591990:=0
def tw7906620710157756736:=0
def tw16722067164294949898:=0
def tw10273205404804930547:=0
def tw7579655380188558262:=0
def tw8181960797620344126:=0
def tw17631722806215423929:=0
def tw15975137787114781973:=0
def tw10301807643242193220:=0
def tw15921522008950611825:=0
def tw1495065225802724726:=0
def tw462793319354540248:=0
def tw5383367371792376126:=0
def tw5009096640485286902:=0
def tw2270166611014045683:=0
def tw16801547902649155719:=0
def tw806660024124401275:=0
def tw16661192424149619454:=0
def tw18253865116410494582:=0
def tw16753809092803686854:=0
def tw13048992193245119374:=0
def tw1442447623761512193:=0
def tw2514010332285399277:=0
def tw6986442086536905022:=0
def tw12369135263980178139:=0
def tw6391264664266536764:=0
def tw15021823392376062104:=0
def tw14973626468508250003:=0
def tw8322447759575189963:=0
def tw6508818037531588337:=0
def tw9024853238472445393:=0
def tw6021283630401194193:=0
def tw9597979612973435472:=0
def tw2049954153265902718:=0
def tw3249825107356399994:=0
def tw11067762019823294226:=0
def tw16198585327906507006:=0
def tw12110367608720547943:=0
def tw2394788169406909874:=0
def tw12257675551040275692:=0
def tw11245698980075473779:=0
def tw4848695756377978157:=0
def tw8674383754669308077:=0
def tw1020331226049258273:=0
def tw9784279558426722159:=0
def tw5524364791194440975:=0
def tw1761882131810159729:=0
def tw3914602654014452416:=0
def tw2340873084431987308:=0
def tw16317047080018605198:=0
def tw121665710688955761:=0
def tw13444705301890573125:=0
def tw10762562636961330521:=0
def tw1162441247928081653:=0
def tw9698404628612984938:=0
def tw5614450447792321715:=0
def tw8179995275295037681:=0
def tw12360637977204753038:=0
def tw9110290163417176583:=0
def tw10162815773056587283:=0
def tw897468706968889842:=0
def tw16548507167777345464:=0
def tw1503240229356043915:=0
def tw6709444139351495566:=0
def tw15445843217917416693:=0
def tw4594193845973985120:=0
def tw11168793325616838365:=0
def tw4574273111073663176:=0
def tw3328378323819463956:=0
def tw9251764744534064867:=0
def tw7445142005809573731:=0
def tw5750362345013205379:=0
def tw4199919424837679051:=0
def tw11188149734120662251:=0
def tw350171954975774830:=0
def tw3156805378655138647:=0
def tw1185510950993214036:=0
def tw5014541577806728702:=0
def tw14369605687694526790:=0
def tw5906325248934374405:=0
def tw17029634264615840818:=0
def tw16694026532951957960:=0
def tw16384350936306491449:=0
def tw6284764089463537155:=0
def tw12315194483713997593:=0
def tw10347845190422195742:=0
def tw3776129411922328072:=0
def tw10069690458150800165:=0
def tw3656826498134396279:=0
def tw14247754611145348518:=0
def tw13935190272476867727:=0
def tw8952954512063124092:=0
def tw17601186193129562483:=0
def tw16313966491129314671:=0
def tw6457202799606593011:=0
def tw546689886473450211:=0
def tw4134061166370582529:=0
def tw7392067612759943469:=0
def tw11622766322229769127:=0
def tw12206444262276696961:=0
def tw651131951555178659:=0
def tw3659693679940269477:=0
def tw15207145785101867398:=0
def tw16947627070959306227:=0
def tw11893695871456347463:=0
def tw16214070208046885684:=0
def tw6543815961719774725:=0
def tw7141721009593894766:=0
def tw18112473838041809427:=0
def tw15634230251454781174:=0
def tw6777523681422291695:=0
def tw901192063602670623:=0
def tw7746918886739892571:=0
def tw3841340433696131277:=0
def tw2233973984821749797:=0
def tw10814583466831465634:=0
def tw488726728927433363:=0
def tw8461685695534499359:=0
def tw2742792203371854056:=0
def tw6244648203189270656:=0
def tw14035224070594856458:=0
def tw12763818287934421174:=0
def tw3703512859352318811:=0
def tw11374959684747409998:=0
def tw5549239323418687974:=0
def tw12943461424291013157:=0
def tw15945398883107664905:=0
def tw11357088908516796481:=0
def tw12225734717628914520:=0
def tw14276346964528947919:=0
def tw586690215115730297:=0
def tw3311272197144698370:=0
def tw7717279452384617512:=0
def tw13410485306531433601:=0
def tw4610898604552877375:=0
def tw6723237835693256320:=0
def tw4337793894342446802:=0
def tw1183916220774474416:=0
def tw16280107714628302342:=0
def tw9670445438693523371:=0
def tw11190968712734880426:=0
def tw10890584476476370390:=0
def tw3722081431252430604:=0
def tw649265494529262399:=0
def tw9926672127758059872:=0
def tw15002958683301687056:=0
def tw11992627556745752881:=0
def tw9273230494694093696:=0
def tw1994641788588178036:=0
def tw7943160029717169706:=0
def tw8133769188687892685:=0
def tw3446839677333366905:=0
def tw13354932070037949292:=0
def tw6364584382266938746:=0
def tw7282644083227427846:=0
def tw14622839692654528326:=0
def tw15771207051900253435:=0
def tw12813276433743839557:=0
def tw10553910478940644063:=0
def tw6665717826390967195:=0
def tw15476653332134633613:=0
def tw13773158212494852115:=0
def tw16821976926491672589:=0
def tw17053084721193019913:=0
def tw15294078393522293078:=0
def tw17294880798500627767:=0
def tw7988304931612471610:=0
def tw7270325321628010092:=0
def tw3301252455137299727:=0
def tw4801772477909822393:=0
def tw8753267347622542252:=0
def tw2557419145511479720:=0
def tw3533047996336491621:=0
def tw429863896572718295:=0
def tw4497008421104821234:=0
def tw18069449668470228724:=0
def tw16251683873232366838:=0
def tw13449587302253846882:=0
def tw507312422379746358:=0
def tw5766459776245768657:=0
def tw3257725811946062043:=0
def tw16295133666519420845:=0
def tw5866825826803094609:=0
def tw11562000753204575914:=0
def tw6590867195832546312:=0
def tw7202087012128471629:=0
def tw11494521145727915412:=0
def tw13247329195346038211:=0
def tw13007377354327148076:=0
def tw4963256645252749715:=0
def tw3061164397495961280:=0
def tw14000205852982296381:=0
def tw4937918251544310081:=0
def tw12625743120432746505:=0
def tw2609151595184412763:=0
def tw8965419292560588146:=0
def tw15580809560159287644:=0
def tw13882990792785483726:=0
def tw10305626564836350284:=0
def tw16820146647668021061:=0
def tw9953105941293159398:=0
def tw4861730218707367387:=0
def tw15886390849886324019:=0
def tw940408654177010687:=0
def tw10220090185797933305:=0
def tw9240472345579358609:=0
def tw290812845316080457:=0
def tw9767965215092583784:=0
def tw9142844949848112116:=0
def tw10600957085988321513:=0
def tw4962713066358552280:=0
def tw3557060266239183680:=0
def tw4319191798122939838:=0
def tw5053942302019757944:=0
def tw15608936262935157530:=0
def tw14581737723548549394:=0
def tw14037999360538148294:=0
def tw14536193293361518949:=0
def tw6140034331587012741:=0
def tw1517796951401507170:=0
def tw16412838931054153298:=0
def tw14019302426858883196:=0
def tw14883648167314448083:=0
def tw11735516776098399044:=0
def tw6783148749202567257:=0
def tw3090804900524300671:=0
def tw3643034965076210448:=0
def tw6890489800800194895:=0
def tw10840064070478754804:=0
def tw6914558236677346592:=0
def tw3737557835564791925:=0
def tw10693488692595465969:=0
def tw11230754515549905901:=0
def tw17887787481220362609:=0
def tw1933165788550607507:=0
def tw1843085390572417564:=0
def tw5058458953146545219:=0
def tw6472601161448171654:=0
def tw4785978200176891802:=0
def tw8932207217997215521:=0
def tw15186005955760997305:=0
def tw16536820541316412723:=0
def tw3689473478589217163:=0
def tw3651137003346723990:=0
def tw1734780150847792121:=0
def tw8356379648728616939:=0
def tw11773452194556987107:=0
def tw7759600236265344722:=0
def tw12343932140847037733:=0
def tw17123003430332760305:=0
def tw4781485981971635231:=0
def tw7630480501291186547:=0
def tw5205786989245876864:=0
def tw11454441111098788330:=0
def tw12000676943745584869:=0
def tw16921261013520783632:=0
def tw10482275797225143390:=0
def tw15813598493429230811:=0
def tw13303127104506699852:=0
def tw7898538110218685200:=0
def tw17684689884397020429:=0
def tw1113042759164798328:=0
def tw5541412188029868256:=0
def tw7038624559476172546:=0
def tw15153940011115350195:=0
def tw15260644533395711137:=0
def tw6889307559074619874:=0
def tw13990865699619154344:=0
def tw12253914882427035684:=0
def tw10696356353069798178:=0
def tw5829587297654836967:=0
def tw6041398503424158046:=0
def tw5824503909907682691:=0
def tw1709434436286428803:=0
def tw17059141792113630714:=0
def tw4641477856455690841:=0
def tw15768596669258453309:=0
def tw4385186604078391246:=0
def tw12864077745630061369:=0
def tw11064637645130580797:=0
def tw13639864457823425489:=0
def tw2827770505104326769:=0
def tw17950622996673799660:=0
def tw12891377582984449956:=0
def tw15815300486994923126:=0
def tw611346343975307149:=0
def tw17944092017798090985:=0
def tw13988364793727585215:=0
def tw15683579728656480031:=0
def tw16965184479424752516:=0
def tw2800620360689443761:=0
def tw5239474633111171365:=0
def tw3651142313030808146:=0
def tw8073069260206285252:=0
def tw1764815262624558722:=0
def tw6624330465548080183:=0
def tw7852553556693167098:=0
def tw13702395398740158522:=0
def tw8176760966988177282:=0
def tw2856123463793899965:=0
def tw16725018641598626112:=0
def tw13989771330834773957:=0
def tw11677333455224914321:=0
def tw7657873639947895946:=0
def tw15271209786089627248:=0
def tw2339593311990743107:=0
def tw17966576194190931554:=0
def tw15559844894113309838:=0
def tw5485678516046993507:=0
def tw14230540871217234872:=0
def tw10587451280582631629:=0
def tw3716689327296274731:=0
def tw6313427240239858686:=0
def tw13281541441413648961:=0
def tw9811728871683047142:=0
def tw3293861508119802837:=0
def tw4872371507835209272:=0
def tw533751283391249314:=0
def tw17058439183520242477:=0
def tw10138495656004699298:=0
def tw6385926348158881618:=0
def tw1213900831333954871:=0
def tw12622665917301632462:=0
def tw11855104243101867271:=0
def tw15779510170376220419:=0
def tw16917580549591967023:=0
def tw11812901627685391941:=0
def tw3782697777196793887:=0
def tw15612113726600367598:=0
def tw3734657190451578087:=0
def tw8595808236461128180:=0
def tw704521551581010891:=0
def tw13450125854974997886:=0
def tw2999111539293851777:=0
def tw8858952150906593473:=0
def tw9188193518637776931:=0
def tw17778333726973146747:=0
def tw14664860265089938381:=0
def tw12933440359231842081:=0
def tw5593436963548738268:=0
def tw6221413296562825823:=0
def tw10358580315064973494:=0
def tw16176117832798364662:=0
def tw15620031543314563164:=0
def tw12389819594060659591:=0
def tw8914362346913988608:=0
def tw2211740792397083031:=0
def tw5848236200026016169:=0
def tw12422243317025582172:=0
def tw3839444955098413492:=0
def tw10690580390254803833:=0
def tw2508893829108973288:=0
def tw1119222086383432340:=0
def tw9520254695264377605:=0
def tw2034944400216842705:=0
def tw14174241428148829502:=0
def tw5962176352541733358:=0
def tw16231889630451789822:=0
def tw7981027928292594353:=0
def tw10582311210775343882:=0
def tw7687338520352099419:=0
def tw13621833889417665999:=0
def tw14132426668064395404:=0
def tw3093439195638409046:=0
def tw6251932096328153172:=0
def tw9239603726531286870:=0
def tw7566613968843056085:=0
def tw6921504221152389351:=0
def tw18292416059884258289:=0
def tw8049893598300118914:=0
def tw3694770376389160564:=0
def tw5317004062751641603:=0
def tw16867037060831084926:=0
def tw18271972385312564940:=0
def tw10584381496909713710:=0
def tw11265306002917879356:=0
def tw12004206147179907728:=0
def tw17763607403602164281:=0
def tw15799023162961828147:=0
def tw7642752791944579113:=0
def tw5802584506723306708:=0
def tw14036542857735269876:=0
def tw16020969582152927860:=0
def tw1108809609090266593:=0
def tw13804764165977942246:=0
def tw10200864855346139557:=0
def tw7924364372928373869:=0
def tw14703760564770554490:=0
def tw17180990062860760895:=0
def tw6742833798943851829:=0
def tw9743848680194598275:=0
def tw17319151308803197808:=0
def tw7871967259637912148:=0
def tw16698614352254153912:=0
def tw17391559763150219037:=0
def tw8787875981940333478:=0
def tw15203123960465656768:=0
def tw6218467075818166561:=0
def tw388863929257647173:=0
def tw16704340100555554272:=0
def tw17380197895142291839:=0
def tw17312759625701495449:=0
def tw12875912022392536476:=0
def tw3659904357279170927:=0
def tw573014126058958647:=0
def tw16367315562009705901:=0
def tw18253696249488982632:=0
def tw64435283782018092:=0
def tw14726199281396542376:=0
def tw13464815118817404051:=0
def tw4671323660674747768:=0
def tw297333775419831181:=0
def tw11428183728622763262:=0
def tw12784163713450161452:=0
def tw8153371267031558576:=0
def tw2541237947811119959:=0
def tw17475662410261092975:=0
def tw14227463553168241280:=0
def tw7032126480924962626:=0
def tw8496421126206434455:=0
def tw12396552259044359568:=0
def tw4395118443533908369:=0
def tw9841078626079187146:=0
def tw9743282561380991635:=0
def tw15162654345280735883:=0
def tw8530546160606543630:=0
def tw1361455134218181459:=0
def tw7462845857474959592:=0
def tw7720434627057252433:=0
def tw6355358486480708941:=0
def tw2862602520754889874:=0
def tw3585742449075292967:=0
def tw295457856496368636:=0
def tw163488105818591090:=0
def tw17936985929198923376:=0
def tw4239027118331417721:=0
def tw6176918002760996034:=0
def tw7144327753272202361:=0
def tw14503286432230118270:=0
def tw7463504960950726904:=0
def tw3332538658238685509:=0
def tw985926506526888196:=0
def tw17917713715680047202:=0
def tw13370997420720808975:=0
def tw14514914092521636690:=0
def tw13409804476512370956:=0
def tw12107345069286491225:=0
def tw4826242586522162535:=0
def tw2970092208847513796:=0
def tw3846112346149300350:=0
def tw10032692455796564691:=0
def tw5076852408557056704:=0
def tw6658756235007449133:=0
def tw16946333874070244512:=0
def tw15599768204927326372:=0
def tw10484161981351630496:=0
def tw16328202397183462680:=0
def tw5744607517030613905:=0
def tw13905745037405369953:=0
def tw306178046286550188:=0
def tw10119060624830416020:=0
def tw16020973417569561218:=0
def tw9500093269467890708:=0
def tw18399723950197948123:=0
def tw15320925918917101381:=0
def tw16913664295889949774:=0
def tw9162412597095501492:=0
def tw11062795639617276946:=0
def tw17865455853952183137:=0
def tw17906201322299292830:=0
def tw17471840520247240227:=0
def tw2992315636599717722:=0
def tw17223937469380976903:=0
def tw3979426813706116318:=0
def tw2100762585886556584:=0
def tw2314312786548981627:=0
def tw16280294607746152648:=0
def tw14628268633907873358:=0
def tw15526674763164935317:=0
def tw2946995249372438602:=0
def tw1602933495147438644:=0
def tw12627341037196076488:=0
def tw14160175787173425634:=0
def tw10522028915696960570:=0
def tw9462587797590117725:=0
def tw15499692311656553113:=0
def tw6411665459310313338:=0
def tw5770212513010018099:=0
def tw4474211296553719315:=0
def tw17269056844833215283:=0
def tw1036963325272915128:=0
def tw13068072366626392737:=0
def tw7332989853418288544:=0
def tw1120974767562720133:=0
def tw185529061094595200:=0
def tw16622583974122960424:=0
def tw1569185573994029662:=0
def tw12300303716697177983:=0
def tw13234169268599522744:=0
def tw15466194944377575018:=0
def tw16196180743505602959:=0
def tw10342385241551351670:=0
def tw11833918061890860902:=0
def tw9479789152064643420:=0
def tw5222519623629119295:=0
def tw7584402717014387168:=0
def tw2216399830603270622:=0
def tw3562367049413449787:=0
def tw15379348633027946134:=0
def tw13309862034954905417:=0
def tw552034595283854908:=0
def tw6732912117225834914:=0
def tw9987975255332030991:=0
def tw11203682860243591679:=0
def tw8210688331154106628:=0
def tw10588714109303407930:=0
def tw12105672725040732222:=0
def tw3498199025339755635:=0
def tw13531669933449696816:=0
def tw2846712650223943870:=0
def tw7044138764535743953:=0
def tw7196790860673481182:=0
def tw127904333510566973:=0
def tw4911350057523059672:=0
def tw14530626693561784458:=0
def tw3857015875809341078:=0
def tw17422926401543243807:=0
def tw8266984077154032005:=0
def tw9389983048091154315:=0
def tw78192089622629870:=0
def tw6777428020605256912:=0
def tw6585768206389699259:=0
def tw5049173342734705317:=0
def tw16474623378617653473:=0
def tw1629114777873998819:=0
def tw10572044809503568137:=0
def tw1927607948580917977:=0
def tw2414110060685056971:=0
def tw4050875351466191820:=0
def tw6695009500464918142:=0
def tw5519808254465927309:=0
def tw589055015398403815:=0
def tw4895156105388159528:=0
def tw539178998964110321:=0
def tw15833343141012199205:=0
def tw15575606812641153497:=0
def tw11913326334894212684:=0
def tw8997907830004053840:=0
def tw5222709589607667772:=0
def tw1291741830104812462:=0
def tw12903261694246877940:=0
def tw12425367780966192439:=0
def tw15047368143910484007:=0
def tw1575445908516167782:=0
def tw17785159828872911849:=0
def tw3553296467114992867:=0
def tw16786140723016958168:=0
def tw7036985932927291356:=0
def tw16525468452190927540:=0
def tw15453673586085957524:=0
def tw3068535567475956396:=0
def tw13936697723914061854:=0
def tw824234652448150163:=0
def tw910911014743588341:=0
def tw1232604343442416481:=0
def tw10080489155206181384:=0
def tw3995991443032441871:=0
def tw3509772019170219454:=0
def tw9669002621145480545:=0
def tw6690523135818152693:=0
def tw1861792916721026624:=0
def tw12158138174570763767:=0
def tw6350194760501959689:=0
def tw15031267399693893642:=0
def tw624530396270695327:=0
def tw13247627558565561182:=0
def tw334482242127468071:=0
def tw1874850117108642375:=0
def tw4293153065367246291:=0
def tw17540552843448844911:=0
def tw6339262329906149798:=0
def tw9276805080417508810:=0
def tw7175136135726225173:=0
def tw10643678666418571264:=0
def tw3952179209735338096:=0
def tw7178679900205261990:=0
def tw3831565442525889815:=0
def tw9700497218765222473:=0
def tw14987145250166208581:=0
def tw2072992497786418223:=0
def tw13223522325092600994:=0
def tw12982073482817376417:=0
def tw6191303185198265723:=0
def tw962656492650629201:=0
def tw392951503662527107:=0
def tw8806914587669986767:=0
def tw17592717164205942352:=0
def tw17598293309265008133:=0
def tw644734157678784008:=0
def tw13283643313522162749:=0
def tw1713233800105974822:=0
def tw2651822533454010256:=0
def tw16562832699721772681:=0
def tw16275283564871888288:=0
def tw8305790550355482433:=0
def tw5475028930003414995:=0
def tw7087597329613625595:=0
def tw6363594014775571282:=0
def tw10118704743310955915:=0
def tw13651723406438875508:=0
def tw7283903498672305226:=0
def tw4170215026781157705:=0
def tw5253750172345114127:=0
def tw18061184700172206636:=0
def tw5509647987677091750:=0
def tw12639534196968671394:=0
def tw16674948299153867470:=0
def tw11630015031855437265:=0
def tw15909551597095197622:=0
def tw6021772265469459189:=0
def tw8690569648103355548:=0
def tw6824357742567033752:=0
def tw4148266325810778804:=0
def tw15920154921735576191:=0
def tw1612310891334299658:=0
def tw11067034868569588181:=0
def tw15541421849739051236:=0
def tw8487640531613768787:=0
def tw1030169849834887990:=0
def tw558047476119554719:=0
def tw7844615304188904461:=0
def tw16959816158347273139:=0
def tw16410407069007998865:=0
def tw3081417029322021002:=0
def tw10803303541230889924:=0
def tw2455964154679438272:=0
def tw4946965591341196357:=0
def tw7416375580141988357:=0
def tw13639873500544928545:=0
def tw14684716101748208707:=0
def tw1738468214541851973:=0
def tw10081252677799192954:=0
def tw13023942132371746831:=0
def tw2630814964755373898:=0
def tw17494403807977867510:=0
def tw7431418897829736434:=0
def tw14023417169255456721:=0
def tw10873628245140699615:=0
def tw1096265358288249496:=0
def tw6439528774262180699:=0
def tw2467574467567658794:=0
def tw13517767942184710735:=0
def tw18080917552374519057:=0
def tw7669041586547231470:=0
def tw9864420094982236847:=0
def tw3122854464361154919:=0
def tw4293904221137663522:=0
def tw1866978184191583096:=0
def tw13100248178094347593:=0
def tw8924459376595703919:=0
def tw885971960239861206:=0
def tw10340924698383475384:=0
def tw2478517226605576537:=0
def tw14104425609024265670:=0
def tw8996812052252978803:=0
def tw18221287141441355672:=0
def tw10289023123255222212:=0
def tw3431916611724459275:=0
def tw7428683768303476555:=0
def tw18059470632466413301:=0
def tw7945442206804288097:=0
def tw5295421569269363529:=0
def tw17909182186478024869:=0
def tw13510091498477432233:=0
def tw5893110589073386446:=0
def tw13088533668303404916:=0
def tw4708057844957658272:=0
def tw10295292552284394335:=0
def tw17695011140505829219:=0
def tw4094441871817713792:=0
def tw11599157342328057912:=0
def tw11861824191843632746:=0
def tw6541796527407728218:=0
def tw18299225520661902092:=0
def tw15025057829741203615:=0
def tw18261773031601752942:=0
def tw5015255752438893269:=0
end PySem.W.Fast
open PySem PySem.W PyProof.Rows
local macro_rules | `(tactic| walk_at "k") => `(tactic| first | k_is | kit_is | rfl | kernel_rfl)
local macro_rules | `(tactic| walk_at "b") => `(tactic| (first | (intro _ _ _ _ _ _; first | exact FB.ln0 rfl | exact FB.Dm (fun _ => rfl) | exact FB.ln2 (fun _ _ => rfl) | exact FB.Fn (fun _ _ _ => rfl) | exact FB.Ff (fun _ _ _ _ => rfl) | exact FB.ln5 (fun _ _ _ _ _ => rfl) | exact FB.ln6 (fun _ _ _ _ _ _ => rfl)) | (intro _ _ _ _ _ _ _; first | exact FB.ln0 ⟨_, rfl, rfl⟩ | exact FB.Dm (fun _ => ⟨_, rfl, rfl⟩) | exact FB.ln2 (fun _ _ => ⟨_, rfl, rfl⟩) | exact FB.Fn (fun _ _ _ => ⟨_, rfl, rfl⟩) | exact FB.Ff (fun _ _ _ _ => ⟨_, rfl, rfl⟩) | exact FB.ln5 (fun _ _ _ _ _ => ⟨_, rfl, rfl⟩) | exact FB.ln6 (fun _ _ _ _ _ _ => ⟨_, rfl, rfl⟩) | exact FB.lm0 ⟨_, rfl, rfl⟩ | exact FB.V0 (fun _ => ⟨_, rfl, rfl⟩) | exact FB.Wh (fun _ _ => ⟨_, rfl, rfl⟩) | exact FB.lm3 (fun _ _ _ => ⟨_, rfl, rfl⟩) | exact FB.lm4 (fun _ _ _ _ => ⟨_, rfl, rfl⟩) | exact FB.lm5 (fun _ _ _ _ _ => ⟨_, rfl, rfl⟩) | exact FB.lm6 (fun _ _ _ _ _ _ => ⟨_, rfl, rfl⟩))))
local macro_rules | `(tactic| walk_at "T") => `(tactic| first | (refine W.mg_none_of (by assumption) (by assumption) ?_; walk_at "k") | (refine W.mg_of (by assumption) (by assumption) ?_; walk_at "k") | (refine' ⟨_, W.mg_of (by assumption) (by assumption) ?gg⟩; (case gg => walk_at "k")) | (refine' FB.tF (by assumption) (by assumption) ?a ?l ?c ?k ?b; (case a => walk_at "k"); (case l => walk_at "k"); (case c => walk_at "k"); (case k => walk_at "k"); (case b => walk_at "b")) | (refine' FB.tM ?a ?i ?l ?c ?k ?b; (case a => walk_at "k"); (case i => walk_at "k"); (case l => walk_at "k"); (case c => walk_at "k"); (case k => walk_at "k"); (case b => walk_at "b")) | (refine' FB.tI ?m ?kc ?a ?i ?l ?c ?k ?b; (case m => walk_at "k"); (case kc => walk_at "k"); (case a => walk_at "k"); (case i => walk_at "k"); (case l => walk_at "k"); (case c => walk_at "k"); (case k => walk_at "k"); (case b => walk_at "b")) | (refine' FB.Wg ?m ?kc ?a ?i ?l ?d ?c ?k ?b ?b2; (case m => walk_at "k"); (case kc => walk_at "k"); (case a => walk_at "k"); (case i => walk_at "k"); (case l => walk_at "k"); (case d => walk_at "k"); (case c => walk_at "k"); (case k => walk_at "k"); (case b => walk_at "b"); (case b2 => walk_at "b")) | (refine' FB.Wi (by assumption) (by assumption) ?a ?l ?d ?c ?k ?b ?b2; (case a => walk_at "k"); (case l => walk_at "k"); (case d => walk_at "k"); (case c => walk_at "k"); (case k => walk_at "k"); (case b => walk_at "b"); (case b2 => walk_at "b")) | (refine ⟨W.mg_of (by assumption) (by assumption) ?_, ?_⟩ <;> walk_at "k") | (refine ⟨?_, ?_, ?_, ?_, ?_, ?_, ?_, ?_⟩ <;> walk_at "k") | (refine ⟨?_, ?_, ?_, ?_⟩ <;> walk_at "k") | (refine ⟨?_, ?_⟩ <;> walk_at "k") | (unfold L2.bL; walk_at "k") | walk_at "k")
set_option maxRecDepth 100000 in
set_option maxHeartbeats 0 in
theorem PySem.Challenge.cw_frameback_k32_whole_the_greatest_table_holds : PySem.Challenge.rw_frameback_k32_whole_the_greatest_table.Holds := by
 w_on;o_law;k_head;(case hw=>w_witness2)
 k_fill
 refine FB.walk (l:=PySem.Challenge.rw_frameback_k32_whole_the_greatest_table) rfl rfl (fun w h Y=>W.kIn_of Y) ?F
 case F =>
   intro w mg fa h KX G hmg;have T:∃ a:FB.cM,FB.Txt (L2.C1 KX) mg a:=by
     dsimp only [L2.C1];refine' ⟨⟨0,_,_,_,0,0,0,_,_,_,_,_,_,_,_,_,0,0,0,_,_,0,_,0,0,0,0,0,0,_,0,0,_,_,0,0⟩,?T⟩;(case T =>
       constructor
       (case l7=>walk_at "T")
       (case iO=>exact FB.tS (its:=#[.int 4 _,.int 5 _,.int 6 _]) (Nat.le_of_ble_eq_true rfl) (by walk_at "k") (.cons ⟨_,rfl⟩ (.cons ⟨_,rfl⟩ (.cons ⟨_,rfl⟩ .nil))))
       (case nH=>walk_at "T")
       (case jA=>exact FB.tS (its:=#[.str "back" _,.int 4 _,.int 5 _,.int 6 _]) (Nat.le_of_ble_eq_true rfl) (by walk_at "k") (.cons ⟨_,rfl⟩ (.cons ⟨_,rfl⟩ (.cons ⟨_,rfl⟩ (.cons ⟨_,rfl⟩ .nil)))))
       (case iE=>walk_at "T")
       (case j8=>exact ⟨_,FB.tS (its:=#[.int 0 _,.int 128 _,.ref _]) (Nat.le_of_ble_eq_true rfl) (by walk_at "k") (.cons ⟨_,rfl⟩ (.cons ⟨_,rfl⟩ (.cons rfl .nil))),FB.tS (its:=#[.int 16 _,.int 32 _,.int 64 _]) (Nat.le_of_ble_eq_true rfl) (by walk_at "k") (.cons ⟨_,rfl⟩ (.cons ⟨_,rfl⟩ (.cons ⟨_,rfl⟩ .nil)))⟩)
       all_goals walk_at "T")
   have B:∃ fd:FuncData,L2.fL (L2.C1 KX) "law" "law" FB.jg fa fd∧∀ (s:Shared) (v:Value),BindsTo s fd ⟨[v],[]⟩ [("_law_script",v)]:=by
     dsimp only [L2.C1];refine' FB.tL KX G hmg ?l1 ?l2 ?l3 ?l4;(case l1=>walk_at "k")
     (case l2=>walk_at "k")
     (case l3=>walk_at "k")
     (case l4=>walk_at "k")
   obtain ⟨a,T⟩:=T;obtain ⟨fd,FF,B⟩:=B;exact ⟨fd,B,fun base _ _=>FB.law_fn T FF⟩
