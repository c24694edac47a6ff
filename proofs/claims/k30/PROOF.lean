import PyProof.Rows.All
import Wide.All
import OpenK.AllK
import Wide.FinOn
import Lean
import PyProof.EqAt
import PyProof.EqKinds
import PyProof.TupleCall
import PyProof.NeKinds
import KE.KSortTup
import PySem.Challenge.RW_lotheads_k30_times_on_ups
set_option Elab.async false
set_option linter.all false
set_option maxRecDepth 100000
namespace L2
open PySem PySem.Spec PyProof.Rows
noncomputable abbrev Key := Sum Int Str
noncomputable def keyIs : Key → Value → Bool
  | .inl k, v => Value.isInt k v
  | .inr x, v => Value.isStrOf x v
noncomputable def keyH (w : World) : Key → Int
  | .inl k => hashInt k
  | .inr x => hashStr w x
theorem keyIs_shape : ∀ {k : Key} {v : Value}, keyIs k v = true → (∃ i t, k = Sum.inl i ∧ v = Value.int i t) ∨ (∃ x t, k = Sum.inr x ∧ v = Value.str x t)
  | .inl i, v, h => by
    obtain ⟨t, e⟩ := Value.isInt_shape (k := i) (v := v) h
    exact .inl ⟨i, t, rfl, e⟩
  | .inr x, v, h => by
    obtain ⟨t, e⟩ := Value.isStrOf_shape (x := x) (v := v) h
    exact .inr ⟨x, t, rfl, e⟩
theorem keyIs_int (i : Int) (t : Tok) : keyIs (.inl i) (.int i t) = true := by simp [keyIs, Value.isInt]
theorem keyIs_str (x : Str) (t : Tok) : keyIs (.inr x) (.str x t) = true := by simp [keyIs, Value.isStrOf]
theorem key_ll (a b : Int) : decide ((Sum.inl a : Key) = Sum.inl b) = (a == b) := by
  by_cases e : a = b
  · subst e; simp
  · have h : ¬ (Sum.inl a : Key) = Sum.inl b := fun q => e (Sum.inl.inj q)
    rw [decide_eq_false h]
    exact (beq_eq_false_iff_ne.mpr e).symm
theorem key_rr (a b : Str) : decide ((Sum.inr a : Key) = Sum.inr b) = decide (a = b) := by
  by_cases e : a = b
  · subst e; simp
  · have h : ¬ (Sum.inr a : Key) = Sum.inr b := fun q => e (Sum.inr.inj q)
    rw [decide_eq_false h, decide_eq_false e]
theorem key_lr (a : Int) (b : Str) : decide ((Sum.inl a : Key) = Sum.inr b) = false := decide_eq_false (fun q => nomatch q)
theorem key_rl (a : Str) (b : Int) : decide ((Sum.inr a : Key) = Sum.inl b) = false := decide_eq_false (fun q => nomatch q)
noncomputable def mixKind (prog : Program) (w : World) : PySem.KeyKind prog w Key where
  is := keyIs
  hash := keyH w
  inj := fun v a b ha hb => by
    rcases keyIs_shape ha with ⟨i, t, rfl, rfl⟩ | ⟨x, t, rfl, rfl⟩
    · rcases keyIs_shape hb with ⟨j, u, rfl, e⟩ | ⟨y, u, rfl, e⟩
      · injection e with e1 _; rw [e1]
      · exact nomatch e
    · rcases keyIs_shape hb with ⟨j, u, rfl, e⟩ | ⟨y, u, rfl, e⟩
      · exact nomatch e
      · injection e with e1 _; rw [e1]
  byValue := fun k v h => by
    rcases keyIs_shape h with ⟨i, t, rfl, rfl⟩ | ⟨x, t, rfl, rfl⟩ <;> rfl
  pyHash := fun hv h => by
    rcases keyIs_shape hv with ⟨i, t, rfl, rfl⟩ | ⟨x, t, rfl, rfl⟩
    · exact wpAny_pyHash_int h
    · exact wpAny_pyHash_str h
  eqBool := fun hu hv h => by
    rcases keyIs_shape hu with ⟨i, t, rfl, rfl⟩ | ⟨x, t, rfl, rfl⟩
    · rcases keyIs_shape hv with ⟨j, u, rfl, rfl⟩ | ⟨y, u, rfl, rfl⟩
      · rw [key_ll] at h; exact wpAny_eqBool_int h
      · rw [key_lr] at h; exact SeqAt.EqAt.int_str i t y u _ _ _ _ h
    · rcases keyIs_shape hv with ⟨j, u, rfl, rfl⟩ | ⟨y, u, rfl, rfl⟩
      · rw [key_rl] at h; exact SeqAt.EqAt.str_int x t j u _ _ _ _ h
      · rw [key_rr] at h; exact wpAny_eqBool_str h
  «strs» := fun k x t v h => by
    rcases keyIs_shape h with ⟨i, u, rfl, e⟩ | ⟨y, u, rfl, e⟩
    · exact nomatch e
    · injection e with e1 _
      subst e1
      cases v <;> rfl
theorem mixKind_int (prog : Program) (w : World) (i : Int) (t : Tok) : (mixKind prog w).is (.inl i) (.int i t) = true := keyIs_int i t
theorem mixKind_str (prog : Program) (w : World) (x : Str) (t : Tok) : (mixKind prog w).is (.inr x) (.str x t) = true := keyIs_str x t
end L2
namespace L2
open PySem PySem.Spec PyProof.Rows
inductive V where
  | non | bl (b : Bool) | int (i : Int) | str (x : Str) | byt (b : Array UInt8) | flt (b : UInt64) | ref (a : Addr) | ty (n : String)
  deriving DecidableEq
noncomputable def RelV : V → Value → Prop
  | .non, u => u = Value.none
  | .bl b, u => u = Value.bool b
  | .int i, u => ∃ t, u = Value.int i t
  | .str x, u => ∃ t, u = Value.str x t
  | .byt b, u => ∃ t, u = Value.bytes b t
  | .flt b, u => ∃ t, u = Value.float b t
  | .ref a, u => u = Value.ref a
  | .ty n, u => u = Value.type n
noncomputable abbrev Vals : List V → List Value → Prop := Paired RelV
theorem Vals.length {xs : List V} {us : List Value} (r : Vals xs us) : xs.length = us.length := Paired.length r
theorem Vals.get : ∀ {xs : List V} {us : List Value} {i : Nat} {x : V}, Vals xs us → xs[i]? = some x → ∃ u, us[i]? = some u ∧ RelV x u
  | _, _, _, _, .nil, e => by simp at e
  | _, _, 0, _, .cons r _, e => by simp at e; subst e; exact ⟨_, rfl, r⟩
  | _, _, i + 1, x, .cons _ t, e => by
    obtain ⟨u, h1, h2⟩ := Vals.get (i := i) (x := x) t (by simpa using e)
    exact ⟨u, by simpa using h1, h2⟩
theorem Vals.set {x : V} {u : Value} (r : RelV x u) : ∀ {xs : List V} {us : List Value} (i : Nat), Vals xs us → Vals (xs.set i x) (us.set i u)
  | _, _, _, .nil => .nil
  | _, _, 0, .cons _ t => .cons r t
  | _, _, i + 1, .cons q t => .cons q (Vals.set r i t)
theorem Vals.append : ∀ {xs ys : List V} {us ws : List Value}, Vals xs us → Vals ys ws → Vals (xs ++ ys) (us ++ ws)
  | _, _, _, _, .nil, s => s
  | _, _, _, _, .cons r t, s => .cons r (Vals.append t s)
theorem Vals.take : ∀ {xs : List V} {us : List Value} (n : Nat), Vals xs us → Vals (xs.take n) (us.take n)
  | _, _, 0, _ => .nil
  | _, _, _ + 1, .nil => .nil
  | _, _, n + 1, .cons r t => .cons r (Vals.take n t)
theorem Vals.drop : ∀ {xs : List V} {us : List Value} (n : Nat), Vals xs us → Vals (xs.drop n) (us.drop n)
  | _, _, 0, r => r
  | _, _, _ + 1, .nil => .nil
  | _, _, n + 1, .cons _ t => Vals.drop n t
noncomputable def RelO : Option V → Option Value → Prop
  | some v, some u => RelV v u
  | none, none => True
  | _, _ => False
noncomputable def KV {κ : Type} : List (κ × V) → List (κ × Value) → Prop := Paired fun (p : κ × V) (q : κ × Value) => p.1 = q.1 ∧ RelV p.2 q.2
noncomputable def kV : Key → V
  | .inl i => .int i
  | .inr x => .str x
inductive HO where
  
  | lst (xs : List V)
  
  | tup (xs : List V)
  
  | dK (kvs : List (Key × V)) | dT (kvs : List (List Key × V))
  
  | set (S : Int → Bool) (n : Nat)
  
  | ins (C dx : Addr) (fs : List (Str × V))
  
  | own (x : Addr)
  
  | xd (fs : List (Str × V))
  
  | met (f x : Addr)
  
  | rng (lo hi : Int)
  
  | frz (o : Obj) (u : HO)
  
  | tbl (ps : Array Value)
  
  | ext (φ : Heap → Prop)
noncomputable abbrev Hp := Addr → Option HO
noncomputable def upd (H : Hp) (a : Addr) (o : HO) : Hp := fun b => if b = a then some o else H b
theorem upd_same {H : Hp} {a : Addr} {o : HO} : upd H a o a = some o := by unfold upd; rw [if_pos rfl]
theorem upd_ne {H : Hp} {a b : Addr} {o : HO} (h : b ≠ a) : upd H a o b = H b := by unfold upd; rw [if_neg h]
theorem ne_of_none {H : Hp} {a b : Addr} {o : HO} (h : H a = some o) (h' : H b = none) : a ≠ b := by
  intro e; subst e; rw [h] at h'; cases h'
section
variable (P : Program) (w : World)
noncomputable def ObjOk (H : Hp) (h : Heap) (a : Addr) : HO → Prop
  | .lst xs => xs.length ≤ sizeLine ∧ ∃ (its : List Value) (n : Nat), Vals xs its ∧ h.get? a = some { cls := .type "list", data := .seq its.toArray n }
  | .tup xs => xs.length ≤ sizeLine ∧ ∃ its : List Value, Vals xs its ∧ IsTup h a its.toArray
  | .dK kvs => kvs.length ≤ sizeLine ∧ (a == sysModules) = false ∧ ∃ vs, KV kvs vs ∧ h.DictOf (mixKind P w) a vs
  | .dT kvs => kvs.length ≤ sizeLine ∧ (a == sysModules) = false ∧ ∃ xs : List (List Key × Addr × Value),
      Paired (fun (p : List Key × V) (q : List Key × Addr × Value) => p.1 = q.1 ∧ H q.2.1 = some (.tup (p.1.map kV)) ∧ RelV p.2 q.2.2) kvs xs ∧
      ∃ o es ep, h.get? a = some o ∧ o.ExactDict ∧ o.data = .dict es ep ∧ es.toList = xs.map (entryOfKey (tupleKind (mixKind P w))) ∧ (xs.map (·.1)).Nodup
  | .set S n => h.SetOf (intKind P w) a S n
  | .ins C dx fs => H dx = some (.own a) ∧ fs.length ≤ 1000 ∧ dx ≠ a ∧ h.get? a = some (PySem.W.instObj C dx) ∧
      ∃ mA, h.Ns1 dx mA ∧ (∀ f, RelO (fs.lookup f) (mA f)) ∧ PySem.Within mA (fs.map (·.1))
  | .own _ => ∃ o, h.get? a = some o
  | .xd fs => ∃ mA, h.Ns1 a mA ∧ ∀ f, RelO (fs.lookup f) (mA f)
  | .rng lo hi => ∃ t u v, h.get? a = some { cls := .type "range", data := .fields #[.int lo t, .int hi u, .int 1 v] }
  | .frz o u => h.get? a = some o ∧ ObjOk H h a u
  | .tbl ps => h.get? a = some { cls := .none, data := .fields ps }
  | .met f x => h.get? a = some (PySem.W.methodObj (.ref f) (.ref x))
  | .ext φ => φ h ∧ (∃ o, h.get? a = some o) ∧ ∀ h1 h2 : Heap, φ h1 → (∀ o, h1.get? a = some o → h2.get? a = some o) → φ h2
noncomputable def HOk (H : Hp) (h : Heap) : Prop := ∀ a o, H a = some o → ObjOk P w H h a o
end
section
variable {P : Program} {w : World} {H H' : Hp} {h h' : Heap} {a : Addr} {o : HO}
theorem ObjOk.lt (x : ObjOk P w H h a o) : a < h.objs.size := by
  cases o with
  | lst xs => obtain ⟨_, _, _, _, e⟩ := x; exact Heap.lt_size e
  | tup xs => obtain ⟨_, _, _, p⟩ := x; exact p.lt
  | dK kvs => obtain ⟨_, _, _, _, o, _, _, e, _⟩ := x; exact Heap.lt_size e
  | dT kvs => obtain ⟨_, _, _, _, o, _, _, e, _⟩ := x; exact Heap.lt_size e
  | set S n => obtain ⟨o, _, _, _, e, _⟩ := x; exact Heap.lt_size e
  | ins C dx fs => obtain ⟨_, _, _, e, _⟩ := x; exact Heap.lt_size e
  | own y => obtain ⟨_, e⟩ := x; exact Heap.lt_size e
  | xd fs => obtain ⟨_, ⟨_, _, _, e, _⟩, _⟩ := x; exact Heap.lt_size e
  | rng lo hi => obtain ⟨_, _, _, e⟩ := x; exact Heap.lt_size e
  | frz ob u => obtain ⟨e, _⟩ := x; exact Heap.lt_size e
  | tbl ps => exact Heap.lt_size (show h.get? a = some _ from x)
  | met f y => exact Heap.lt_size (show h.get? a = some _ from x)
  | ext φ => obtain ⟨_, ⟨_, e⟩, _⟩ := x; exact Heap.lt_size e
theorem Paired.mapP {α β : Type} {F G : α → β → Prop} : ∀ {l₁ : List α} {l₂ : List β}, Paired F l₁ l₂ → (∀ a b, F a b → G a b) → Paired G l₁ l₂
  | _, _, .nil, _ => .nil
  | _, _, .cons r t, f => .cons (f _ _ r) (Paired.mapP t f)
theorem ObjOk.stay (x : ObjOk P w H h a o) (k : ∀ b u, (b = a ∨ H b = some (.own a)) → h.get? b = some u → h'.get? b = some u)
    (ho : ∀ b, H b = some (.own a) → H' b = some (.own a)) (ht : ∀ b xs, H b = some (.tup xs) → H' b = some (.tup xs)) : ObjOk P w H' h' a o := by
  induction o with
  | lst xs => obtain ⟨z, its, n, r, e⟩ := x; exact ⟨z, its, n, r, k _ _ (.inl rfl) e⟩
  | tup xs => obtain ⟨z, its, r, ob, e, c⟩ := x; exact ⟨z, its, r, ob, k _ _ (.inl rfl) e, c⟩
  | dK kvs => obtain ⟨z, y, vs, r, ob, es, ep, e, c⟩ := x; exact ⟨z, y, vs, r, ob, es, ep, k _ _ (.inl rfl) e, c⟩
  | dT kvs =>
    obtain ⟨z, y, xs, r, ob, es, ep, e, c⟩ := x
    exact ⟨z, y, xs, Paired.mapP r fun p q z => ⟨z.1, ht _ _ z.2.1, z.2.2⟩, ob, es, ep, k _ _ (.inl rfl) e, c⟩
  | set S n => obtain ⟨ob, es, ep, t, e, c⟩ := x; exact ⟨ob, es, ep, t, k _ _ (.inl rfl) e, c⟩
  | ins C dx fs =>
    obtain ⟨d, z, ne, e, mA, ⟨od, es, ep, e2, c⟩, r⟩ := x
    exact ⟨ho _ d, z, ne, k _ _ (.inl rfl) e, mA, ⟨od, es, ep, k _ _ (.inr d) e2, c⟩, r⟩
  | own y => obtain ⟨ob, e⟩ := x; exact ⟨ob, k _ _ (.inl rfl) e⟩
  | xd fs => obtain ⟨mA, ⟨od, es, ep, e, c⟩, r⟩ := x; exact ⟨mA, ⟨od, es, ep, k _ _ (.inl rfl) e, c⟩, r⟩
  | rng lo hi => obtain ⟨t, u, v, e⟩ := x; exact ⟨t, u, v, k _ _ (.inl rfl) e⟩
  | frz ob u ih => obtain ⟨e, q⟩ := x; exact ⟨k _ _ (.inl rfl) e, ih q⟩
  | tbl ps =>
    have e : h.get? a = some { cls := .none, data := .fields ps } := x
    show h'.get? a = some { cls := .none, data := .fields ps }
    exact k a _ (.inl rfl) e
  | met f y =>
    have e : h.get? a = some (PySem.W.methodObj (.ref f) (.ref y)) := x
    show h'.get? a = some (PySem.W.methodObj (.ref f) (.ref y))
    exact k a _ (.inl rfl) e
  | ext φ => obtain ⟨p, ⟨o, e⟩, st⟩ := x; exact ⟨st _ _ p fun o q => k _ _ (.inl rfl) q, ⟨o, k _ _ (.inl rfl) e⟩, st⟩
theorem HOk.lt (x : HOk P w H h) (e : H a = some o) : a < h.objs.size := (x a o e).lt
theorem HOk.fresh (x : HOk P w H h) (e : h.objs.size ≤ a) : H a = none := by
  cases q : H a with
  | none => rfl
  | some u => exact absurd (Nat.lt_of_lt_of_le (x.lt q) e) (Nat.lt_irrefl _)
theorem HOk.kept (x : HOk P w H h) (k : ∀ b u, h.get? b = some u → h'.get? b = some u) : HOk P w H h' := fun a o e =>
  (x a o e).stay (fun b u _ q => k b u q) (fun _ q => q) fun _ _ q => q
theorem HOk.laid (x : HOk P w H h) (k : ∀ b u, h.get? b = some u → h'.get? b = some u) (hp : h.objs.size ≤ a) (new : ObjOk P w (upd H a o) h' a o) : HOk P w (upd H a o) h' := fun b u e => by
  have hn := x.fresh hp
  by_cases hb : b = a
  · subst hb; rw [upd_same] at e; cases e; exact new
  · rw [upd_ne hb] at e
    exact (x b u e).stay (fun c v _ q => k c v q) (fun c q => by rw [upd_ne (ne_of_none q hn)]; exact q) fun c xs q => by rw [upd_ne (ne_of_none q hn)]; exact q
end
noncomputable def Rd (H : Hp) (a : Addr) (u : HO) : Prop := H a = some u ∨ ∃ o, H a = some (.frz o u)
theorem Rd.ok {P : Program} {w : World} {H : Hp} {h : Heap} {a : Addr} {u : HO} (r : Rd H a u) (x : HOk P w H h) : ObjOk P w H h a u := by
  rcases r with r | ⟨o, r⟩
  · exact x a u r
  · obtain ⟨_, q⟩ := x a _ r
    exact q
noncomputable def Mut : Option HO → Prop
  | some (.lst _) => True
  | some (.dK _) => True
  | some (.dT _) => True
  | some (.set _ _) => True
  | some (.ins _ _ _) => True
  | some (.ext _) => True
  | _ => False
section
variable {P : Program} {w : World} {H : Hp} {h h' : Heap} {x e : Addr} {o' : HO}
theorem HOk.write (ok : HOk P w H h) (mu : Mut (H x)) (he : e = x ∨ H e = some (.own x)) (k : ∀ b u, b ≠ e → h.get? b = some u → h'.get? b = some u) (heo : ∃ u, h'.get? e = some u)
    (new : ObjOk P w (upd H x o') h' x o') : HOk P w (upd H x o') h' := fun b u q => by
  have nown : ∀ c y, H c = some (.own y) → c ≠ x := fun c y r z => by subst z; rw [r] at mu; exact mu
  have ntup : ∀ c xs, H c = some (.tup xs) → c ≠ x := fun c xs r z => by subst z; rw [r] at mu; exact mu
  by_cases hb : b = x
  · subst hb; rw [upd_same] at q; cases q; exact new
  · rw [upd_ne hb] at q
    by_cases hbe : b = e
    · have q' : H b = some (.own x) := by
        rcases he with z | z
        · exact absurd (hbe.trans z) hb
        · rw [hbe]; exact z
      rw [q] at q'; cases q'
      obtain ⟨v, hv⟩ := heo
      exact ⟨v, by rw [hbe]; exact hv⟩
    · refine (ok b u q).stay (fun c v hc r => k c v ?_ r) (fun c r => by rw [upd_ne (nown c b r)]; exact r) fun c xs r => by rw [upd_ne (ntup c xs r)]; exact r
      rcases hc with rfl | hc
      · exact hbe
      · rintro rfl
        rcases he with z | z
        · exact nown c b hc z
        · rw [hc] at z; cases z; exact hb rfl
end
structure Un (fs ex : List Addr) (H H' : Hp) (h h' : Heap) : Prop where
  keep : ∀ b o, h.get? b = some o → H b = none → b ∉ fs → b ∉ ex → h'.get? b = some o
  slot : ∀ b o, h.get? b = some o → H b = none → b ∈ fs → b ∉ ex → ∃ sl, h'.get? b = some { o with slots := sl }
  free : ∀ b o, h.get? b = some o → H b = none → b ∉ ex → H' b = none
  there : ∀ b o, h.get? b = some o → b ∉ ex → ∃ o', h'.get? b = some o'
  tups : ∀ b xs, H b = some (.tup xs) → H' b = some (.tup xs)
  frzs : ∀ b o u, H b = some (.frz o u) → H' b = some (.frz o u)
  tbls : ∀ b ps, H b = some (.tbl ps) → ∃ more, H' b = some (.tbl (ps ++ more))
section
variable {fs fs' ex ex' : List Addr} {H H1 H2 : Hp} {h h1 h2 h' : Heap} {a x e : Addr} {o : HO}
theorem Un.any (u : Un fs ex H H1 h h1) {b : Addr} {ob : Obj} (q : h.get? b = some ob) (n : H b = none) (hx : b ∉ ex) : ∃ sl, h1.get? b = some { ob with slots := sl } := by
  by_cases hb : b ∈ fs
  · exact u.slot b ob q n hb hx
  · exact ⟨ob.slots, u.keep b ob q n hb hx⟩
theorem Un.kept (k : ∀ b u, h.get? b = some u → h'.get? b = some u) : Un fs ex H H h h' :=
  ⟨fun b ob q _ _ _ => k b ob q, fun b ob q _ _ _ => ⟨ob.slots, k b ob q⟩, fun _ _ _ n _ => n, fun b ob q _ => ⟨ob, k b ob q⟩, fun _ _ q => q, fun _ _ _ q => q, fun _ ps q => ⟨#[], by rw [q]; simp⟩⟩
theorem Un.refl : Un fs ex H H h h := Un.kept fun _ _ q => q
theorem Un.laid (k : ∀ b u, h.get? b = some u → h'.get? b = some u) (hp : h.objs.size ≤ a) (hn : H a = none) : Un fs ex H (upd H a o) h h' where
  keep := fun b u q _ _ _ => k b u q
  slot := fun b u q _ _ _ => ⟨u.slots, k b u q⟩
  free := fun b u q n _ => by rw [upd_ne (Nat.ne_of_lt (Nat.lt_of_lt_of_le (Heap.lt_size q) hp))]; exact n
  there := fun b u q _ => ⟨u, k b u q⟩
  tups := fun b xs q => by rw [upd_ne (ne_of_none q hn)]; exact q
  frzs := fun b u xs q => by rw [upd_ne (ne_of_none q hn)]; exact q
  tbls := fun b ps q => ⟨#[], by rw [upd_ne (ne_of_none q hn), q]; simp⟩
theorem Un.write (mu : Mut (H x)) (he : e = x ∨ H e = some (.own x)) (k : ∀ b u, b ≠ e → h.get? b = some u → h'.get? b = some u) (heo : ∃ u, h'.get? e = some u) : Un fs ex H (upd H x o) h h' := by
  have hx : ∀ b, H b = none → b ≠ x := fun b n z => by subst z; rw [n] at mu; exact mu
  have hb : ∀ b, H b = none → b ≠ e := fun b n z => by
    subst z
    rcases he with r | r
    · exact hx b n r
    · rw [n] at r; cases r
  have hm : ∀ b u, H b = some u → ¬ Mut (some u) → b ≠ x := fun b u q nm z => by subst z; rw [q] at mu; exact nm mu
  refine ⟨fun b u q n _ _ => k b u (hb b n) q, fun b u q n _ _ => ⟨u.slots, k b u (hb b n) q⟩, fun b u q n _ => by rw [upd_ne (hx b n)]; exact n, fun b u q _ => ?_,
    fun b xs q => by rw [upd_ne (hm b _ q fun z => z)]; exact q, fun b u xs q => by rw [upd_ne (hm b _ q fun z => z)]; exact q, fun b ps q => ⟨#[], by rw [upd_ne (hm b _ q fun z => z), q]; simp⟩⟩
  by_cases hbe : b = e
  · subst hbe; exact heo
  · exact ⟨u, k b u hbe q⟩
end
noncomputable def trk (h : Heap) (H : Hp) : List Addr := (List.range h.objs.size).filter fun a => (H a).isSome
noncomputable def hidT (h : Heap) (H : Hp) : Heap := PySem.W.hideAll h (trk h H)
theorem hidT_size (h : Heap) (H : Hp) : (hidT h H).objs.size = h.objs.size := PySem.W.hideAll_size _ _
theorem hidT_get {h : Heap} {H : Hp} {b : Addr} {o : Obj} (e : h.get? b = some o) (n : H b = none) : (hidT h H).get? b = some o :=
  PySem.W.hideAll_get _ e fun hm => by
    have q : (H b).isSome = true := (List.mem_filter.mp hm).2
    rw [n] at q; simp at q
theorem of_hidT {h : Heap} {H : Hp} {b : Addr} {o : Obj} (e : (hidT h H).get? b = some o) : h.get? b = some o ∧ H b = none := by
  have e' : h.get? b = some o := PySem.W.of_hideAll (trk h H) e
  refine ⟨e', ?_⟩
  cases q : H b with
  | none => rfl
  | some x =>
    have hm : b ∈ trk h H := List.mem_filter.mpr ⟨List.mem_range.mpr (Heap.lt_size e'), by simp [q]⟩
    have z : (hidT h H).get? b = none := PySem.W.hideAll_none (trk h H) hm
    rw [z] at e; cases e
noncomputable def allNews (g h : Heap) (L : Addr) : List (Addr × Obj) := (List.range h.objs.size).filterMap fun a => if a = L ∨ (g.get? a).isSome = true then none else (h.get? a).map fun o => (a, o)
noncomputable def rest (g h : Heap) (L d : Addr) : List (Addr × Obj) := (allNews g h L).filter fun p => decide (p.1 ≠ d)
end L2
namespace L2
open PySem PySem.Spec PyProof.Rows
structure Mod (K : PySem.W.Frag) (mg : Str → Option Value) (base : Heap) : Prop where
  kin : K.In base
  glob : base.Ns mainGlobals mg
  blt : ∃ mb, base.Ns builtinsNs mb ∧ ∀ x : Str, x ≠ "__name__" → mb x = bootBuiltins x
  nolimit : base.NoLimit
structure Cx where
  prog : Program
  w : World
  K : PySem.W.Frag
  mg : Str → Option Value
  base : Heap
  A : Around
  N : List Str
  s₀ : Shared
  H₀ : Hp
  env : Env
  outer : List Env
  stack : List Env
  ex : List Addr
  fn : Str → Bool
  calm : Bool
  pn : List (Addr × Obj)
  xe : Value → Shared → Prop
noncomputable def frs (l : List Env) : List Addr := l.filterMap (·.frame)
noncomputable abbrev Cx.fs (X : Cx) : List Addr := frs X.outer
noncomputable def Vis (sc : Scope) (x : Str) : Prop := sc.names.lookup x = some .local ∨ sc.names.lookup x = some .cell ∨ sc.names.lookup x = some .free
noncomputable def Loc (sc : Scope) (x : Str) : Prop := sc.names.lookup x = some .local ∨ sc.names.lookup x = some .cell
noncomputable def Look (env : Env) (h : Heap) (m : Str → Option Value) (x : Str) (u : Value) : Prop :=
  (env.kindOf x = some .local ∧ m x = some u) ∨ ((env.kindOf x = some .cell ∨ env.kindOf x = some .free) ∧ ∃ c, env.cells.lookup x = some c ∧ h.IsCell c (some u))
structure Cx.Ok (X : Cx) : Prop where
  mod : Mod X.K X.mg X.base
  kind : X.env.scope.kind = .function
  glob : X.env.globals = mainGlobals
  blt : X.env.builtins = builtinsNs
  above : X.s₀.heap.objs.size ≤ X.env.locals
  inj : ∀ x y c, X.env.cells.lookup x = some c → X.env.cells.lookup y = some c → x = y
  has : ∀ x, (X.env.kindOf x = some .cell ∨ X.env.kindOf x = some .free) → ∃ c, X.env.cells.lookup x = some c
  cab : ∀ x c, X.fn x = true → X.env.cells.lookup x = some c → X.s₀.heap.objs.size ≤ c
  hd : X.calm = true → X.A.handled = none
  frames : X.A.frames = some X.stack
  stk : X.stack = X.outer ∨ (X.stack = X.env :: X.outer ∧ X.env.frame = some X.env.locals)
  exf : ∀ b ∈ X.ex, b ≠ X.env.locals ∧ ∀ x c, X.env.cells.lookup x = some c → c ≠ b
  bs : ∀ b o, X.base.get? b = some o → X.s₀.heap.get? b = some o ∧ X.H₀ b = none
  bsz : X.base.objs.size ≤ X.s₀.heap.objs.size
  noex : ∀ b o, X.base.get? b = some o → b ∉ X.ex
  exfs : ∀ b ∈ X.ex, b ∉ X.fs
  funs : X.s₀.heap.FunFrames X.base X.outer
  frf : ∀ b ∈ X.fs, X.H₀ b = none
structure Inv (X : Cx) (pins : List (Addr × Obj)) (σ : List (Option V)) (H : Hp) (s : Shared) : Prop where
  ok : X.Ok
  os : s.os = X.s₀.os
  bare : AllBare s.gens
  base : Un X.fs X.ex X.H₀ H X.s₀.heap s.heap
  loc : ∃ m, s.heap.Ns X.env.locals m ∧ ∀ (i : Nat) (x : Str) (v : V), X.N[i]? = some x → σ[i]? = some (some v) → Vis X.env.scope x → ∃ u, RelV v u ∧ Look X.env s.heap m x u
  cell : ∀ x c, X.env.cells.lookup x = some c → ∃ v, s.heap.IsCell c v
  free : H X.env.locals = none
  freeC : ∀ x c, X.env.cells.lookup x = some c → H c = none
  pin : ∀ p ∈ X.pn ++ pins, s.heap.get? p.1 = some p.2 ∧ H p.1 = none ∧ p.1 ≠ X.env.locals ∧ p.1 ∉ X.fs ∧ ∀ v, p.2.data ≠ .cell v
  hok : HOk X.prog X.w H s.heap
  len : σ.length = X.N.length
section
variable {X : Cx} {pins : List (Addr × Obj)} {σ : List (Option V)} {H H' : Hp} {s : Shared} {h' : Heap}
theorem Cx.Ok.nofr (ok : X.Ok) {b : Addr} {o : Obj} (e : X.base.get? b = some o) : b ∉ X.fs := fun hb => by
  have := (ok.funs.mem hb).1
  rw [e] at this; cases this
theorem Inv.bs (I : Inv X pins σ H s) : ∀ b o, X.base.get? b = some o → s.heap.get? b = some o ∧ H b = none := fun b o e =>
  ⟨I.base.keep b o (I.ok.bs b o e).1 (I.ok.bs b o e).2 (I.ok.nofr e) (I.ok.noex b o e), I.base.free b o (I.ok.bs b o e).1 (I.ok.bs b o e).2 (I.ok.noex b o e)⟩
theorem Inv.bk (I : Inv X pins σ H s) : ∀ b o, X.base.get? b = some o → s.heap.get? b = some o := fun b o e => (I.bs b o e).1
theorem Inv.mod (I : Inv X pins σ H s) : Mod X.K X.mg X.base := I.ok.mod
theorem Inv.kIn (I : Inv X pins σ H s) : X.K.In s.heap := I.ok.mod.kin.keeps I.bk
theorem Inv.fr (I : Inv X pins σ H s) : ∃ m, Fr X.base X.env.locals s.heap m :=
  let ⟨m, hn, _⟩ := I.loc
  ⟨m, hn, I.bk, Nat.le_trans I.ok.bsz I.ok.above⟩
theorem Inv.lt (I : Inv X pins σ H s) : X.env.locals < s.heap.objs.size := let ⟨_, hn, _⟩ := I.loc; hn.lt
theorem Inv.sz (I : Inv X pins σ H s) : X.s₀.heap.objs.size ≤ s.heap.objs.size := Nat.le_trans I.ok.above (Nat.le_of_lt I.lt)
theorem Inv.nofs (I : Inv X pins σ H s) {a : Addr} (h : s.heap.objs.size ≤ a) : a ∉ X.fs := fun hb => by
  obtain ⟨_, o, ho, _⟩ := I.ok.funs.mem hb
  exact absurd (Nat.lt_of_lt_of_le (Heap.lt_size ho) (Nat.le_trans I.sz h)) (Nat.lt_irrefl _)
theorem Inv.cne (I : Inv X pins σ H s) : ∀ x c, X.env.cells.lookup x = some c → c ≠ X.env.locals := fun x c e z => by
  obtain ⟨v, o, ho, hd⟩ := I.cell x c e
  obtain ⟨m, ⟨o', es, ep, ho', hd', _⟩, _⟩ := I.loc
  rw [z, ho'] at ho; cases ho; rw [hd'] at hd; cases hd
theorem Inv.funs (I : Inv X pins σ H s) : s.heap.FunFrames X.base X.outer := by
  have all : ∀ (l : List Env), (∀ b ∈ frs l, b ∈ X.fs) → X.s₀.heap.FunFrames X.base l → s.heap.FunFrames X.base l := by
    intro l
    induction l with
    | nil => intro _ _; trivial
    | cons env r ih =>
      intro hs hl
      obtain ⟨hk, ⟨L, o, hf, hn, ho, hd⟩, hr⟩ := hl
      have hL : L ∈ X.fs := hs L (by unfold frs; rw [List.filterMap_cons, hf]; exact List.mem_cons_self)
      obtain ⟨sl, e⟩ := I.base.slot L o ho (I.ok.frf L hL) hL fun z => I.ok.exfs L z hL
      exact ⟨hk, ⟨L, _, hf, hn, e, hd⟩, ih (fun b hb => hs b (by unfold frs; rw [List.filterMap_cons, hf]; exact List.mem_cons_of_mem _ hb)) hr⟩
  exact all X.outer (fun _ hb => hb) I.ok.funs
theorem Inv.stack (I : Inv X pins σ H s) : s.heap.FunFrames X.base X.stack := by
  rcases I.ok.stk with e | ⟨e, hf⟩
  · rw [e]; exact I.funs
  · rw [e]
    obtain ⟨m, hn, _⟩ := I.loc
    refine .cons (by rw [I.ok.kind]; decide) hf hn ?_ I.funs
    exact Heap.get?_none_of_le (Nat.le_trans I.ok.bsz I.ok.above)
theorem Inv.stkSub (I : Inv X pins σ H s) : ∀ b ∈ frs X.stack, b ∈ X.env.locals :: X.fs := fun b hb => by
  rcases I.ok.stk with e | ⟨e, hf⟩
  · rw [e] at hb; exact List.mem_cons_of_mem _ hb
  · rw [e] at hb
    unfold frs at hb
    rw [List.filterMap_cons, hf] at hb
    exact hb
theorem Inv.stkFree (I : Inv X pins σ H s) : ∀ b ∈ frs X.stack, H b = none := fun b hb => by
  rcases List.mem_cons.mp (I.stkSub b hb) with e | hb
  · rw [e]; exact I.free
  · obtain ⟨_, o, ho, _⟩ := I.ok.funs.mem hb
    exact I.base.free b o ho (I.ok.frf b hb) fun z => I.ok.exfs b z hb
theorem Inv.step {g' : Array GenState} {t' : Nat} {d' : Drawn} {ch : List Addr} (I : Inv X pins σ H s)
    (hch : ∀ b ∈ ch, (b ∈ X.ex ∨ X.s₀.heap.objs.size ≤ b) ∧ b ≠ X.env.locals ∧ (∀ x c, X.env.cells.lookup x = some c → c ≠ b) ∧ ∀ p ∈ X.pn ++ pins, p.1 ≠ b)
    (keep : ∀ b o, b ≠ X.env.locals → b ∉ X.fs → b ∉ ch → s.heap.get? b = some o → H b = none → h'.get? b = some o)
    (slot : ∀ b o, b ≠ X.env.locals → b ∈ X.fs → b ∉ ch → s.heap.get? b = some o → H b = none → ∃ sl, h'.get? b = some { o with slots := sl }) (free : ∀ b o, b ∉ ch → s.heap.get? b = some o → H b = none → H' b = none)
    (there : ∀ b o, b ∉ ch → s.heap.get? b = some o → ∃ o', h'.get? b = some o')
    (tups : ∀ b xs, H b = some (.tup xs) → H' b = some (.tup xs)) (frzs : ∀ b o u, H b = some (.frz o u) → H' b = some (.frz o u)) (tbls : ∀ b ps, H b = some (.tbl ps) → ∃ more, H' b = some (.tbl (ps ++ more)))
    (ns : ∀ m, s.heap.Ns X.env.locals m → h'.Ns X.env.locals m) (hok : HOk X.prog X.w H' h') (hg : AllBare g') :
    Inv X pins σ H' { s with heap := h', gens := g', drawn := d', toks := t' } := by
  have neL : ∀ b o, X.s₀.heap.get? b = some o → b ≠ X.env.locals := fun b o e => Nat.ne_of_lt (Nat.lt_of_lt_of_le (Heap.lt_size e) I.ok.above)
  have neC : ∀ b o, X.s₀.heap.get? b = some o → b ∉ X.ex → b ∉ ch := fun b o e hx hb => by
    rcases (hch b hb).1 with z | z
    · exact hx z
    · exact absurd (Nat.lt_of_lt_of_le (Heap.lt_size e) z) (Nat.lt_irrefl _)
  have cellK : ∀ x c, X.env.cells.lookup x = some c → ∀ v, s.heap.IsCell c v → h'.IsCell c v := fun x c e v ⟨o, ho, hd⟩ => by
    have nch : c ∉ ch := fun z => (hch c z).2.2.1 x c e rfl
    by_cases hc : c ∈ X.fs
    · obtain ⟨sl, q⟩ := slot c o (I.cne x c e) hc nch ho (I.freeC x c e)
      exact ⟨_, q, hd⟩
    · exact ⟨o, keep c o (I.cne x c e) hc nch ho (I.freeC x c e), hd⟩
  refine ⟨I.ok, I.os, hg, ⟨fun b o e n hb hx => ?_, fun b o e n hb hx => ?_, fun b o e n hx => ?_, fun b o e hx => ?_, fun b xs e => tups b xs (I.base.tups b xs e), fun b o xs e => frzs b o xs (I.base.frzs b o xs e), fun b ps e => ?_⟩, ?_, fun x c e => ?_, ?_, fun x c e => ?_, fun p hp => ?_, hok, I.len⟩
  · exact keep b o (neL b o e) hb (neC b o e hx) (I.base.keep b o e n hb hx) (I.base.free b o e n hx)
  · obtain ⟨sl, e1⟩ := I.base.slot b o e n hb hx
    obtain ⟨sl', e2⟩ := slot b _ (neL b o e) hb (neC b o e hx) e1 (I.base.free b o e n hx)
    exact ⟨sl', e2⟩
  · obtain ⟨o', e1⟩ := I.base.there b o e hx
    exact free b o' (neC b o e hx) e1 (I.base.free b o e n hx)
  · obtain ⟨o', e1⟩ := I.base.there b o e hx
    exact there b o' (neC b o e hx) e1
  · obtain ⟨m1, e1⟩ := I.base.tbls b ps e
    obtain ⟨m2, e2⟩ := tbls b _ e1
    exact ⟨m1 ++ m2, by rw [e2, Array.append_assoc]⟩
  · obtain ⟨m, hn, hl⟩ := I.loc
    refine ⟨m, ns m hn, fun i x v e1 e2 e3 => ?_⟩
    obtain ⟨u, r, l⟩ := hl i x v e1 e2 e3
    refine ⟨u, r, ?_⟩
    rcases l with l | ⟨k, c, e, z⟩
    · exact .inl l
    · exact .inr ⟨k, c, e, cellK x c e _ z⟩
  · obtain ⟨v, z⟩ := I.cell x c e
    exact ⟨v, cellK x c e v z⟩
  · obtain ⟨m, ⟨o, _, _, ho, _⟩, _⟩ := I.loc
    exact free _ o (fun z => (hch _ z).2.1 rfl) ho I.free
  · obtain ⟨v, o, ho, hd⟩ := I.cell x c e
    exact free c o (fun z => (hch c z).2.2.1 x c e rfl) ho (I.freeC x c e)
  · obtain ⟨e, n, ne, nf, d⟩ := I.pin p hp
    have nch : p.1 ∉ ch := fun z => (hch p.1 z).2.2.2 p hp rfl
    exact ⟨keep p.1 p.2 ne nf nch e n, free p.1 p.2 nch e n, ne, nf, d⟩
theorem Inv.un {t' : Nat} (I : Inv X pins σ H s) (u : Un X.fs [] H H' s.heap h') (hok : HOk X.prog X.w H' h') : Inv X pins σ H' { s with heap := h', toks := t' } := by
  obtain ⟨m, ⟨o, es, ep, ho, r⟩, _⟩ := id I.loc
  obtain ⟨sl, hL⟩ := u.any ho I.free (by simp)
  exact I.step (g' := s.gens) (d' := s.drawn) (ch := []) (fun _ z => nomatch z) (fun b o _ hb _ e n => u.keep b o e n hb (by simp)) (fun b o _ hb _ e n => u.slot b o e n hb (by simp)) (fun b o _ e n => u.free b o e n (by simp)) (fun b o _ e => u.there b o e (by simp)) u.tups u.frzs u.tbls (fun m' hm => by
    obtain ⟨o', es', ep', ho', r'⟩ := hm
    rw [ho] at ho'; cases ho'
    exact ⟨_, es', ep', hL, r'⟩) hok I.bare
theorem Inv.call {g' : Array GenState} {t' : Nat} {d' : Drawn} {ch : List Addr} (I : Inv X pins σ H s) (u : Un (frs X.stack) ch H H' s.heap h') (hok : HOk X.prog X.w H' h') (hg : AllBare g')
    (hch : ∀ b ∈ ch, (b ∈ X.ex ∨ X.s₀.heap.objs.size ≤ b) ∧ b ≠ X.env.locals ∧ (∀ x c, X.env.cells.lookup x = some c → c ≠ b) ∧ ∀ p ∈ X.pn ++ pins, p.1 ≠ b) :
    Inv X pins σ H' { s with heap := h', gens := g', drawn := d', toks := t' } := by
  obtain ⟨m, ⟨o, es, ep, ho, r⟩, _⟩ := id I.loc
  obtain ⟨sl, hL⟩ := u.any ho I.free fun z => (hch _ z).2.1 rfl
  exact I.step (ch := ch) hch (fun b o hL hb hc e n => u.keep b o e n (fun z => (List.mem_cons.mp (I.stkSub b z)).elim hL hb) hc) (fun b o _ _ hc e n => u.any e n hc) (fun b o hc e n => u.free b o e n hc) (fun b o hc e => u.there b o e hc) u.tups u.frzs u.tbls (fun m' hm => by
    obtain ⟨o', es', ep', ho', r'⟩ := hm
    rw [ho] at ho'; cases ho'
    exact ⟨_, es', ep', hL, r'⟩) hok hg
theorem Inv.turned {t' : Nat} {it : Addr} (I : Inv X pins σ H s) (k : ∀ b o, b ≠ it → s.heap.get? b = some o → h'.get? b = some o) (hn : H it = none) (hL : it ≠ X.env.locals)
    (h1 : it ∈ X.ex ∨ X.s₀.heap.objs.size ≤ it) (h2 : ∀ x c, X.env.cells.lookup x = some c → c ≠ it) (h3 : ∀ p ∈ X.pn ++ pins, p.1 ≠ it) : Inv X pins σ H { s with heap := h', toks := t' } := by
  have nit : ∀ b u, H b = some u → b ≠ it := fun b u e z => by rw [z, hn] at e; cases e
  refine I.step (g' := s.gens) (d' := s.drawn) (ch := [it]) (fun b hb => ?_) (fun b o _ _ hc e _ => k b o (fun z => hc (by simp [z])) e) (fun b o _ _ hc e _ => ⟨o.slots, k b o (fun z => hc (by simp [z])) e⟩) (fun _ _ _ _ n => n)
    (fun b o hc e => ⟨o, k b o (fun z => hc (by simp [z])) e⟩) (fun _ _ e => e) (fun _ _ _ e => e) (fun b ps e => ⟨#[], by rw [e]; simp⟩) (fun m hm => ?_) (fun b u e => ?_) I.bare
  · have e : b = it := by simpa using hb
    subst e
    exact ⟨h1, hL, h2, h3⟩
  · obtain ⟨o, es, ep, ho, r⟩ := hm
    exact ⟨o, es, ep, k _ o (Ne.symm hL) ho, r⟩
  · refine (I.hok b u e).stay (fun c v hc q => k c v ?_ q) (fun _ q => q) fun _ _ q => q
    rcases hc with z | z
    · rw [z]; exact nit b u e
    · exact nit c _ z
theorem Inv.tok (I : Inv X pins σ H s) (t : Nat) : Inv X pins σ H { s with toks := t } := I.un (h' := s.heap) (t' := t) Un.refl I.hok
theorem Inv.kept {t' : Nat} (I : Inv X pins σ H s) (k : ∀ b u, s.heap.get? b = some u → h'.get? b = some u) : Inv X pins σ H { s with heap := h', toks := t' } := I.un (Un.kept k) (I.hok.kept k)
theorem Inv.laid {a : Addr} {o : HO} {t' : Nat} (I : Inv X pins σ H s) (k : ∀ b u, s.heap.get? b = some u → h'.get? b = some u) (hp : s.heap.objs.size ≤ a) (new : ObjOk X.prog X.w (upd H a o) h' a o) :
    Inv X pins σ (upd H a o) { s with heap := h', toks := t' } := I.un (Un.laid k hp (I.hok.fresh hp)) (I.hok.laid k hp new)
theorem Inv.write {x e : Addr} {o : HO} {t' : Nat} (I : Inv X pins σ H s) (mu : Mut (H x)) (he : e = x ∨ H e = some (.own x)) (k : ∀ b u, b ≠ e → s.heap.get? b = some u → h'.get? b = some u) (heo : ∃ u, h'.get? e = some u)
    (new : ObjOk X.prog X.w (upd H x o) h' x o) : Inv X pins σ (upd H x o) { s with heap := h', toks := t' } := I.un (Un.write mu he k heo) (I.hok.write mu he k heo new)
theorem Inv.weak {σ' : List (Option V)} (I : Inv X pins σ H s) (hl : σ'.length = σ.length) (w : ∀ (i : Nat) v, σ'[i]? = some (some v) → σ[i]? = some (some v)) : Inv X pins σ' H s :=
  ⟨I.ok, I.os, I.bare, I.base, let ⟨m, hn, hl'⟩ := I.loc; ⟨m, hn, fun i x v e1 e2 e3 => hl' i x v e1 (w i v e2) e3⟩, I.cell, I.free, I.freeC, I.pin, I.hok, hl.trans I.len⟩
theorem Inv.pins_of {pins' : List (Addr × Obj)} (I : Inv X pins σ H s) (h : ∀ p ∈ pins', s.heap.get? p.1 = some p.2 ∧ H p.1 = none ∧ p.1 ≠ X.env.locals ∧ p.1 ∉ X.fs ∧ ∀ v, p.2.data ≠ .cell v) : Inv X pins' σ H s :=
  ⟨I.ok, I.os, I.bare, I.base, I.loc, I.cell, I.free, I.freeC, fun p hp => (List.mem_append.mp hp).elim (fun z => I.pin p (List.mem_append_left _ z)) (h p), I.hok, I.len⟩
theorem nodup_ix {N : List Str} (hN : N.Nodup) {i j : Nat} {x : Str} (a : N[i]? = some x) (b : N[j]? = some x) : i = j := by
  obtain ⟨h1, e1⟩ := List.getElem?_eq_some_iff.mp a
  obtain ⟨h2, e2⟩ := List.getElem?_eq_some_iff.mp b
  exact (List.getElem_inj hN).mp (e1.trans e2.symm)
theorem store_ok2 {M : Model} {A : Around} {E : Value → Shared → Prop} {i : Nat} {x : Str} {v : V} {u : Value} {Q : Unit → Shared → Prop} (I : Inv X pins σ H s) (hN : X.N.Nodup) (hi : X.N[i]? = some x) (hx : Loc X.env.scope x) (r : RelV v u)
    (h : ∀ s', Inv X pins (σ.set i (some v)) H s' → (∃ a, Heap.SameBut a s.heap s'.heap ∧ (a = X.env.locals ∨ X.env.cells.lookup x = some a)) → Q () s') (hf : X.fn x = true ∨ X.env.scope.names.lookup x = some .local := by first | exact .inl rfl | exact .inr rfl | assumption) : wpAny M A (storeName X.env x u) Q E s := by
  obtain ⟨m, hn, hl⟩ := id I.loc
  have hcls : (X.env.scope.kind == .class || (X.env.scope.kind == .module && X.env.locals != X.env.globals)) = false := by rw [I.ok.kind]; rfl
  have hiσ : i < σ.length := by rw [I.len]; exact (List.getElem?_eq_some_iff.mp hi).1
  have cne := I.cne
  have tracked : ∀ {a : Addr} {h' : Heap}, (∃ o, s.heap.get? a = some o ∧ H a = none) → Heap.SameBut a s.heap h' → HOk X.prog X.w H h' := fun {a h'} ha hs b ob e => by
    obtain ⟨_, _, hfree⟩ := ha
    refine (I.hok b ob e).stay (fun c w' hc q => (hs.2 c ?_).trans q) (fun _ q => q) fun _ _ q => q
    rintro rfl
    rcases hc with rfl | hc
    · rw [hfree] at e; cases e
    · rw [hfree] at hc; cases hc
  rcases hx with hk | hk
  · refine wpAny_storeName_local hk hn (fun h' hn' hs => ?_) hcls
    obtain ⟨oL, _, _, hoL, _⟩ := id hn
    refine h _ ⟨I.ok, I.os, I.bare, ⟨fun b o e n hb hx => ?_, fun b o e n hb hx => ?_, I.base.free, fun b o e hx => ?_, I.base.tups, I.base.frzs, I.base.tbls⟩, ⟨_, hn', fun j y v' e1 e2 e3 => ?_⟩, fun y c e => ?_, I.free, I.freeC, fun p hp => ?_, tracked ⟨oL, hoL, I.free⟩ hs, by simpa using I.len⟩ ⟨_, hs, .inl rfl⟩
    · exact (hs.2 b (Nat.ne_of_lt (Nat.lt_of_lt_of_le (Heap.lt_size e) I.ok.above))).trans (I.base.keep b o e n hb hx)
    · obtain ⟨sl, e1⟩ := I.base.slot b o e n hb hx
      exact ⟨sl, (hs.2 b (Nat.ne_of_lt (Nat.lt_of_lt_of_le (Heap.lt_size e) I.ok.above))).trans e1⟩
    · obtain ⟨o', e1⟩ := I.base.there b o e hx
      exact ⟨o', (hs.2 b (Nat.ne_of_lt (Nat.lt_of_lt_of_le (Heap.lt_size e) I.ok.above))).trans e1⟩
    · by_cases hj : j = i
      · subst hj
        rw [hi] at e1; cases e1
        rw [List.getElem?_set_self hiσ] at e2
        cases e2
        exact ⟨u, r, .inl ⟨hk, by simp⟩⟩
      · rw [List.getElem?_set_ne (Ne.symm hj)] at e2
        obtain ⟨u', r', q⟩ := hl j y v' e1 e2 e3
        refine ⟨u', r', ?_⟩
        rcases q with ⟨k, e⟩ | ⟨k, c, e, z⟩
        · refine .inl ⟨k, ?_⟩
          have : y ≠ x := fun e => hj (nodup_ix hN e1 (e ▸ hi))
          simp [this, e]
        · exact .inr ⟨k, c, e, z.sameBut hs (cne y c e)⟩
    · obtain ⟨w', z⟩ := I.cell y c e
      exact ⟨w', z.sameBut hs (cne y c e)⟩
    · obtain ⟨e, n, ne, nf, d⟩ := I.pin p hp
      exact ⟨(hs.2 p.1 ne).trans e, n, ne, nf, d⟩
  · have hfn : X.fn x = true := by
      rcases hf with z | z
      · exact z
      · rw [z] at hk; cases hk
    obtain ⟨c, hc⟩ := I.ok.has x (.inl hk)
    obtain ⟨w', z⟩ := I.cell x c hc
    refine wpAny_storeName_cell I.ok.kind hk hc z (fun h' hc' hs => ?_)
    obtain ⟨oc, hoc, hocd⟩ := id z
    refine h { s with heap := h' } ⟨I.ok, I.os, I.bare, ⟨fun b o e n hb hx => ?_, fun b o e n hb hx => ?_, I.base.free, fun b o e hx => ?_, I.base.tups, I.base.frzs, I.base.tbls⟩, ⟨m, hn.sameBut hs (Ne.symm (cne x c hc)), fun j y v' e1 e2 e3 => ?_⟩, fun y c' e => ?_, I.free, I.freeC, fun p hp => ?_, tracked ⟨oc, hoc, I.freeC x c hc⟩ hs, by simpa using I.len⟩ ⟨c, hs, .inr hc⟩
    · exact (hs.2 b (Nat.ne_of_lt (Nat.lt_of_lt_of_le (Heap.lt_size e) (I.ok.cab x c hfn hc)))).trans (I.base.keep b o e n hb hx)
    · obtain ⟨sl, e1⟩ := I.base.slot b o e n hb hx
      exact ⟨sl, (hs.2 b (Nat.ne_of_lt (Nat.lt_of_lt_of_le (Heap.lt_size e) (I.ok.cab x c hfn hc)))).trans e1⟩
    · obtain ⟨o', e1⟩ := I.base.there b o e hx
      exact ⟨o', (hs.2 b (Nat.ne_of_lt (Nat.lt_of_lt_of_le (Heap.lt_size e) (I.ok.cab x c hfn hc)))).trans e1⟩
    · by_cases hj : j = i
      · subst hj
        rw [hi] at e1; cases e1
        rw [List.getElem?_set_self hiσ] at e2
        cases e2
        exact ⟨u, r, .inr ⟨.inl hk, c, hc, hc'⟩⟩
      · rw [List.getElem?_set_ne (Ne.symm hj)] at e2
        obtain ⟨u', r', q⟩ := hl j y v' e1 e2 e3
        refine ⟨u', r', ?_⟩
        rcases q with q | ⟨k, c', e, z'⟩
        · exact .inl q
        · refine .inr ⟨k, c', e, z'.sameBut hs ?_⟩
          rintro rfl
          exact hj (nodup_ix hN e1 (I.ok.inj _ _ _ e hc ▸ hi))
    · by_cases hcc : c' = c
      · subst hcc; exact ⟨_, hc'⟩
      · obtain ⟨w2, z2⟩ := I.cell y c' e
        exact ⟨w2, z2.sameBut hs hcc⟩
    · obtain ⟨e, n, ne, nf, d⟩ := I.pin p hp
      refine ⟨(hs.2 p.1 ?_).trans e, n, ne, nf, d⟩
      intro q
      rw [q, hoc] at e
      have q' : oc = p.2 := Option.some.inj e
      exact d w' (by rw [← q']; exact hocd)
theorem store_ok {M : Model} {A : Around} {E : Value → Shared → Prop} {i : Nat} {x : Str} {v : V} {u : Value} {Q : Unit → Shared → Prop} (I : Inv X pins σ H s) (hN : X.N.Nodup) (hi : X.N[i]? = some x) (hx : Loc X.env.scope x) (r : RelV v u)
    (h : ∀ s', Inv X pins (σ.set i (some v)) H s' → Q () s') (hf : X.fn x = true ∨ X.env.scope.names.lookup x = some .local := by first | exact .inl rfl | exact .inr rfl | assumption) : wpAny M A (storeName X.env x u) Q E s :=
  store_ok2 I hN hi hx r (fun s' I' _ => h s' I') hf
theorem Inv.call' {s' : Shared} {ch : List Addr} (I : Inv X pins σ H s) (ho : s'.os = s.os) (u : Un (frs X.stack) ch H H' s.heap s'.heap) (hok : HOk X.prog X.w H' s'.heap) (hg : AllBare s'.gens)
    (hch : ∀ b ∈ ch, (b ∈ X.ex ∨ X.s₀.heap.objs.size ≤ b) ∧ b ≠ X.env.locals ∧ (∀ x c, X.env.cells.lookup x = some c → c ≠ b) ∧ ∀ p ∈ X.pn ++ pins, p.1 ≠ b) : Inv X pins σ H' s' := by
  obtain ⟨h', g', d', t', o'⟩ := s'
  have e : o' = s.os := ho
  subst e
  exact I.call (g' := g') (t' := t') (d' := d') u hok hg hch
end
noncomputable abbrev XK := Value → Option Addr → Hp → Prop
noncomputable abbrev St := List (Option V)
noncomputable abbrev VK := V → Hp → Prop
noncomputable abbrev TE := St → Hp → VK → Prop
noncomputable abbrev TT := St → Hp → (Bool → Hp → Prop) → Prop
noncomputable abbrev TA := St → Hp → (List V → Hp → Prop) → Prop
structure Ends where
  nx : St → Hp → Prop
  rt : VK
  bk : St → Hp → Prop := fun _ _ => False
  ct : St → Hp → Prop := fun _ _ => False
noncomputable abbrev TS := Ends → St → Hp → Prop
noncomputable def EP (X : Cx) (pins : List (Addr × Obj)) (σ : St) (Q : VK) (u : Value) (s' : Shared) : Prop := ∃ v H', Inv X pins σ H' s' ∧ RelV v u ∧ Q v H'
noncomputable def TP (X : Cx) (pins : List (Addr × Obj)) (σ : St) (Q : Bool → Hp → Prop) (b : Bool) (s' : Shared) : Prop := ∃ H', Inv X pins σ H' s' ∧ Q b H'
noncomputable def AP (X : Cx) (pins : List (Addr × Obj)) (σ : St) (Q : List V → Hp → Prop) (us : List Value) (s' : Shared) : Prop := ∃ vs H', Inv X pins σ H' s' ∧ Vals vs us ∧ Q vs H'
noncomputable def SP (X : Cx) (pins : List (Addr × Obj)) (D : Ends) (f : Flow) (s' : Shared) : Prop :=
  match f with
  | .next => ∃ σ' H', Inv X pins σ' H' s' ∧ D.nx σ' H'
  | .brk => ∃ σ' H', Inv X pins σ' H' s' ∧ D.bk σ' H'
  | .cont => ∃ σ' H', Inv X pins σ' H' s' ∧ D.ct σ' H'
  | .ret u => ∃ v σ' H', Inv X pins σ' H' s' ∧ RelV v u ∧ D.rt v H'
noncomputable def PE (X : Cx) (e : Expr) (t : TE) : Prop :=
  ∀ (pins : List (Addr × Obj)) (s : Shared) (σ : St) (H : Hp) (Q : VK), Inv X pins σ H s → t σ H Q → wpAny (model X.prog X.w) X.A (eval e X.env) (EP X pins σ Q) X.xe s
noncomputable def PT (X : Cx) (e : Expr) (t : TT) : Prop :=
  ∀ (pins : List (Addr × Obj)) (s : Shared) (σ : St) (H : Hp) (Q : Bool → Hp → Prop), Inv X pins σ H s → t σ H Q → wpAny (model X.prog X.w) X.A (isTrue e X.env (eval e X.env)) (TP X pins σ Q) X.xe s
noncomputable def PW (X : Cx) (e : Expr) (t : TT) : Prop :=
  ∀ (whole : Sem Value) (pins : List (Addr × Obj)) (s : Shared) (σ : St) (H : Hp) (Q : Bool → Hp → Prop), Inv X pins σ H s → t σ H Q → wpAny (model X.prog X.w) X.A (isTrue e X.env whole) (TP X pins σ Q) X.xe s
theorem PW.pt {X : Cx} {e : Expr} {t : TT} (h : PW X e t) : PT X e t := h _
noncomputable def PA (X : Cx) (es : List Expr) (t : TA) : Prop :=
  ∀ (pos : Pos) (pins : List (Addr × Obj)) (s : Shared) (σ : St) (H : Hp) (Q : List V → Hp → Prop), Inv X pins σ H s → t σ H Q → wpAny (model X.prog X.w) X.A (spliced (backTo pos (starEach es X.env))) (AP X pins σ Q) X.xe s
noncomputable def PS (X : Cx) (st : Stmt) (t : TS) : Prop :=
  ∀ (pins : List (Addr × Obj)) (s : Shared) (σ : St) (H : Hp) (D : Ends), Inv X pins σ H s → t D σ H → wpAny (model X.prog X.w) X.A (exec st X.env) (SP X pins D) X.xe s
noncomputable def PSs (X : Cx) (st : List Stmt) (t : TS) : Prop :=
  ∀ (pins : List (Addr × Obj)) (s : Shared) (σ : St) (H : Hp) (D : Ends), Inv X pins σ H s → t D σ H → wpAny (model X.prog X.w) X.A (execs st X.env) (SP X pins D) X.xe s
theorem thn {α : Type} {t : Sem α} {Q Q' : α → Shared → Prop} {M : Model} {A : Around} {E : Value → Shared → Prop} {s : Shared} (h : wpAny M A t Q E s) (hQ : ∀ a s, Q a s → Q' a s) : wpAny M A t Q' E s := wpAny_mono h hQ fun _ _ x => x
end L2
namespace L2
open PySem PySem.Spec PyProof.Rows
section
variable {X : Cx}
noncomputable def tVar (i : Nat) : TE := fun σ H Q => ∃ v, σ[i]? = some (some v) ∧ Q v H
noncomputable def tC (v : V) : TE := fun _ H Q => Q v H
theorem pe_var {i : Nat} {x : Str} {pos : Pos} (hN : X.N[i]? = some x) (hv : Vis X.env.scope x) (hd : (x == ("__debug__" : Str)) = false := by decide) (hcd : (x == ("__classdict__" : Str)) = false := by decide) : PE X (.Name x pos) (tVar i) := by
  intro pins s σ H Q I h
  obtain ⟨v, e, h⟩ := h
  obtain ⟨m, hn, hl⟩ := I.loc
  obtain ⟨u, r, l⟩ := hl i x v hN e hv
  have fin : EP X pins σ Q u s := ⟨v, H, I, r, h⟩
  rcases l with ⟨hk, hm⟩ | ⟨hk, c, hc, hcell⟩
  · exact wpAny_Name (wpAny_loadName_local I.ok.kind hk hn hm fin) hd
  · rcases hk with hk | hk
    · exact wpAny_Name (wpAny_loadName_cell I.ok.kind hk hc hcell fin) hd
    · exact wpAny_Name (wpAny_loadName_free I.ok.kind hk hc hcell fin hcd) hd
theorem pe_int {i j pos} : PE X (.Constant (.int i) j pos) (tC (.int i)) := fun _ _ _ H _ I h => wpAny_Constant_int ⟨.int i, H, I.tok _, ⟨_, rfl⟩, h⟩
theorem pe_bl {b j pos} : PE X (.Constant (.bool b) j pos) (tC (.bl b)) := fun _ _ _ H _ I h => Constant_bool ⟨.bl b, H, I, rfl, h⟩
theorem pe_non {j pos} : PE X (.Constant .none j pos) (tC .non) := fun _ _ _ H _ I h => Constant_none ⟨.non, H, I, rfl, h⟩
theorem pe_str {x j pos} : PE X (.Constant (.str x) j pos) (tC (.str x)) := fun _ _ _ H _ I h => Calls.Constant_str ⟨.str x, H, I.tok _, ⟨_, rfl⟩, h⟩
noncomputable def Gl (X : Cx) (x : Str) : Prop := X.env.kindOf x = some .globalImplicit
theorem ld_glob {E : Value → Shared → Prop} {pins : List (Addr × Obj)} {s : Shared} {σ : St} {H : Hp} {x : Str} {u : Value} {pos : Pos} {Q : Value → Shared → Prop} (I : Inv X pins σ H s) (hg : Gl X x) (hm : X.mg x = some u) (h : Q u s)
    (hd : (x == ("__debug__" : Str)) = false := by decide) : wpAny (model X.prog X.w) X.A (eval (.Name x pos) X.env) Q E s :=
  Calls.Name_function_global I.ok.kind hg (Calls.loadGlobal_global (by rw [I.ok.glob]; exact I.mod.glob.keeps I.bk) hm h) hd
theorem ld_blt {E : Value → Shared → Prop} {pins : List (Addr × Obj)} {s : Shared} {σ : St} {H : Hp} {x : Str} {u : Value} {pos : Pos} {Q : Value → Shared → Prop} (I : Inv X pins σ H s) (hg : Gl X x) (hm : X.mg x = none) (hv : bootBuiltins x = some u) (h : Q u s)
    (hn : x ≠ "__name__" := by decide) (hd : (x == ("__debug__" : Str)) = false := by decide) : wpAny (model X.prog X.w) X.A (eval (.Name x pos) X.env) Q E s := by
  obtain ⟨mb, h1, h2⟩ := I.mod.blt
  exact Calls.Name_function_global I.ok.kind hg (Calls.loadGlobal_builtin (by rw [I.ok.glob]; exact I.mod.glob.keeps I.bk) hm (by rw [I.ok.blt]; exact h1.keeps I.bk) ((h2 x hn).trans hv) h) hd
theorem pe_glob {x : Str} {v : V} {u : Value} {pos : Pos} (hg : Gl X x) (hm : X.mg x = some u) (r : RelV v u) (hd : (x == ("__debug__" : Str)) = false := by decide) : PE X (.Name x pos) (tC v) :=
  fun _ _ _ H _ I h => ld_glob I hg hm ⟨v, H, I, r, h⟩ hd
theorem pe_bltn {x : Str} {v : V} {u : Value} {pos : Pos} (hg : Gl X x) (hm : X.mg x = none) (hv : bootBuiltins x = some u) (r : RelV v u) (hn : x ≠ "__name__" := by decide) (hd : (x == ("__debug__" : Str)) = false := by decide) : PE X (.Name x pos) (tC v) :=
  fun _ _ _ H _ I h => ld_blt I hg hm hv ⟨v, H, I, r, h⟩ hn hd
variable {a b : Expr} {ta tb : TE} {pos : Pos}
noncomputable def PC (X : Cx) (op : CmpOp) (a b : Expr) (t : TE) : Prop :=
  ∀ (pins : List (Addr × Obj)) (s : Shared) (σ : St) (H : Hp) (Q : VK), Inv X pins σ H s → t σ H Q →
    wpAny (model X.prog X.w) X.A (eval a X.env) (fun v s₁ => wpAny (model X.prog X.w) X.A (eval b X.env) (fun u s₂ => wpAny (model X.prog X.w) X.A (compareOp op v u) (EP X pins σ Q) X.xe s₂) X.xe s₁) X.xe s
theorem nobehind (b : Expr) {op : CmpOp} (h : op ≠ .In) (h2 : op ≠ .NotIn) : behindInMarks op b = false := by
  have e1 : (op == CmpOp.In) = false := by cases op <;> first | rfl | exact absurd rfl h
  have e2 : (op == CmpOp.NotIn) = false := by cases op <;> first | rfl | exact absurd rfl h2
  cases b <;> simp [behindInMarks, e1, e2]
noncomputable def tB (t : TE) : TT := fun σ H Q => t σ H fun x H1 => ∃ c, x = .bl c ∧ Q c H1
theorem pe_cmp {op : CmpOp} {t : TE} (h : PC X op a b t) (h1 : behindInMarks op b = false := by first | exact nobehind _ (by decide) (by decide) | rfl) : PE X (.Compare a [op] [b] pos) t := fun pins s σ H Q I hw => wpAny_Compare1 (h pins s σ H Q I hw) h1
theorem pt_val {e : Expr} {t : TE} (h : PE X e t) (he : ∀ whole, isTrue e X.env whole = (do let v ← whole; standAt e.pos; holding [v] (truthy v)) := by intro _; rfl) : PT X e (tB t) := by
  intro pins s σ H Q I hw
  refine isTrue_plain (thn (h pins s σ H _ I hw) fun v s1 ⟨x, H1, I1, r1, q1⟩ => ?_) (he _)
  obtain ⟨d, rfl, q⟩ := q1
  cases r1
  exact wpAny_truthy_bool ⟨H1, I1, q⟩
variable {tA tB' : TT} {rest : List Expr}
noncomputable def tAnd (t u : TT) : TT := fun σ H Q => t σ H fun c H1 => if c = true then u σ H1 Q else Q false H1
noncomputable def tOr (t u : TT) : TT := fun σ H Q => t σ H fun c H1 => if c = true then Q true H1 else u σ H1 Q
noncomputable def tNot (t : TT) : TT := fun σ H Q => t σ H fun c H1 => Q (!c) H1
theorem pw_and1 (ha : PT X a tA) : PW X (.BoolOp .And [a] pos) tA := by
  intro wh pins s σ H Q I h
  refine isTrue_and (thn (ha pins s σ H Q I h) fun c s1 e => ?_)
  cases c with
  | true => exact isTrue_and_nil e
  | false => exact e
theorem pw_or1 (ha : PT X a tA) : PW X (.BoolOp .Or [a] pos) tA := by
  intro wh pins s σ H Q I h
  refine isTrue_or (thn (ha pins s σ H Q I h) fun c s1 e => ?_)
  cases c with
  | false => exact isTrue_or_nil e
  | true => exact e
theorem pw_and (ha : PT X a tA) (hb : PW X (.BoolOp .And (b :: rest) pos) tB') : PW X (.BoolOp .And (a :: b :: rest) pos) (tAnd tA tB') := by
  intro wh pins s σ H Q I h
  refine isTrue_and (thn (ha pins s σ H _ I h) fun c s1 ⟨H1, I1, q1⟩ => ?_)
  cases c with
  | true => exact hb wh pins s1 σ H1 Q I1 q1
  | false => exact ⟨H1, I1, q1⟩
theorem pw_or (ha : PT X a tA) (hb : PW X (.BoolOp .Or (b :: rest) pos) tB') : PW X (.BoolOp .Or (a :: b :: rest) pos) (tOr tA tB') := by
  intro wh pins s σ H Q I h
  refine isTrue_or (thn (ha pins s σ H _ I h) fun c s1 ⟨H1, I1, q1⟩ => ?_)
  cases c with
  | true => exact ⟨H1, I1, q1⟩
  | false => exact hb wh pins s1 σ H1 Q I1 q1
theorem pt_not (ha : PT X a tA) : PT X (.UnaryOp .Not a pos) (tNot tA) := by
  intro pins s σ H Q I h
  exact isTrue_not (ha pins s σ H (fun c H1 => Q (!c) H1) I h)
noncomputable def tAndV (ta tb : TE) : TE := fun σ H Q => ta σ H fun x H1 => ∃ c, x = .bl c ∧ if c = true then tb σ H1 Q else Q (.bl false) H1
noncomputable def tOrV (ta tb : TE) : TE := fun σ H Q => ta σ H fun x H1 => ∃ c, x = .bl c ∧ if c = true then Q (.bl true) H1 else tb σ H1 Q
noncomputable def tNotV (ta : TE) : TE := fun σ H Q => ta σ H fun x H1 => ∃ c, x = .bl c ∧ Q (.bl (!c)) H1
theorem pe_one {op} {t : TE} (h : PE X a t) : PE X (.BoolOp op [a] pos) t := fun pins s σ H Q I hw => BoolOp_one (h pins s σ H Q I hw)
theorem pe_and (ha : PE X a ta) (hb : PE X (.BoolOp .And (b :: rest) pos) tb) : PE X (.BoolOp .And (a :: b :: rest) pos) (tAndV ta tb) := by
  intro pins s σ H Q I h
  refine BoolOp_and (thn (ha pins s σ H _ I h) fun v s1 ⟨x, H1, I1, r1, q1⟩ => ?_)
  obtain ⟨c, rfl, q1⟩ := q1
  cases r1
  refine wpAny_truthy_bool ?_
  cases c with
  | true => exact hb pins s1 σ H1 Q I1 q1
  | false => exact ⟨.bl false, H1, I1, rfl, q1⟩
theorem pe_not (ha : PE X a ta) : PE X (.UnaryOp .Not a pos) (tNotV ta) := by
  intro pins s σ H Q I h
  refine UnaryOp_ (thn (ha pins s σ H _ I h) fun v s1 ⟨x, H1, I1, r1, q1⟩ => ?_)
  obtain ⟨c, rfl, q1⟩ := q1
  cases r1
  exact not_of (wpAny_truthy_bool ⟨.bl (!c), H1, I1, rfl, q1⟩)
noncomputable def tIf (t : TT) (ta tb : TE) : TE := fun σ H Q => t σ H fun c H1 => if c = true then ta σ H1 Q else tb σ H1 Q
theorem pe_ifExp {c : Expr} (hc : PT X c tA) (ha : PE X a ta) (hb : PE X b tb) : PE X (.IfExp c a b pos) (tIf tA ta tb) := by
  intro pins s σ H Q I h
  refine wpAny_IfExp (thn (hc pins s σ H _ I h) fun d s1 ⟨H1, I1, q1⟩ => ?_)
  cases d with
  | true => exact ha pins s1 σ H1 Q I1 q1
  | false => exact hb pins s1 σ H1 Q I1 q1
end
end L2
namespace L2
open PySem PySem.Spec PyProof.Rows
noncomputable def SqL (K : PySem.W.Frag) (H : Hp) (a : Addr) (xs : List V) : Prop :=
  Rd H a (.lst xs) ∨
    ∃ (o : Obj) (its : Array Value) (n : Nat), K.lookup a = some o ∧ o.cls = .type "list" ∧ o.dict = none ∧ o.data = .seq its n ∧ its.size ≤ sizeLine ∧ Vals xs its.toList
noncomputable def SqT (K : PySem.W.Frag) (H : Hp) (a : Addr) (xs : List V) : Prop :=
  Rd H a (.tup xs) ∨
    ∃ (o : Obj) (its : Array Value) (n : Nat), K.lookup a = some o ∧ o.cls = .type "tuple" ∧ o.data = .seq its n ∧ its.size ≤ sizeLine ∧ Vals xs its.toList
noncomputable def absV : Value → Option V
  | .none => some .non
  | .bool b => some (.bl b)
  | .int i _ => some (.int i)
  | .str x _ => some (.str x)
  | .bytes b _ => some (.byt b)
  | .float b _ => some (.flt b)
  | .ref a => some (.ref a)
  | .type n => some (.ty n)
  | _ => none
theorem RelV.abs {x : V} {u : Value} (r : RelV x u) : absV u = some x := by
  cases x with
  | non => cases r; rfl
  | bl _ => cases r; rfl
  | int _ => obtain ⟨t, rfl⟩ := r; rfl
  | str _ => obtain ⟨t, rfl⟩ := r; rfl
  | byt _ => obtain ⟨t, rfl⟩ := r; rfl
  | flt _ => obtain ⟨t, rfl⟩ := r; rfl
  | ref _ => cases r; rfl
  | ty _ => cases r; rfl
theorem RelV.inj {x y : V} {u : Value} (r : RelV x u) (q : RelV y u) : x = y := Option.some.inj (r.abs.symm.trans q.abs)
theorem Vals.inj : ∀ {xs ys : List V} {us : List Value}, Vals xs us → Vals ys us → xs = ys
  | _, _, _, .nil, .nil => rfl
  | _, _, _, .cons r t, .cons r' t' => by rw [r.inj r', Vals.inj t t']
section
variable {X : Cx} {pins : List (Addr × Obj)} {σ : St} {H : Hp} {s : Shared} {a : Addr} {xs ys : List V}
theorem SqL.of {K : PySem.W.Frag} (h : H a = some (.lst xs)) : SqL K H a xs := .inl (.inl h)
theorem SqT.of {K : PySem.W.Frag} (h : H a = some (.tup xs)) : SqT K H a xs := .inl (.inl h)
theorem Inv.list (I : Inv X pins σ H s) (h : SqL X.K H a xs) : ∃ its : List Value, Vals xs its ∧ PlainL s.heap a its.toArray ∧ xs.length ≤ sizeLine := by
  rcases h with h | ⟨o, its, n, hk, hc, hd, hs, hz, r⟩
  · obtain ⟨z, its, n, r, e⟩ := h.ok I.hok
    exact ⟨its, r, ⟨_, n, e, rfl, rfl, rfl⟩, z⟩
  · refine ⟨its.toList, r, ⟨o, n, I.kIn a o hk, hc, hd, by simpa using hs⟩, ?_⟩
    have e := r.length
    simp only [Array.length_toList] at e
    omega
theorem Inv.tuple (I : Inv X pins σ H s) (h : SqT X.K H a xs) : ∃ its : List Value, Vals xs its ∧ IsTup s.heap a its.toArray ∧ xs.length ≤ sizeLine := by
  rcases h with h | ⟨o, its, n, hk, hc, hs, hz, r⟩
  · obtain ⟨z, its, r, p⟩ := h.ok I.hok
    exact ⟨its, r, p, z⟩
  · refine ⟨its.toList, r, ⟨o, I.kIn a o hk, hc, n, by simpa using hs⟩, ?_⟩
    have e := r.length
    simp only [Array.length_toList] at e
    omega
theorem Inv.list_inj (I : Inv X pins σ H s) (h : SqL X.K H a xs) (h' : SqL X.K H a ys) : xs = ys := by
  obtain ⟨its, r, ⟨o, n, e, _, _, d⟩, _⟩ := I.list h
  obtain ⟨its', r', ⟨o', n', e', _, _, d'⟩, _⟩ := I.list h'
  rw [e] at e'; cases e'
  rw [d] at d'
  injection d' with d1 _
  have : its = its' := by simpa using congrArg Array.toList d1
  subst this
  exact r.inj r'
theorem Inv.tuple_inj (I : Inv X pins σ H s) (h : SqT X.K H a xs) (h' : SqT X.K H a ys) : xs = ys := by
  obtain ⟨its, r, ⟨o, e, _, n, d⟩, _⟩ := I.tuple h
  obtain ⟨its', r', ⟨o', e', _, n', d'⟩, _⟩ := I.tuple h'
  rw [e] at e'; cases e'
  rw [d] at d'
  injection d' with d1 _
  have : its = its' := by simpa using congrArg Array.toList d1
  subst this
  exact r.inj r'
end
noncomputable abbrev Cx.wish (X : Cx) (E : Value → Shared → Prop) : Cx := { X with xe := E }
noncomputable abbrev Cx.nox (X : Cx) : Cx := X.wish fun _ _ => False
theorem Cx.Ok.wish {X : Cx} (ok : X.Ok) (E : Value → Shared → Prop) : (X.wish E).Ok :=
  ⟨ok.mod, ok.kind, ok.glob, ok.blt, ok.above, ok.inj, ok.has, ok.cab, ok.hd, ok.frames, ok.stk, ok.exf, ok.bs, ok.bsz, ok.noex, ok.exfs, ok.funs, ok.frf⟩
theorem Cx.Ok.unwish {X : Cx} {E : Value → Shared → Prop} (ok : (X.wish E).Ok) : X.Ok :=
  ⟨ok.mod, ok.kind, ok.glob, ok.blt, ok.above, ok.inj, ok.has, ok.cab, ok.hd, ok.frames, ok.stk, ok.exf, ok.bs, ok.bsz, ok.noex, ok.exfs, ok.funs, ok.frf⟩
section
variable {X : Cx} {pins : List (Addr × Obj)} {σ : St} {H : Hp} {s : Shared} {E : Value → Shared → Prop}
theorem Inv.wish (I : Inv X pins σ H s) (E : Value → Shared → Prop) : Inv (X.wish E) pins σ H s := ⟨I.ok.wish E, I.os, I.bare, I.base, I.loc, I.cell, I.free, I.freeC, I.pin, I.hok, I.len⟩
theorem Inv.unwish (I : Inv (X.wish E) pins σ H s) : Inv X pins σ H s := ⟨I.ok.unwish, I.os, I.bare, I.base, I.loc, I.cell, I.free, I.freeC, I.pin, I.hok, I.len⟩
theorem SP.unwish {D : Ends} {f : Flow} {s' : Shared} (h : SP (X.wish E) pins D f s') : SP X pins D f s' := by
  cases f with
  | next => obtain ⟨σ', H', I, q⟩ := h; exact ⟨σ', H', I.unwish, q⟩
  | brk => obtain ⟨σ', H', I, q⟩ := h; exact ⟨σ', H', I.unwish, q⟩
  | cont => obtain ⟨σ', H', I, q⟩ := h; exact ⟨σ', H', I.unwish, q⟩
  | ret u => obtain ⟨v, σ', H', I, r, q⟩ := h; exact ⟨v, σ', H', I.unwish, r, q⟩
theorem PSs.nox {st : List Stmt} {t : TS} (h : PSs X.nox st t) : PSs X st t := fun pins s σ H D I hw =>
  wpAny_mono (h pins s σ H D (I.wish _) hw) (fun _ _ q => q.unwish) fun _ _ z => False.elim z
end
section
variable {X : Cx} {st : Stmt} {rest : List Stmt} {t u : TS} {e : Expr} {te : TE} {pos : Pos}
noncomputable def tNext : TS := fun D σ H => D.nx σ H
noncomputable def tSeq (t u : TS) : TS := fun D σ H => t { D with nx := u D } σ H
theorem pss_nil : PSs X [] tNext := fun _ _ σ H _ I h => wpAny_execs_nil ⟨σ, H, I, h⟩
theorem pss_cons (h1 : PS X st t) (h2 : PSs X rest u) : PSs X (st :: rest) (tSeq t u) := by
  intro pins s σ H D I h
  refine wpAny_execs_cons (thn (h1 pins s σ H { D with nx := u D } I h) fun f s1 q => ?_)
  cases f with
  | next =>
    obtain ⟨σ', H', I', q⟩ := q
    exact h2 pins s1 σ' H' D I' q
  | ret v => exact q
  | brk => exact q
  | cont => exact q
theorem pss_one (h1 : PS X st t) : PSs X [st] t := by
  intro pins s σ H D I h
  refine wpAny_execs_cons (thn (h1 pins s σ H D I h) fun f s1 q => ?_)
  cases f with
  | next => exact wpAny_execs_nil q
  | ret v => exact q
  | brk => exact q
  | cont => exact q
theorem Inv.quiet {pins : List (Addr × Obj)} {σ : St} {H : Hp} {s : Shared} (I : Inv X pins σ H s) : interactive X.env = false := by simp [interactive, I.ok.kind]
noncomputable def tDrop (te : TE) : TS := fun D σ H => te σ H fun _ H1 => D.nx σ H1
theorem ps_expr (he : PE X e te) (hs : swapsWith e none pos.line X.env = pure false := by rfl) : PS X (.Expr e pos) (tDrop te) := by
  intro pins s σ H D I h
  exact wpAny_Expr_any (thn (he pins s σ H _ I h) fun v s1 ⟨x, H1, I1, r1, q1⟩ => ⟨σ, H1, I1, q1⟩) I.quiet hs
noncomputable def tRet (te : TE) : TS := fun D σ H => te σ H D.rt
theorem ps_ret (he : PE X e te) : PS X (.Return (some e) pos) (tRet te) := by
  intro pins s σ H D I h
  exact wpAny_Return_some (thn (he pins s σ H _ I h) fun v s1 ⟨x, H1, I1, r1, q1⟩ => ⟨x, σ, H1, I1, r1, q1⟩)
noncomputable def tRetN : TS := fun D _ H => D.rt .non H
noncomputable def tIfS (c : TT) (t u : TS) : TS := fun D σ H => c σ H fun b H1 => if b = true then t D σ H1 else u D σ H1
theorem ps_if {c : Expr} {a b : List Stmt} {tc : TT} (hc : PT X c tc) (ha : PSs X a t) (hb : PSs X b u) : PS X (.If c a b pos) (tIfS tc t u) := by
  intro pins s σ H D I h
  refine wpAny_If (thn (hc pins s σ H _ I h) fun d s1 ⟨H1, I1, q1⟩ => ?_)
  cases d with
  | true => exact ha pins s1 σ H1 D I1 q1
  | false => exact hb pins s1 σ H1 D I1 q1
noncomputable def tNever : TS := fun _ _ _ => False
theorem ps_never : PS X st tNever := fun _ _ _ _ _ _ h => h.elim
end
noncomputable abbrev TG := V → St → Hp → (St → Hp → Prop) → Prop
noncomputable abbrev TGs := List V → St → Hp → (St → Hp → Prop) → Prop
noncomputable def PG (X : Cx) (target : Expr) (t : TG) : Prop :=
  ∀ (pins : List (Addr × Obj)) (s : Shared) (σ : St) (H : Hp) (v : V) (u : Value) (Q : St → Hp → Prop), Inv X pins σ H s → RelV v u → t v σ H Q →
    wpAny (model X.prog X.w) X.A (assign target X.env u) (fun _ s' => ∃ σ' H', Inv X pins σ' H' s' ∧ Q σ' H') X.xe s
noncomputable def PGs (X : Cx) (ts : List Expr) (t : TGs) : Prop :=
  ∀ (pins : List (Addr × Obj)) (s : Shared) (σ : St) (H : Hp) (vs : List V) (us : List Value) (Q : St → Hp → Prop), Inv X pins σ H s → Vals vs us → t vs σ H Q →
    wpAny (model X.prog X.w) X.A (assignInOrder ((assignEach ts X.env).map (·.2)) us) (fun _ s' => ∃ σ' H', Inv X pins σ' H' s' ∧ Q σ' H') X.xe s
noncomputable abbrev TSet := V → V → V → Hp → (Hp → Prop) → Prop
noncomputable def PSet (X : Cx) (t : TSet) : Prop :=
  ∀ (pins : List (Addr × Obj)) (s : Shared) (σ : St) (H : Hp) (o i v : V) (ov iv u : Value) (Q : Hp → Prop), Inv X pins σ H s → RelV o ov → RelV i iv → RelV v u → t o i v H Q →
    wpAny (model X.prog X.w) X.A (setItem ov iv u) (fun _ s' => ∃ H', Inv X pins σ H' s' ∧ Q H') X.xe s
noncomputable abbrev TIp := V → V → Hp → VK → Prop
noncomputable def PIp (X : Cx) (op : Operator) (t : TIp) : Prop :=
  ∀ (pins : List (Addr × Obj)) (s : Shared) (σ : St) (H : Hp) (x y : V) (v u : Value) (Q : VK), Inv X pins σ H s → RelV x v → RelV y u → t x y H Q →
    wpAny (model X.prog X.w) X.A (inplaceOp op v u) (EP X pins σ Q) X.xe s
section
variable {X : Cx} {pos : Pos}
noncomputable def gName (i : Nat) : TG := fun v σ H Q => Q (σ.set i (some v)) H
theorem pg_name {i : Nat} {x : Str} (hN : X.N.Nodup) (hi : X.N[i]? = some x) (hx : Loc X.env.scope x) (hf : X.fn x = true ∨ X.env.scope.names.lookup x = some .local := by first | exact .inl rfl | exact .inr rfl | assumption) : PG X (.Name x pos) (gName i) := by
  intro pins s σ H v u Q I r h
  exact wpAny_assign_Name (store_ok I hN hi hx r (fun s' I' => ⟨_, H, I', h⟩) hf)
noncomputable def gNil : TGs := fun vs σ H Q => vs = [] ∧ Q σ H
noncomputable def gCons (t : TG) (u : TGs) : TGs := fun vs σ H Q => ∃ v r, vs = v :: r ∧ t v σ H fun σ' H' => u r σ' H' Q
theorem pgs_nil : PGs X [] gNil := by
  intro pins s σ H vs us Q I r h
  obtain ⟨e, h⟩ := h
  subst e
  cases r
  exact assignInOrder_nil ⟨σ, H, I, h⟩
theorem pgs_cons {e : Expr} {es : List Expr} {t : TG} {u : TGs} (h1 : PG X e t) (h2 : PGs X es u)
    (hs : (assignEach (e :: es) X.env).map (·.2) = assign e X.env :: (assignEach es X.env).map (·.2) := by rfl) : PGs X (e :: es) (gCons t u) := by
  intro pins s σ H vs us Q I r h
  obtain ⟨v, vr, e1, h⟩ := h
  subst e1
  cases r with
  | cons r rr =>
    rw [hs]
    refine assignInOrder_cons (thn (h1 pins s σ H _ _ _ I r h) fun _ s1 ⟨σ1, H1, I1, q1⟩ => ?_)
    exact h2 pins s1 σ1 H1 _ _ Q I1 rr q1
noncomputable def gTup (K : PySem.W.Frag) (n : Nat) (t : TGs) : TG := fun v σ H Q => ∃ a xs, v = .ref a ∧ SqT K H a xs ∧ xs.length = n ∧ t xs σ H Q
theorem pg_tup {es : List Expr} {k : Nat} {t : TGs} {n : Nat} (hc : X.calm = true) (h : PGs X es t)
    (hn : (assignEach es X.env).length = n := by rfl) (hst : (assignEach es X.env).findIdx? (·.1) = none := by rfl) : PG X (.Tuple es k pos) (gTup X.K n t) := by
  intro pins s σ H v u Q I r hw
  obtain ⟨a, xs, e1, hq, hl, hw⟩ := hw
  subst e1
  cases r
  obtain ⟨its, rv, ht, hz⟩ := I.tuple hq
  refine assign_Tuple_tuple (I.ok.hd hc) ht (by simp [hn, ← hl, rv.length]) hst fun h' hx => ?_
  have I1 : Inv X pins σ H { s with heap := h' } := I.kept (t' := s.toks) fun b o e => hx b o (Nat.ne_of_lt (Heap.lt_size e)) e
  exact h pins _ σ H xs _ Q I1 (by simpa using rv) hw
noncomputable def gSub (to ti : TE) (t : TSet) : TG := fun v σ H Q => to σ H fun o H1 => ti σ H1 fun i H2 => t o i v H2 fun H3 => Q σ H3
theorem pg_sub {o i : Expr} {to ti : TE} {t : TSet} (ho : PE X o to) (hi : PE X i ti) (hs : PSet X t)
    (ha : ∀ v, assign (.Subscript o i pos) X.env v = (do
      let ov ← holding [v] (eval o X.env)
      let iv ← holding [v, ov] (eval i X.env)
      standAt pos
      holding [v, ov, iv] (setItem ov iv v)
      release [v, ov, iv] []) := by intro _; rfl) : PG X (.Subscript o i pos) (gSub to ti t) := by
  intro pins s σ H v u Q I r h
  rw [ha]
  refine wpAny_bind (wpAny_holding (thn (ho pins s σ H _ I h) fun ov s1 ⟨x, H1, I1, r1, q1⟩ => ?_))
  refine wpAny_bind (wpAny_holding (thn (hi pins s1 σ H1 _ I1 q1) fun iv s2 ⟨y, H2, I2, r2, q2⟩ => ?_))
  refine wpAny_bind (wpAny_standAt (wpAny_bind (wpAny_holding (thn (hs pins s2 σ H2 x y v ov iv u _ I2 r1 r2 r q2) fun _ s3 ⟨H3, I3, q3⟩ => ?_))))
  exact wpAny_release ⟨σ, H3, I3, q3⟩
noncomputable def tAsg (te : TE) (g : TG) : TS := fun D σ H => te σ H fun x H1 => g x σ H1 D.nx
theorem ps_asg {tg e : Expr} {te : TE} {g : TG} (he : PE X e te) (hg : PG X tg g) (hs : swapsWithSole [tg] e pos.line X.env = pure false := by rfl) (hw : swappedStores [tg] e X.env = pure none := by rfl)
    (h1 : (assignEach [tg] X.env).map (·.2) = [assign tg X.env] := by rfl) : PS X (.Assign [tg] e pos) (tAsg te g) := by
  intro pins s σ H D I h
  refine wpAny_Assign_stores (thn (he pins s σ H _ I h) fun v s1 ⟨x, H1, I1, r1, q1⟩ => ?_) hs hw
  rw [h1]
  exact thn (hg pins s1 σ H1 x v _ I1 r1 q1) fun _ s2 q => q
theorem ps_set {i : Nat} {x : Str} {e : Expr} {te : TE} {pos' : Pos} (hN : X.N.Nodup) (hi : X.N[i]? = some x) (hx : Loc X.env.scope x) (he : PE X e te) (hs : swapsWith e (some (.Name x pos')) pos.line X.env = pure false := by rfl) (hf : X.fn x = true ∨ X.env.scope.names.lookup x = some .local := by first | exact .inl rfl | exact .inr rfl | assumption) :
    PS X (.Assign [.Name x pos'] e pos) (tAsg te (gName i)) := by
  intro pins s σ H D I h
  refine wpAny_Assign_Name (thn (he pins s σ H _ I h) fun v s1 ⟨y, H1, I1, r1, q1⟩ => ?_) hs
  exact store_ok I1 hN hi hx r1 (fun s2 I2 => ⟨_, H1, I2, q1⟩) hf
noncomputable def tPar (i j : Nat) (ta : TA) : TS := fun D σ H => ta σ H fun vs H1 => ∃ v w, vs = [v, w] ∧ D.nx ((σ.set i (some v)).set j (some w)) H1
theorem ps_par {i j : Nat} {x y : Str} {a b : Expr} {ta : TA} {px py pt : Pos} {kt k2 pt2} (hc : X.calm = true) (hN : X.N.Nodup) (hi : X.N[i]? = some x) (hj : X.N[j]? = some y) (hij : i ≠ j)
    (hx : X.env.scope.names.lookup x = some .local) (hy : X.env.scope.names.lookup y = some .local) (ha : PA X [a, b] ta)
    (hw : swappedStores [.Tuple [.Name x px, .Name y py] kt pt] (.Tuple [a, b] k2 pt2) X.env = pure (some [x, y]))
    (hs : swapsWithSole [.Tuple [.Name x px, .Name y py] kt pt] (.Tuple [a, b] k2 pt2) pos.line X.env = pure false := by rfl) :
    PS X (.Assign [.Tuple [.Name x px, .Name y py] kt pt] (.Tuple [a, b] k2 pt2) pos) (tPar i j ta) := by
  intro pins s σ H D I h
  rw [exec_Assign_arm]
  refine wpAny_bind (wpAny_standAt ?_)
  rw [hs]
  refine wpAny_bind (wpAny_pure ?_)
  rw [if_neg (by decide)]
  refine wpAny_bind (Tuple_ (thn (ha _ pins s σ H _ I h) fun us s1 ⟨vs, H1, I1, r1, q1⟩ => ?_))
  obtain ⟨v, w, e1, q1⟩ := q1
  subst e1
  obtain ⟨u1, u2, rfl, rv, rw'⟩ : ∃ u1 u2, us = [u1, u2] ∧ RelV v u1 ∧ RelV w u2 := by
    cases r1 with
    | cons p q =>
      cases q with
      | cons p' q' =>
        cases q'
        exact ⟨_, _, rfl, p, p'⟩
  refine wpAny_newObj_type ?_ (by show 2 ≤ sizeLine; decide)
  have I2 : Inv X pins σ H1 { s1 with heap := s1.heap.push { cls := .type "tuple", data := .seq [u1, u2].toArray } } := I1.kept (t' := s1.toks) fun b o e => Heap.get?_push_of_some _ e
  rw [hw]
  refine wpAny_bind (wpAny_pure ?_)
  show wpAny (model X.prog X.w) X.A (do rule "assign.swapped-stores"; let items ← unpackItems (.ref s1.heap.objs.size) 2 none; assignInOrder [fun v => bindName X.env y v, fun v => bindName X.env x v] items.reverse; pure Flow.next) _ _ _
  refine wpAny_bind (wpAny_rule (wpAny_bind (unpackItems_tuple (items := #[u1, u2]) (I.ok.hd hc) (IsTup.new s1.heap _) fun h' hx' => ?_)))
  have I3 := I2.kept (h' := h') (t' := s1.toks) fun b o e => hx' b o (Nat.ne_of_lt (Heap.lt_size e)) e
  show wpAny _ _ (assignInOrder [fun v => bindName X.env y v, fun v => bindName X.env x v] [u2, u1] >>= fun _ => pure Flow.next) _ _ _
  refine wpAny_bind (assignInOrder_cons (wpAny_bindName (store_ok I3 hN hj (.inl hy) rw' (fun s2 I4 => ?_) (.inr hy))))
  refine assignInOrder_cons (wpAny_bindName (store_ok I4 hN hi (.inl hx) rv (fun s3 I5 => assignInOrder_nil (wpAny_pure ?_)) (.inr hx)))
  rw [List.set_comm _ _ (Ne.symm hij)] at I5
  exact ⟨_, H1, I5, q1⟩
noncomputable def tAug (i : Nat) (te : TE) (ti : TIp) : TS := fun D σ H => ∃ x, σ[i]? = some (some x) ∧ te σ H fun y H1 => ti x y H1 fun z H2 => D.nx (σ.set i (some z)) H2
theorem ps_aug {i : Nat} {x : Str} {e : Expr} {te : TE} {op : Operator} {ti : TIp} {pos' : Pos} (hN : X.N.Nodup) (hi : X.N[i]? = some x) (hx : Loc X.env.scope x) (he : PE X e te) (ho : PIp X op ti) (hf : X.fn x = true ∨ X.env.scope.names.lookup x = some .local := by first | exact .inl rfl | exact .inr rfl | assumption) :
    PS X (.AugAssign (.Name x pos') op e pos) (tAug i te ti) := by
  intro pins s σ H D I h
  obtain ⟨v, e1, h⟩ := h
  obtain ⟨m, hn, hl⟩ := I.loc
  have vis : Vis X.env.scope x := by rcases hx with k | k; exact .inl k; exact .inr (.inl k)
  obtain ⟨u, r, l⟩ := hl i x v hi e1 vis
  refine wpAny_AugAssign_Name ?_
  have go : wpAny (model X.prog X.w) X.A (eval e X.env) (fun w s₂ => wpAny (model X.prog X.w) X.A (inplaceOp op u w) (fun r s₃ => wpAny (model X.prog X.w) X.A (storeName X.env x r) (fun _ => SP X pins D .next) X.xe s₃) X.xe s₂) X.xe s := by
    refine thn (he pins s σ H _ I h) fun w s1 ⟨y, H1, I1, r1, q1⟩ => ?_
    refine thn (ho pins s1 σ H1 v y u w _ I1 r r1 q1) fun z s2 ⟨zv, H2, I2, r2, q2⟩ => ?_
    exact store_ok I2 hN hi hx r2 (fun s3 I3 => ⟨_, H2, I3, q2⟩) hf
  rcases l with ⟨hk, hm⟩ | ⟨hk, c, hc, hcell⟩
  · exact wpAny_loadName_local I.ok.kind hk hn hm go
  · rcases hk with hk | hk
    · exact wpAny_loadName_cell I.ok.kind hk hc hcell go
    · rcases hx with k | k
      · have : X.env.scope.names.lookup x = some .free := hk
        rw [k] at this; cases this
      · have : X.env.scope.names.lookup x = some .free := hk
        rw [k] at this; cases this
noncomputable def ipI (f : Int → Int → Int) : TIp := fun x y H Q => ∃ i j, x = .int i ∧ y = .int j ∧ Q (.int (f i j)) H
theorem ip_add : PIp X .Add (ipI fun i j => i + j) := by
  intro pins s σ H x y v u Q I r1 r2 h
  obtain ⟨i, j, e1, e2, q⟩ := h
  subst e1; subst e2
  obtain ⟨t, rfl⟩ := r1
  obtain ⟨t', rfl⟩ := r2
  exact iadd_int ⟨.int _, H, I.tok _, ⟨_, rfl⟩, q⟩
end
section
variable {X : Cx} {pos : Pos}
noncomputable def tWhile (c : TT) (tb : TS) : TS := fun D σ H => ∃ W : Nat → St → Hp → Prop, (∃ m, W m σ H) ∧ ∀ m σ H, W m σ H →
  c σ H fun b H1 => if b = true then ∃ N : St → Hp → Prop, (∀ σ' H', N σ' H' → ∃ m', m' < m ∧ W m' σ' H') ∧ tb { D with nx := N, ct := N, bk := D.nx } σ H1 else D.nx σ H1
theorem ps_while {c : Expr} {body : List Stmt} {tc : TT} {tb : TS} (hp : PassesOwn (model X.prog X.w) X.A X.env X.xe) (hc : PT X c tc) (hb : PSs X body tb) : PS X (.While c body [] pos) (tWhile tc tb) := by
  intro pins s σ H D I h
  obtain ⟨W, ⟨m0, w0⟩, turn⟩ := h
  refine wpAny_While (codeAny_whileLoop (fun n s' => ∃ σ' H', Inv X pins σ' H' s' ∧ W n σ' H') ?_ m0 ⟨σ, H, I, w0⟩)
  rintro n s1 ⟨σ1, H1, I1, w1⟩
  refine wpAny_passesOwn hp (thn (hc pins s1 σ1 H1 _ I1 (turn n σ1 H1 w1)) fun b s2 ⟨H2, I2, q2⟩ => ?_)
  cases b with
  | true =>
    obtain ⟨N, hN, q2⟩ := q2
    rw [if_pos rfl]
    refine wpAny_passesOwn hp (thn (hb pins s2 σ1 H2 _ I2 q2) fun f s3 q3 => ?_)
    cases f with
    | next =>
      obtain ⟨σ3, H3, I3, n3⟩ := q3
      obtain ⟨m', hm, w3⟩ := hN σ3 H3 n3
      exact ⟨m', hm, σ3, H3, I3, w3⟩
    | cont =>
      obtain ⟨σ3, H3, I3, n3⟩ := q3
      obtain ⟨m', hm, w3⟩ := hN σ3 H3 n3
      exact ⟨m', hm, σ3, H3, I3, w3⟩
    | brk => exact q3
    | ret v => exact q3
  | false =>
    rw [if_neg Bool.false_ne_true]
    exact wpAny_execs_nil ⟨σ1, H2, I2, q2⟩
end
structure It where
  go : Nat → Hp → Prop
  yld : Nat → Hp → V → Hp → Prop
  stop : Nat → Hp → Prop
noncomputable def FpOk (X : Cx) (pins : List (Addr × Obj)) (H : Hp) (b : Addr) : Prop :=
  H b = none ∧ b ≠ X.env.locals ∧ b ∉ X.fs ∧ (b ∈ X.ex ∨ X.s₀.heap.objs.size ≤ b) ∧ (∀ x c, X.env.cells.lookup x = some c → c ≠ b) ∧ ∀ p ∈ X.pn ++ pins, p.1 ≠ b
theorem Inv.fpOk {X : Cx} {pins : List (Addr × Obj)} {σ : St} {H H' : Hp} {s : Shared} {b : Addr} (I : Inv X pins σ H s) (hb : s.heap.objs.size ≤ b) (hn : H' b = none) : FpOk X pins H' b := by
  refine ⟨hn, Nat.ne_of_gt (Nat.lt_of_lt_of_le I.lt hb), I.nofs hb, .inr (Nat.le_trans I.sz hb), fun x c e z => ?_, fun p hp z => ?_⟩
  · obtain ⟨v, q⟩ := I.cell x c e
    exact absurd (Nat.lt_of_lt_of_le q.lt (by rw [z]; exact hb)) (Nat.lt_irrefl _)
  · exact absurd (Nat.lt_of_lt_of_le (Heap.lt_size (I.pin p hp).1) (by rw [z]; exact hb)) (Nat.lt_irrefl _)
structure Turn (P : Program) (w : World) (K : PySem.W.Frag) (tg : Expr) (J : It) (fp : List Addr) (it : Addr) (tn : Nat → Heap → Prop) : Prop where
  mem : it ∈ fp
  obj : ∀ i h, tn i h → ∀ b ∈ fp, ∃ o, h.get? b = some o ∧ ∀ v, o.data ≠ .cell v
  keep : ∀ i h h', tn i h → (∀ b ∈ fp, ∀ o, h.get? b = some o → h'.get? b = some o) → tn i h'
  item : ∀ (X : Cx), X.prog = P → X.w = w → X.K = K → X.calm = true → ∀ (i : Nat) (pins : List (Addr × Obj)) (s : Shared) (σ : St) (H : Hp) (E : Value → Shared → Prop), Inv X pins σ H s → (∀ b ∈ fp, FpOk X pins H b) → tn i s.heap → J.go i H →
    wpAny (model P w) X.A (pyNext (.ref it)) (fun r s1 => ∃ u, r = some u ∧
      wpAny (model P w) X.A (letOwnedTupleGo tg (.ref it) u) (fun _ s2 => ∃ x H', Inv X pins σ H' s2 ∧ RelV x u ∧ J.yld i H x H' ∧ tn (i + 1) s2.heap ∧ ∀ b ∈ fp, H' b = none) E s1) E s
  done : ∀ (X : Cx), X.prog = P → X.w = w → X.K = K → X.calm = true → ∀ (i : Nat) (pins : List (Addr × Obj)) (s : Shared) (σ : St) (H : Hp) (E : Value → Shared → Prop), Inv X pins σ H s → (∀ b ∈ fp, FpOk X pins H b) → tn i s.heap → J.stop i H →
    wpAny (model P w) X.A (pyNext (.ref it)) (fun r s1 => r = none ∧ Inv X pins σ H s1) E s
  self : ∀ (A : Around) (i : Nat) (s : Shared) (Q : Value → Shared → Prop) (E : Value → Shared → Prop), tn i s.heap → Q (.ref it) s → wpAny (model P w) A (pyIter (.ref it)) Q E s
noncomputable abbrev TI := St → Hp → (It → Hp → Prop) → Prop
noncomputable def PIE (X : Cx) (pins : List (Addr × Obj)) (σ : St) (tg : Expr) (R : It → Hp → Prop) (itv : Value) (s2 : Shared) : Prop :=
  ∃ (it : Addr) (fp : List Addr) (tn : Nat → Heap → Prop) (J : It) (H' : Hp), itv = .ref it ∧ Inv X pins σ H' s2 ∧ Turn X.prog X.w X.K tg J fp it tn ∧ tn 0 s2.heap ∧ (∀ b ∈ fp, FpOk X pins H' b) ∧ R J H'
noncomputable def PI (X : Cx) (tg iter : Expr) (wi : TI) : Prop :=
  ∀ (pins : List (Addr × Obj)) (s : Shared) (σ : St) (H : Hp) (R : It → Hp → Prop), Inv X pins σ H s → wi σ H R →
    wpAny (model X.prog X.w) X.A (eval iter X.env) (fun v s1 => wpAny (model X.prog X.w) X.A (pyIter v) (PIE X pins σ tg R) X.xe s1) X.xe s
theorem go_of {M : Model} {A : Around} {E : Value → Shared → Prop} {s : Shared} {tg : Expr} {it : Addr} {u : Value} {o : Obj} {n : String} {vs : Array Value} {Q : Unit → Shared → Prop} (ho : s.heap.get? it = some o) (hc : o.cls = .type n) (hd : o.data = .fields vs)
    (hn : ["enumerate", "zip", "dict_itemiterator", "dict_reverseitemiterator", "odict_iterator", "itertools.zip_longest", "itertools.pairwise"].contains n = false) (hQ : Q () s) : wpAny M A (letOwnedTupleGo tg (.ref it) u) Q E s := by
  unfold letOwnedTupleGo
  cases tg <;> first
    | exact wpAny_pure hQ
    | (cases u <;> first
        | exact wpAny_pure hQ
        | (refine wpAny_bind (wpAny_load ho ?_)
           rw [hc, hd]
           show wpAny M A (if (["enumerate", "zip", "dict_itemiterator", "dict_reverseitemiterator", "odict_iterator", "itertools.zip_longest", "itertools.pairwise"].contains n && vs[0]? == some (rawInt _)) = true then _ else _) Q E s
           rw [if_neg (by intro h; rw [hn, Bool.false_and] at h; cases h)]
           exact wpAny_pure hQ))
noncomputable def Itl (K : PySem.W.Frag) (a : Addr) : It :=
  ⟨fun i H => ∃ xs x, SqL K H a xs ∧ xs[i]? = some x, fun i H x H' => H' = H ∧ ∀ xs, SqL K H a xs → xs[i]? = some x, fun i H => ∃ xs, SqL K H a xs ∧ xs.length ≤ i⟩
noncomputable def Itt (K : PySem.W.Frag) (a : Addr) : It :=
  ⟨fun i H => ∃ xs x, SqT K H a xs ∧ xs[i]? = some x, fun i H x H' => H' = H ∧ ∀ xs, SqT K H a xs → xs[i]? = some x, fun i H => ∃ xs, SqT K H a xs ∧ xs.length ≤ i⟩
noncomputable def Itr (lo : Int) (n : Nat) : It := ⟨fun i _ => i < n, fun i H x H' => H' = H ∧ x = .int (lo + i), fun i _ => n ≤ i⟩
theorem turn_list {P : Program} {w : World} {K : PySem.W.Frag} {tg : Expr} (a it : Addr) : Turn P w K tg (Itl K a) [it] it (fun i h => h.IsListIter it a i) where
  mem := by simp
  obj := fun i h st b hb => by
    have e : b = it := by simpa using hb
    subst e
    obtain ⟨o, e, c, d⟩ := st
    exact ⟨o, e, fun v z => by rw [d] at z; cases z⟩
  keep := fun i h h' st k => st.at fun o e => k it (by simp) o e
  item := by
    intro X hP hw hK hc i pins s σ H E I hf st hg
    subst hP hw hK
    obtain ⟨xs, x, hq, hx⟩ := hg
    obtain ⟨its, rv, p, hz⟩ := I.list hq
    obtain ⟨u, hu, ru⟩ := rv.get hx
    obtain ⟨f0, f1, f2, f3, f4, f5⟩ := hf it (by simp)
    refine wpAny_pyNext_list_item st p.isList (x := u) (by simpa using hu) fun h' st' sb => ?_
    have I1 : Inv X pins σ H { s with heap := h' } := I.turned (t' := s.toks) (fun b o hb e => (sb.2 b hb).trans e) f0 f1 f3 f4 f5
    obtain ⟨o, e, c, d⟩ := id st'
    exact ⟨u, rfl, go_of (s := { s with heap := h' }) e c d (by decide) ⟨x, H, I1, ru, ⟨rfl, fun ys hy => by rw [I.list_inj hy hq]; exact hx⟩, st', fun b hb => (hf b hb).1⟩⟩
  done := by
    intro X hP hw hK hc i pins s σ H E I hf st hg
    subst hP hw hK
    obtain ⟨xs, hq, hx⟩ := hg
    obtain ⟨its, rv, p, hz⟩ := I.list hq
    obtain ⟨f0, f1, f2, f3, f4, f5⟩ := hf it (by simp)
    have hl := rv.length
    exact wpAny_pyNext_list_end (I.ok.hd hc) st p.isList (by simp; omega) fun h' eb => ⟨rfl, I.turned (t' := s.toks) (fun b o hb e => eb b o hb e) f0 f1 f3 f4 f5⟩
  self := fun _ _ _ _ _ st h => wpAny_pyIter_listiter st h
theorem turn_tuple {P : Program} {w : World} {K : PySem.W.Frag} {tg : Expr} (a it : Addr) : Turn P w K tg (Itt K a) [it] it (fun i h => h.IsTupleIter it a i) where
  mem := by simp
  obj := fun i h st b hb => by
    have e : b = it := by simpa using hb
    subst e
    obtain ⟨o, e, c, d⟩ := st
    exact ⟨o, e, fun v z => by rw [d] at z; cases z⟩
  keep := fun i h h' st k => st.at fun o e => k it (by simp) o e
  item := by
    intro X hP hw hK hc i pins s σ H E I hf st hg
    subst hP hw hK
    obtain ⟨xs, x, hq, hx⟩ := hg
    obtain ⟨its, rv, p, hz⟩ := I.tuple hq
    obtain ⟨u, hu, ru⟩ := rv.get hx
    obtain ⟨f0, f1, f2, f3, f4, f5⟩ := hf it (by simp)
    refine wpAny_pyNext_tuple_item st (show s.heap.IsTuple a its.toArray from p) (x := u) (by simpa using hu) fun h' st' sb => ?_
    have I1 : Inv X pins σ H { s with heap := h' } := I.turned (t' := s.toks) (fun b o hb e => (sb.2 b hb).trans e) f0 f1 f3 f4 f5
    obtain ⟨o, e, c, d⟩ := id st'
    exact ⟨u, rfl, go_of (s := { s with heap := h' }) e c d (by decide) ⟨x, H, I1, ru, ⟨rfl, fun ys hy => by rw [I.tuple_inj hy hq]; exact hx⟩, st', fun b hb => (hf b hb).1⟩⟩
  done := by
    intro X hP hw hK hc i pins s σ H E I hf st hg
    subst hP hw hK
    obtain ⟨xs, hq, hx⟩ := hg
    obtain ⟨its, rv, p, hz⟩ := I.tuple hq
    obtain ⟨f0, f1, f2, f3, f4, f5⟩ := hf it (by simp)
    have hl := rv.length
    exact wpAny_pyNext_tuple_end (I.ok.hd hc) st (show s.heap.IsTuple a its.toArray from p) (by simp; omega) fun h' eb => ⟨rfl, I.turned (t' := s.toks) (fun b o hb e => eb b o hb e) f0 f1 f3 f4 f5⟩
  self := fun _ _ _ _ _ st h => wpAny_pyIter_tupleiter st h
theorem turn_range {P : Program} {w : World} {K : PySem.W.Frag} {tg : Expr} (it : Addr) (lo : Int) (n : Nat) : Turn P w K tg (Itr lo n) [it] it (fun i h => IsRangeIter h it (lo + (i : Nat) * 1) ((n : Int) - (i : Nat)) 1) where
  mem := by simp
  obj := fun i h st b hb => by
    have e : b = it := by simpa using hb
    subst e
    exact ⟨_, st, fun v z => by
      have z' : Data.fields _ = Data.cell v := z
      cases z'⟩
  keep := fun i h h' st k => k it (by simp) _ st
  item := by
    intro X hP hw hK hc i pins s σ H E I hf st hg
    subst hP hw hK
    obtain ⟨f0, f1, f2, f3, f4, f5⟩ := hf it (by simp)
    have W := Walks.range (prog := X.prog) (w := X.w) (I.ok.hd hc) it lo 1 n
    refine W.item i s _ _ hg st fun v h' tk hv st' kk => ?_
    obtain ⟨t, rfl⟩ := hv
    have I1 : Inv X pins σ H { s with heap := h', toks := tk } := I.turned (fun b o hb e => kk b o (by simpa using hb) e) f0 f1 f3 f4 f5
    refine ⟨_, rfl, go_of (s := { s with heap := h', toks := tk }) (n := "range_iterator") st' rfl rfl (by decide) ⟨.int (lo + i), H, I1, ⟨t, ?_⟩, ⟨rfl, rfl⟩, st', fun b hb => (hf b hb).1⟩⟩
    rw [Int.mul_one]
  done := by
    intro X hP hw hK hc i pins s σ H E I hf st hg
    subst hP hw hK
    obtain ⟨f0, f1, f2, f3, f4, f5⟩ := hf it (by simp)
    exact wpAny_pyNext_range_end (I.ok.hd hc) st (by have : n ≤ i := hg; omega) fun h' eb => ⟨rfl, I.turned (t' := s.toks) (fun b o hb e => eb b o hb e) f0 f1 f3 f4 f5⟩
  self := fun _ _ _ _ _ st h => wpAny_pyIter_rangeiter st h
end L2
namespace L2
open PySem PySem.Spec PyProof.Rows
section
variable {X : Cx} {tg : Expr}
noncomputable def iList (K : PySem.W.Frag) (tl : TE) : TI := fun σ H R => tl σ H fun x H1 => ∃ a, x = .ref a ∧ (∃ xs, SqL K H1 a xs) ∧ R (Itl K a) H1
noncomputable def iTup (K : PySem.W.Frag) (tl : TE) : TI := fun σ H R => tl σ H fun x H1 => ∃ a, x = .ref a ∧ (∃ xs, SqT K H1 a xs) ∧ R (Itt K a) H1
theorem pi_list {l : Expr} {tl : TE} (hl : PE X l tl) : PI X tg l (iList X.K tl) := by
  intro pins s σ H R I h
  refine thn (hl pins s σ H _ I h) fun v s1 ⟨x, H1, I1, r1, q1⟩ => ?_
  obtain ⟨a, e, ⟨xs, hq⟩, q⟩ := q1
  subst e
  cases r1
  obtain ⟨its, rv, p, hz⟩ := I1.list hq
  refine wpAny_pyIter_list p.isList ?_
  refine ⟨s1.heap.objs.size, [s1.heap.objs.size], _, _, H1, rfl, I1.kept (t' := s1.toks) fun b o e => Heap.get?_push_of_some _ e, turn_list a _, ⟨_, Heap.get?_push_size _ rfl, rfl, rfl⟩, fun b hb => ?_, q⟩
  have e : b = s1.heap.objs.size := by simpa using hb
  subst e
  exact I1.fpOk (Nat.le_refl _) (I1.hok.fresh (Nat.le_refl _))
theorem pi_tup {l : Expr} {tl : TE} (hl : PE X l tl) : PI X tg l (iTup X.K tl) := by
  intro pins s σ H R I h
  refine thn (hl pins s σ H _ I h) fun v s1 ⟨x, H1, I1, r1, q1⟩ => ?_
  obtain ⟨a, e, ⟨xs, hq⟩, q⟩ := q1
  subst e
  cases r1
  obtain ⟨its, rv, p, hz⟩ := I1.tuple hq
  refine wpAny_pyIter_tuple (show s1.heap.IsTuple a its.toArray from p) ?_
  refine ⟨s1.heap.objs.size, [s1.heap.objs.size], _, _, H1, rfl, I1.kept (t' := s1.toks) fun b o e => Heap.get?_push_of_some _ e, turn_tuple a _, ⟨_, Heap.get?_push_size _ rfl, rfl, rfl⟩, fun b hb => ?_, q⟩
  have e : b = s1.heap.objs.size := by simpa using hb
  subst e
  exact I1.fpOk (Nat.le_refl _) (I1.hok.fresh (Nat.le_refl _))
theorem range_it {pins : List (Addr × Obj)} {σ : St} {H : Hp} {s : Shared} {R : It → Hp → Prop} {E : Value → Shared → Prop} {lo hi : Int} {t u v : Tok} {tk : Nat} (I : Inv X pins σ H s) (h1 : -(2 ^ 62) ≤ lo) (h2 : lo < 2 ^ 62) (h3 : -(2 ^ 62) ≤ hi) (h4 : hi < 2 ^ 62)
    (q : R (Itr lo (hi - lo).toNat) H) : wpAny (model X.prog X.w) X.A (pyIter (.ref s.heap.objs.size)) (PIE X pins σ tg R) E { s with heap := s.heap.push { cls := .type "range", data := .fields #[.int lo t, .int hi u, .int 1 v] }, toks := tk } := by
  refine wpAny_pyIter_range (IsRange.new ..) (small_one h1 h2 h3 h4) ?_
  have I1 : Inv X pins σ H { s with heap := s.heap.push { cls := .type "range", data := .fields #[.int lo t, .int hi u, .int 1 v] }, toks := tk } := I.kept fun b o e => Heap.get?_push_of_some _ e
  refine ⟨(s.heap.push { cls := .type "range", data := .fields #[.int lo t, .int hi u, .int 1 v] }).objs.size, [(s.heap.push { cls := .type "range", data := .fields #[.int lo t, .int hi u, .int 1 v] }).objs.size], _, _, H, rfl,
    I1.kept (t' := tk) fun b o e => Heap.get?_push_of_some _ e, turn_range _ lo (hi - lo).toNat, ?_, fun b hb => ?_, q⟩
  · have e1 : lo + ((0 : Nat) : Int) * 1 = lo := by simp
    have e2 : (((hi - lo).toNat : Nat) : Int) - ((0 : Nat) : Int) = Builtin.Range.rangeSize lo hi 1 := by rw [rangeSize_one]; split <;> omega
    show IsRangeIter _ _ (lo + ((0 : Nat) : Int) * 1) ((((hi - lo).toNat : Nat) : Int) - ((0 : Nat) : Int)) 1
    rw [e1, e2]
    exact Heap.get?_push_size _ rfl
  · have e : b = (s.heap.push { cls := .type "range", data := .fields #[.int lo t, .int hi u, .int 1 v] }).objs.size := by simpa using hb
    subst e
    exact I1.fpOk (Nat.le_refl _) (I1.hok.fresh (Nat.le_refl _))
noncomputable def iRng1 (ta : TA) : TI := fun σ H R => ta σ H fun vs H1 => ∃ j : Int, vs = [.int j] ∧ -(2 ^ 62) ≤ j ∧ j < 2 ^ 62 ∧ R (Itr 0 j.toNat) H1
noncomputable def iRng2 (ta : TA) : TI := fun σ H R => ta σ H fun vs H1 => ∃ i j : Int, vs = [.int i, .int j] ∧ (-(2 ^ 62) ≤ i ∧ i < 2 ^ 62 ∧ -(2 ^ 62) ≤ j ∧ j < 2 ^ 62) ∧ R (Itr i (j - i).toNat) H1
theorem pi_range1 {a : Expr} {ta : TA} {p pos : Pos} (hg : Gl X "range") (hm : X.mg "range" = none) (ha : PA X [a] ta) (hs : starEach [a] X.env = [(false, eval a X.env)] := by rfl) : PI X tg (.Call (.Name "range" p) [a] [] pos) (iRng1 ta) := by
  intro pins s σ H R I h
  refine Call_ (ld_blt I hg hm boot_range (PyProof.Rows.callWith_type1 (thn (ha pos pins s σ H _ I h) fun us s1 ⟨vs, H1, I1, r1, q1⟩ => ?_) hs rfl))
  obtain ⟨j, e, q1, q2, q⟩ := q1
  subst e
  cases r1 with
  | cons r rr =>
    cases rr
    obtain ⟨t, rfl⟩ := r
    exact call_range_1 (range_it I1 (by omega) (by omega) q1 q2 (by simpa using q))
noncomputable def tFor (wi : TI) (g : TG) (tb : TS) : TS := fun D σ H => wi σ H fun J H1 => ∃ W : Nat → Nat → St → Hp → Prop, (∃ m, W 0 m σ H1) ∧ ∀ i m σ H, W i m σ H →
  (J.stop i H ∧ D.nx σ H) ∨ (J.go i H ∧ ∃ N : St → Hp → Prop, (∀ σ' H', N σ' H' → ∃ m', m' < m ∧ W (i + 1) m' σ' H') ∧ ∀ x H', J.yld i H x H' → g x σ H' fun σ2 H2 => tb { D with nx := N, ct := N, bk := D.nx } σ2 H2)
noncomputable def pinsAt (fp : List Addr) (h : Heap) : List (Addr × Obj) := fp.filterMap fun b => (h.get? b).map fun o => (b, o)
theorem mem_pinsAt {fp : List Addr} {h : Heap} {b : Addr} {o : Obj} (hb : b ∈ fp) (e : h.get? b = some o) : (b, o) ∈ pinsAt fp h := List.mem_filterMap.mpr ⟨b, hb, by rw [e]; rfl⟩
theorem of_pinsAt {fp : List Addr} {h : Heap} {p : Addr × Obj} (hp : p ∈ pinsAt fp h) : p.1 ∈ fp ∧ h.get? p.1 = some p.2 := by
  obtain ⟨b, hb, e⟩ := List.mem_filterMap.mp hp
  cases q : h.get? b with
  | none => rw [q] at e; cases e
  | some o =>
    rw [q] at e
    have e' : (b, o) = p := Option.some.inj e
    subst e'
    exact ⟨hb, q⟩
theorem Inv.pinned {pins : List (Addr × Obj)} {σ : St} {H : Hp} {s : Shared} {fp : List Addr} (I : Inv X pins σ H s) (hf : ∀ b ∈ fp, FpOk X pins H b) (ho : ∀ b ∈ fp, ∃ o, s.heap.get? b = some o ∧ ∀ v, o.data ≠ .cell v) : Inv X (pins ++ pinsAt fp s.heap) σ H s :=
  I.pins_of fun p hp => (List.mem_append.mp hp).elim (fun z => I.pin p (List.mem_append_right _ z)) fun z => by
    obtain ⟨hb, e⟩ := of_pinsAt z
    obtain ⟨f0, f1, f2, _⟩ := hf p.1 hb
    obtain ⟨o, e', d⟩ := ho p.1 hb
    rw [e] at e'; cases e'
    exact ⟨e, f0, f1, f2, d⟩
theorem Inv.unpinned {pins pl : List (Addr × Obj)} {σ : St} {H : Hp} {s : Shared} (I : Inv X (pins ++ pl) σ H s) : Inv X pins σ H s := I.pins_of fun p hp => I.pin p (List.mem_append_right _ (List.mem_append_left _ hp))
theorem ps_for {iter : Expr} {body : List Stmt} {wi : TI} {g : TG} {tb : TS} {pos : Pos} (hp : PassesOwn (model X.prog X.w) X.A X.env X.xe) (hc : X.calm = true) (hi : PI X tg iter wi) (hg : PG X tg g) (hb : PSs X body tb)
    (hs : ∀ x, foldedSetIterable iter X.env x = pure x := by intro _; rfl) : PS X (.For tg iter body [] pos) (tFor wi g tb) := by
  intro pins s σ H D I h
  refine wpAny_For (thn (hi pins s σ H _ I h) fun v s1 h1 => thn h1 fun itv s2 h2 => ?_) hs
  obtain ⟨it, fp, tn, J, H2, e, I2, T, st2, f2, W, ⟨m0, w0⟩, turn⟩ := h2
  subst e
  have stat : ∀ {H' : Hp}, (∀ b ∈ fp, H' b = none) → ∀ b ∈ fp, FpOk X pins H' b := fun hn b hb => ⟨hn b hb, (f2 b hb).2⟩
  refine codeAny_forLoop_any (fun n s' => ∃ i σ' H', Inv X pins σ' H' s' ∧ tn i s'.heap ∧ (∀ b ∈ fp, H' b = none) ∧ W i n σ' H') ?_ m0 ⟨0, σ, H2, I2, st2, fun b hb => (f2 b hb).1, w0⟩
  rintro n s3 ⟨i, σ3, H3, I3, st3, fr3, w3⟩
  rcases turn i n σ3 H3 w3 with ⟨stop, qn⟩ | ⟨go, N, hN, step⟩
  · refine wpAny_passesOwn hp (thn (T.done X rfl rfl rfl hc i pins s3 σ3 H3 X.xe I3 (stat fr3) st3 stop) fun r s4 ⟨hr, I4⟩ => ?_)
    subst hr
    exact wpAny_execs_nil ⟨σ3, H3, I4, qn⟩
  · refine wpAny_passesOwn hp (thn (T.item X rfl rfl rfl hc i pins s3 σ3 H3 X.xe I3 (stat fr3) st3 go) fun r s4 ⟨u, hr, h4⟩ => ?_)
    subst hr
    refine wpAny_passesOwn hp (thn h4 fun _ s5 ⟨x, H5, I5, r5, y5, st5, fr5⟩ => ?_)
    have I5' := I5.pinned (stat fr5) (T.obj _ _ st5)
    refine wpAny_passesOwn hp (thn (hg _ s5 σ3 H5 x u _ I5' r5 (step x H5 y5)) fun _ s6 ⟨σ6, H6, I6, q6⟩ => ?_)
    refine wpAny_passesOwn hp (thn (hb _ s6 σ6 H6 _ I6 q6) fun f s7 q7 => ?_)
    have again : ∀ {σ7 : St} {H7 : Hp}, Inv X (pins ++ pinsAt fp s5.heap) σ7 H7 s7 → N σ7 H7 → ∃ m, m < n ∧ ∃ i σ' H', Inv X pins σ' H' s7 ∧ tn i s7.heap ∧ (∀ b ∈ fp, H' b = none) ∧ W i m σ' H' := fun {σ7 H7} I7 n7 => by
      obtain ⟨m', hm, w7⟩ := hN σ7 H7 n7
      refine ⟨m', hm, i + 1, σ7, H7, I7.unpinned, T.keep _ _ _ st5 fun b hb o e => (I7.pin (b, o) (List.mem_append_right _ (List.mem_append_right _ (mem_pinsAt hb e)))).1, fun b hb => ?_, w7⟩
      obtain ⟨o, e, d⟩ := T.obj _ _ st5 b hb
      exact (I7.pin (b, o) (List.mem_append_right _ (List.mem_append_right _ (mem_pinsAt hb e)))).2.1
    cases f with
    | next => obtain ⟨σ7, H7, I7, n7⟩ := q7; exact again I7 n7
    | cont => obtain ⟨σ7, H7, I7, n7⟩ := q7; exact again I7 n7
    | brk => obtain ⟨σ7, H7, I7, q7⟩ := q7; exact ⟨σ7, H7, I7.unpinned, q7⟩
    | ret v => obtain ⟨x7, σ7, H7, I7, r7, q7⟩ := q7; exact ⟨x7, σ7, H7, I7.unpinned, r7, q7⟩
end
end L2
namespace L2
open PySem PySem.Spec PyProof.Rows
noncomputable abbrev R2 := V → V → Hp → VK → Prop
noncomputable def OpR (X : Cx) (f : Value → Value → Sem Value) (r : R2) : Prop :=
  ∀ (pins : List (Addr × Obj)) (s : Shared) (σ : St) (H : Hp) (x y : V) (v u : Value) (Q : VK), Inv X pins σ H s → RelV x v → RelV y u → r x y H Q →
    wpAny (model X.prog X.w) X.A (f v u) (EP X pins σ Q) X.xe s
noncomputable def UnR (X : Cx) (f : Value → Sem Value) (r : V → Hp → VK → Prop) : Prop :=
  ∀ (pins : List (Addr × Obj)) (s : Shared) (σ : St) (H : Hp) (x : V) (v : Value) (Q : VK), Inv X pins σ H s → RelV x v → r x H Q →
    wpAny (model X.prog X.w) X.A (f v) (EP X pins σ Q) X.xe s
noncomputable def CallR (X : Cx) (f : Value) (r : List V → Hp → VK → Prop) : Prop :=
  ∀ (pins : List (Addr × Obj)) (s : Shared) (σ : St) (H : Hp) (xs : List V) (us : List Value) (Q : VK), Inv X pins σ H s → Vals xs us → r xs H Q →
    wpAny (model X.prog X.w) X.A (call f us) (EP X pins σ Q) X.xe s
noncomputable def tOp (r : R2) (ta tb : TE) : TE := fun σ H Q => ta σ H fun x H1 => tb σ H1 fun y H2 => r x y H2 Q
noncomputable def tUn (r : V → Hp → VK → Prop) (ta : TE) : TE := fun σ H Q => ta σ H fun x H1 => r x H1 Q
noncomputable def rI (C : Int → Int → Prop) (g : Int → Int → V) : R2 := fun x y H Q => ∃ i j, x = .int i ∧ y = .int j ∧ C i j ∧ Q (g i j) H
noncomputable def rI0 (g : Int → Int → V) : R2 := fun x y H Q => ∃ i j, x = .int i ∧ y = .int j ∧ Q (g i j) H
noncomputable def rU (g : Int → V) : V → Hp → VK → Prop := fun x H Q => ∃ i, x = .int i ∧ Q (g i) H
section
variable {X : Cx} {a b c : Expr} {ta tb tc : TE} {pos : Pos}
theorem binT (ha : PE X a ta) (hb : PE X b tb) {pins : List (Addr × Obj)} {s : Shared} {σ : St} {H : Hp} {R : V → V → Hp → Prop} (I : Inv X pins σ H s)
    (h : ta σ H fun x H1 => tb σ H1 fun y H2 => R x y H2) {Q : Value → Shared → Prop} {f : Value → Value → Sem Value}
    (hf : ∀ v u s2 x y H2, Inv X pins σ H2 s2 → RelV x v → RelV y u → R x y H2 → wpAny (model X.prog X.w) X.A (f v u) Q X.xe s2) :
    wpAny (model X.prog X.w) X.A (eval a X.env) (fun v s₁ => wpAny (model X.prog X.w) X.A (eval b X.env) (fun u s₂ => wpAny (model X.prog X.w) X.A (f v u) Q X.xe s₂) X.xe s₁) X.xe s := by
  refine thn (ha pins s σ H _ I h) fun v s1 ⟨x, H1, I1, r1, q1⟩ => ?_
  refine thn (hb pins s1 σ H1 _ I1 q1) fun u s2 ⟨y, H2, I2, r2, q2⟩ => ?_
  exact hf v u s2 x y H2 I2 r1 r2 q2
theorem pe_op {op : Operator} {r : R2} (ho : OpR X (binaryOp op) r) (ha : PE X a ta) (hb : PE X b tb) : PE X (.BinOp a op b pos) (tOp r ta tb) := by
  intro pins s σ H Q I h
  exact wpAny_BinOp (binT ha hb I h fun v u s2 x y H2 I2 rx ry q => ho pins s2 σ H2 x y v u Q I2 rx ry q)
theorem pe_un {op : UnaryOp} {r : V → Hp → VK → Prop} (ho : UnR X (unaryOp op) r) (ha : PE X a ta) : PE X (.UnaryOp op a pos) (tUn r ta) := by
  intro pins s σ H Q I h
  exact UnaryOp_ (thn (ha pins s σ H _ I h) fun v s1 ⟨x, H1, I1, r1, q1⟩ => ho pins s1 σ H1 x v Q I1 r1 q1)
theorem opI {f : Value → Value → Sem Value} {C : Int → Int → Prop} {g : Int → Int → Int}
    (rule : ∀ (i j : Int) (t u : Tok) (s : Shared) (Q : Value → Shared → Prop) (E : Value → Shared → Prop), C i j → Q (.int (g i j) s.toks) { s with toks := s.toks + 1 } → wpAny (model X.prog X.w) X.A (f (.int i t) (.int j u)) Q E s) :
    OpR X f (rI C fun i j => .int (g i j)) := by
  intro pins s σ H x y v u Q I rx ry h
  obtain ⟨i, j, rfl, rfl, hc, q⟩ := h
  obtain ⟨t, rfl⟩ := rx
  obtain ⟨t', rfl⟩ := ry
  exact rule i j t t' s _ _ hc ⟨.int (g i j), H, I.tok _, ⟨_, rfl⟩, q⟩
theorem opI0 {f : Value → Value → Sem Value} {g : Int → Int → Int}
    (rule : ∀ (i j : Int) (t u : Tok) (s : Shared) (Q : Value → Shared → Prop) (E : Value → Shared → Prop), Q (.int (g i j) s.toks) { s with toks := s.toks + 1 } → wpAny (model X.prog X.w) X.A (f (.int i t) (.int j u)) Q E s) :
    OpR X f (rI0 fun i j => .int (g i j)) := by
  intro pins s σ H x y v u Q I rx ry h
  obtain ⟨i, j, rfl, rfl, q⟩ := h
  obtain ⟨t, rfl⟩ := rx
  obtain ⟨t', rfl⟩ := ry
  exact rule i j t t' s _ _ ⟨.int (g i j), H, I.tok _, ⟨_, rfl⟩, q⟩
theorem opB0 {f : Value → Value → Sem Value} {g : Int → Int → Bool}
    (rule : ∀ (i j : Int) (t u : Tok) (s : Shared) (Q : Value → Shared → Prop) (E : Value → Shared → Prop), Q (.bool (g i j)) s → wpAny (model X.prog X.w) X.A (f (.int i t) (.int j u)) Q E s) :
    OpR X f (rI0 fun i j => .bl (g i j)) := by
  intro pins s σ H x y v u Q I rx ry h
  obtain ⟨i, j, rfl, rfl, q⟩ := h
  obtain ⟨t, rfl⟩ := rx
  obtain ⟨t', rfl⟩ := ry
  exact rule i j t t' s _ _ ⟨.bl (g i j), H, I, rfl, q⟩
noncomputable def CDiv (i j : Int) : Prop := 0 < j ∧ j < 1073741824
noncomputable def CPow (i j : Int) : Prop := 0 ≤ j ∧ j ≤ 1000000 ∧ i.natAbs < 2 ^ 64
noncomputable def CMul (i j : Int) : Prop := (-(2 ^ 64) < i ∧ i < 2 ^ 64) ∨ (-(2 ^ 64) < j ∧ j < 2 ^ 64)
theorem CMul.ok {i j : Int} (h : CMul i j) : IntMulOk i j := by
  rcases h with ⟨h1, h2⟩ | ⟨h1, h2⟩
  · exact .of_left (intBits_le_64 h1 h2)
  · exact .of_right (intBits_le_64 h1 h2)
theorem op_add : OpR X (binaryOp .Add) (rI0 fun i j => .int (i + j)) := opI0 fun _ _ _ _ _ _ _ q => add_int q
theorem op_sub : OpR X (binaryOp .Sub) (rI0 fun i j => .int (i - j)) := opI0 fun _ _ _ _ _ _ _ q => sub_int q
theorem op_mul : OpR X (binaryOp .Mult) (rI CMul fun i j => .int (i * j)) := opI fun _ _ _ _ _ _ _ hc q => mul_int q hc.ok
theorem op_fdiv : OpR X (binaryOp .FloorDiv) (rI CDiv fun i j => .int (i / j)) := opI fun i j _ _ _ _ _ hc q => by
  have h1 : (0 : Int) < j := hc.1
  have h2 : j < 1073741824 := hc.2
  exact floordiv_int (by omega) (by rw [Int.fdiv_eq_ediv_of_nonneg i (by omega)]; exact q) (.inl (PyProof.noPylong_small (by omega)))
theorem op_mod : OpR X (binaryOp .Mod) (rI (fun _ j => 0 < j) fun i j => .int (i % j)) := opI fun i j _ _ _ _ _ hc q => by
  have h1 : (0 : Int) < j := hc
  exact mod_int' (by omega) (by rw [Int.fmod_eq_emod_of_nonneg i (by omega)]; exact q)
theorem op_pow : OpR X (binaryOp .Pow) (rI CPow fun i j => .int (i ^ j.toNat)) := opI fun _ _ _ _ _ _ _ hc q => pow_int_small hc.1 hc.2.1 hc.2.2 q
theorem unI {f : Value → Sem Value} {g : Int → Int}
    (rule : ∀ (i : Int) (t : Tok) (s : Shared) (Q : Value → Shared → Prop) (E : Value → Shared → Prop), Q (.int (g i) s.toks) { s with toks := s.toks + 1 } → wpAny (model X.prog X.w) X.A (f (.int i t)) Q E s) :
    UnR X f (rU fun i => .int (g i)) := by
  intro pins s σ H x v Q I rx h
  obtain ⟨i, rfl, q⟩ := h
  obtain ⟨t, rfl⟩ := rx
  exact rule i t s _ _ ⟨.int (g i), H, I.tok _, ⟨_, rfl⟩, q⟩
theorem un_neg : UnR X (unaryOp .USub) (rU fun i => .int (-i)) := unI fun _ _ _ _ _ q => neg_int q
end
noncomputable def scal : V → V → Bool
  | .non, .non => true | .non, .int _ => true | .int _, .non => true | .non, .bl _ => true | .bl _, .non => true | .non, .str _ => true | .str _, .non => true
  | .int _, .int _ => true | .bl _, .bl _ => true | .str _, .str _ => true | .byt _, .byt _ => true
  | .int _, .str _ => true | .str _, .int _ => true | .bl _, .str _ => true | .str _, .bl _ => true
  | _, _ => false
noncomputable def rEq : R2 := fun x y H Q => scal x y = true ∧ Q (.bl (decide (x = y))) H
noncomputable def rNe : R2 := fun x y H Q => scal x y = true ∧ Q (.bl (!decide (x = y))) H
theorem dec_int {i j : Int} : decide (V.int i = V.int j) = (i == j) := by
  rw [Bool.eq_iff_iff]
  simp
theorem dec_bl {i j : Bool} : decide (V.bl i = V.bl j) = (i == j) := by
  rw [Bool.eq_iff_iff]
  simp
theorem dec_str {i j : Str} : decide (V.str i = V.str j) = (i == j) := by
  rw [Bool.eq_iff_iff]
  simp
theorem dec_byt {i j : Array UInt8} : decide (V.byt i = V.byt j) = (i.toList == j.toList) := by
  rw [Bool.eq_iff_iff]
  cases i
  cases j
  simp
section
variable {X : Cx} {a b c : Expr} {ta tb tc : TE} {pos : Pos}
theorem fin_bl {pins : List (Addr × Obj)} {σ : St} {H : Hp} {s : Shared} {Q : VK} {k k' : Bool} (I : Inv X pins σ H s) (q : Q (.bl k) H) (e : k = k') : EP X pins σ Q (.bool k') s := by
  subst e
  exact ⟨.bl k, H, I, rfl, q⟩
theorem op_ne : OpR X (compareOp .NotEq) rNe := by
  intro pins s σ H x y v u Q I rx ry h
  obtain ⟨hs, q⟩ := h
  cases x with
  | non =>
    cases rx
    cases y with
    | non => cases ry; exact PySem.EqNone.ne_none_none (fin_bl I q (by simp))
    | bl j => cases ry; exact PySem.EqNone.ne_none_bool (fin_bl I q (by simp))
    | int j => obtain ⟨t', rfl⟩ := ry; exact PySem.EqNone.ne_none_int (fin_bl I q (by simp))
    | str j => obtain ⟨t', rfl⟩ := ry; exact PySem.EqNone.ne_none_str (fin_bl I q (by simp))
    | _ => exact absurd (show false = true from hs) Bool.false_ne_true
  | bl i =>
    cases rx
    cases y with
    | non => cases ry; exact PySem.EqNone.ne_bool_none (fin_bl I q (by simp))
    | bl j => cases ry; exact ne_bool (fin_bl I q (congrArg not dec_bl))
    | str j => obtain ⟨t', rfl⟩ := ry; exact PySem.EqMixed.ne_bool_str (fin_bl I q (by simp))
    | _ => exact absurd (show false = true from hs) Bool.false_ne_true
  | int i =>
    obtain ⟨t, rfl⟩ := rx
    cases y with
    | non => cases ry; exact PySem.EqNone.ne_int_none (fin_bl I q (by simp))
    | int j => obtain ⟨t', rfl⟩ := ry; exact ne_int (fin_bl I q (congrArg not dec_int))
    | str j => obtain ⟨t', rfl⟩ := ry; exact PySem.EqMixed.ne_int_str (fin_bl I q (by simp))
    | _ => exact absurd (show false = true from hs) Bool.false_ne_true
  | str i =>
    obtain ⟨t, rfl⟩ := rx
    cases y with
    | non => cases ry; exact PySem.EqNone.ne_str_none (fin_bl I q (by simp))
    | bl j => cases ry; exact PySem.EqMixed.ne_str_bool (fin_bl I q (by simp))
    | int j => obtain ⟨t', rfl⟩ := ry; exact PySem.EqMixed.ne_str_int (fin_bl I q (by simp))
    | str j => obtain ⟨t', rfl⟩ := ry; exact ne_str (fin_bl I q (congrArg not dec_str))
    | _ => exact absurd (show false = true from hs) Bool.false_ne_true
  | byt i =>
    obtain ⟨t, rfl⟩ := rx
    cases y with
    | byt j => obtain ⟨t', rfl⟩ := ry; exact PySem.W.ne_bytes (fin_bl I q (congrArg not dec_byt))
    | _ => exact absurd (show false = true from hs) Bool.false_ne_true
  | _ => cases y <;> exact absurd (show false = true from hs) Bool.false_ne_true
theorem op_lt : OpR X (compareOp .Lt) (rI0 fun i j => .bl (decide (i < j))) := opB0 fun _ _ _ _ _ _ _ q => lt_int q
theorem op_le : OpR X (compareOp .LtE) (rI0 fun i j => .bl (decide (i ≤ j))) := opB0 fun _ _ _ _ _ _ _ q => le_int q
theorem op_gt : OpR X (compareOp .Gt) (rI0 fun i j => .bl (decide (j < i))) := opB0 fun _ _ _ _ _ _ _ q => gt_int q
theorem op_ge : OpR X (compareOp .GtE) (rI0 fun i j => .bl (decide (j ≤ i))) := opB0 fun _ _ _ _ _ _ _ q => ge_int q
theorem op_isN : OpR X (compareOp .Is) (fun x y H Q => y = .non ∧ Q (.bl (decide (x = .non))) H) := by
  intro pins s σ H x y v u Q I rx ry h
  obtain ⟨rfl, q⟩ := h
  cases ry
  refine is_none_gen (fin_bl I q ?_)
  cases x <;> first
    | (cases rx; rfl)
    | (obtain ⟨t, rfl⟩ := rx; rfl)
theorem op_notN : OpR X (compareOp .IsNot) (fun x y H Q => y = .non ∧ Q (.bl (!decide (x = .non))) H) := by
  intro pins s σ H x y v u Q I rx ry h
  obtain ⟨rfl, q⟩ := h
  cases ry
  refine isnot_none_gen (fin_bl I q ?_)
  cases x <;> first
    | (cases rx; rfl)
    | (obtain ⟨t, rfl⟩ := rx; rfl)
theorem nomark (b : Expr) {op : CmpOp} (h : op ≠ .In := by decide) (h2 : op ≠ .NotIn := by decide) : behindInMarks op b = false := by
  have e1 : (op == CmpOp.In) = false := by cases op <;> first | rfl | exact absurd rfl h
  have e2 : (op == CmpOp.NotIn) = false := by cases op <;> first | rfl | exact absurd rfl h2
  cases b <;> simp [behindInMarks, e1, e2]
theorem pe_cmpR {op : CmpOp} {r : R2} (ho : OpR X (compareOp op) r) (ha : PE X a ta) (hb : PE X b tb) (hm : behindInMarks op b = false) : PE X (.Compare a [op] [b] pos) (tOp r ta tb) := by
  intro pins s σ H Q I h
  exact wpAny_Compare1 (binT ha hb I h fun v u s2 x y H2 I2 rx ry q => ho pins s2 σ H2 x y v u Q I2 rx ry q) hm
noncomputable def tTest (t : TE) : TT := fun σ H Q => t σ H fun x H' => ∃ k, x = .bl k ∧ Q k H'
theorem pt_cmpR {op : CmpOp} {r : R2} (ho : OpR X (compareOp op) r) (ha : PE X a ta) (hb : PE X b tb) (hm : behindInMarks op b = false) : PT X (.Compare a [op] [b] pos) (tTest (tOp r ta tb)) := by
  intro pins s σ H Q I h
  refine wpAny_isTrue_Compare1 (thn (ha pins s σ H _ I h) fun v s1 ⟨x, H1, I1, r1, q1⟩ => thn (hb pins s1 σ H1 _ I1 q1) fun u s2 ⟨y, H2, I2, r2, q2⟩ =>
    thn (ho pins s2 σ H2 x y v u _ I2 r1 r2 q2) fun c s3 ⟨z, H3, I3, r3, k, e, q3⟩ => ?_) hm
  subst e
  cases r3
  exact wpAny_truthy_bool ⟨H3, I3, q3⟩
noncomputable def tChain (r r' : R2) (ta tb tc : TE) : TE := fun σ H Q => ta σ H fun x H1 => tb σ H1 fun y H2 => r x y H2 fun z H3 => ∃ k, z = .bl k ∧
  (if k = true then tc σ H3 fun w' H4 => r' y w' H4 Q else Q (.bl false) H3)
theorem pe_chain {op op' : CmpOp} {r r' : R2} (ho : OpR X (compareOp op) r) (ho' : OpR X (compareOp op') r') (ha : PE X a ta) (hb : PE X b tb) (hc : PE X c tc)
    (hm : lastMarks [op, op'] [b, c] = false := by with_unfolding_all rfl) : PE X (.Compare a [op, op'] [b, c] pos) (tChain r r' ta tb tc) := by
  intro pins s σ H Q I h
  refine Compare_chain (thn (ha pins s σ H _ I h) fun v s1 ⟨x, H1, I1, r1, q1⟩ => chain_link (thn (hb pins s1 σ H1 _ I1 q1) fun u s2 ⟨y, H2, I2, r2, q2⟩ =>
    thn (ho pins s2 σ H2 x y v u _ I2 r1 r2 q2) fun d s3 ⟨z, H3, I3, r3, k, e, q3⟩ => ?_)) hm
  subst e
  cases r3
  refine wpAny_truthy_bool ?_
  cases k with
  | false => exact ite_ff ⟨.bl false, H3, I3, rfl, q3⟩
  | true => exact ite_tt (chain_last (thn (hc pins s3 σ H3 _ I3 q3) fun w' s4 ⟨z', H4, I4, r4, q4⟩ => ho' pins s4 σ H4 y z' u w' Q I4 r2 r4 q4))
theorem line63 : (sizeLine : Nat) < 2 ^ 63 := by rw [sizeLine_eq]; decide
theorem op_add_str : OpR X (binaryOp .Add) (fun x y H Q => ∃ i j, x = .str i ∧ y = .str j ∧ i.length + j.length ≤ sizeLine ∧ Q (.str (i ++ j)) H) := by
  intro pins s σ H x y v u Q I rx ry h
  obtain ⟨i, j, rfl, rfl, hz, q⟩ := h
  obtain ⟨t, rfl⟩ := rx
  obtain ⟨t', rfl⟩ := ry
  exact add_str (fun t' tk => ⟨.str (i ++ j), H, I.tok _, ⟨_, rfl⟩, q⟩) hz
theorem vals1 {x : V} {us : List Value} (r : Vals [x] us) : ∃ u, us = [u] ∧ RelV x u := by
  cases r with
  | cons r1 r2 => cases r2; exact ⟨_, rfl, r1⟩
theorem vals2 {x y : V} {us : List Value} (r : Vals [x, y] us) : ∃ u w', us = [u, w'] ∧ RelV x u ∧ RelV y w' := by
  cases r with
  | cons r1 r2 =>
    cases r2 with
    | cons r3 r4 => cases r4; exact ⟨_, _, rfl, r1, r3⟩
theorem call_abs : CallR X (.builtin "abs") (fun xs H Q => ∃ i, xs = [.int i] ∧ Q (.int (if i < 0 then -i else i)) H) := by
  intro pins s σ H xs us Q I r h
  obtain ⟨i, rfl, q⟩ := h
  obtain ⟨u, rfl, t, rfl⟩ := vals1 r
  exact call_abs_int fun u tk => ⟨.int (if i < 0 then -i else i), H, I.tok _, ⟨_, rfl⟩, q⟩
theorem call_min2 (hc : X.calm = true) : CallR X (.builtin "min") (fun xs H Q => ∃ i j, xs = [.int i, .int j] ∧ Q (.int (if j < i then j else i)) H) := by
  intro pins s σ H xs us Q I r h
  obtain ⟨i, j, rfl, q⟩ := h
  obtain ⟨u, w', rfl, ⟨t, rfl⟩, ⟨t', rfl⟩⟩ := vals2 r
  refine min_two_ints (I.ok.hd hc) fun h' tk k => ⟨_, H, I.kept k, ?_, q⟩
  by_cases hj : j < i
  · rw [if_pos hj, if_pos hj]; exact ⟨_, rfl⟩
  · rw [if_neg hj, if_neg hj]; exact ⟨_, rfl⟩
theorem call_int1 : CallR X (.type "int") (fun xs H Q => (∃ i, xs = [.int i] ∧ Q (.int i) H) ∨ ∃ k, xs = [.bl k] ∧ Q (.int (if k then 1 else 0)) H) := by
  intro pins s σ H xs us Q I r h
  rcases h with ⟨i, rfl, q⟩ | ⟨k, rfl, q⟩
  · obtain ⟨u, rfl, t, rfl⟩ := vals1 r
    exact call_int_int ⟨.int i, H, I, ⟨_, rfl⟩, q⟩
  · obtain ⟨u, rfl, r1⟩ := vals1 r
    cases r1
    exact call_int_bool ⟨.int (if k then 1 else 0), H, I.tok _, ⟨_, rfl⟩, q⟩
noncomputable def LenV (K : PySem.W.Frag) (x : V) (H : Hp) (n : Nat) : Prop :=
  match x with
  | .str y => y.length ≤ sizeLine ∧ n = y.length
  | .byt y => y.size ≤ sizeLine ∧ n = y.size
  | .ref p => (∃ xs, SqL K H p xs ∧ n = xs.length) ∨ ∃ xs, SqT K H p xs ∧ n = xs.length
  | _ => False
theorem call_len : CallR X (.builtin "len") (fun xs H Q => ∃ x n, xs = [x] ∧ LenV X.K x H n ∧ Q (.int n) H) := by
  intro pins s σ H xs us Q I r h
  obtain ⟨x, n, rfl, e, q⟩ := h
  obtain ⟨u, rfl, rx⟩ := vals1 r
  have hl := line63
  have hs : sizeLine = 16777216 := sizeLine_eq
  cases x with
  | str y =>
    obtain ⟨t, rfl⟩ := rx
    obtain ⟨hy, e'⟩ : y.length ≤ sizeLine ∧ n = y.length := e
    subst e'
    exact len_str (by omega) ⟨.int _, H, I.tok _, ⟨_, rfl⟩, q⟩
  | byt y =>
    obtain ⟨t, rfl⟩ := rx
    obtain ⟨hy, e'⟩ : y.size ≤ sizeLine ∧ n = y.size := e
    subst e'
    exact PySem.W.len_bytes (by omega) ⟨.int _, H, I.tok _, ⟨_, rfl⟩, q⟩
  | ref p =>
    cases rx
    have e' : (∃ xs, SqL X.K H p xs ∧ n = xs.length) ∨ ∃ xs, SqT X.K H p xs ∧ n = xs.length := e
    rcases e' with ⟨xs, hx, e'⟩ | ⟨xs, hx, e'⟩
    · subst e'
      obtain ⟨its, r', pl, hz⟩ := I.list hx
      have hlen := r'.length
      exact Calls.call_len_list pl.isList (by simp only [List.size_toArray]; omega) ⟨.int xs.length, H, I.tok _, ⟨_, by simp only [List.size_toArray]; rw [hlen]⟩, q⟩
    · subst e'
      obtain ⟨its, r', pl, hz⟩ := I.tuple hx
      have hlen := r'.length
      exact len_tuple pl (by simp only [List.size_toArray]; omega) ⟨.int xs.length, H, I.tok _, ⟨_, by simp only [List.size_toArray]; rw [hlen]⟩, q⟩
  | _ => exact (show False from e).elim
end
end L2
namespace L2
open PySem PySem.Spec PyProof.Rows
structure ObjM (h : Heap) (x dx C : Addr) (mA : Str → Option Value) : Prop where
  obj : h.get? x = some (PySem.W.instObj C dx)
  ns : h.Ns1 dx mA
  ne : dx ≠ x
theorem lookIn_ns {h : Heap} {dx : Addr} {mA : Str → Option Value} (n : h.Ns1 dx mA) : ∃ od, h.get? dx = some od ∧ ∀ name, PySem.W.lookIn name od = some (mA name) := by
  obtain ⟨o, es, ep, ho, hd, hk, _, hm⟩ := n
  refine ⟨o, ho, fun name => ?_⟩
  have e := hm name
  unfold nsFind findBy at e
  rw [← Array.find?_toList] at e
  unfold PySem.W.lookIn
  rw [hd]
  dsimp only
  split
  · rename_i y q
    rw [q] at e
    exact congrArg some e
  · rename_i q
    rw [q] at e
    have a : es.toList.any (·.refKey) = false := by
      rw [List.any_eq_false]
      intro y hy
      obtain ⟨z, t, hkey⟩ := hk y (Array.mem_toList_iff.mp hy)
      simp [DictEntry.refKey, hkey]
    have a' : ¬ es.toList.any (·.refKey) = true := by rw [a]; exact Bool.false_ne_true
    rw [if_neg a']
    exact congrArg some e
theorem ObjM.look {h : Heap} {x dx C : Addr} {mA : Str → Option Value} (I : ObjM h x dx C mA) : ∃ od, PySem.W.InstAt h x (PySem.W.instObj C dx) C (some od) ∧ ∀ name, PySem.W.lookIn name od = some (mA name) :=
  let ⟨od, ho, hl⟩ := lookIn_ns I.ns
  ⟨od, ⟨I.obj, rfl, rfl, ho⟩, hl⟩
section
variable {prog : Program} {w : World} {A : Around} {E : Value → Shared → Prop} {s : Shared} {K : PySem.W.Frag} {x dx C f : Addr} {mA : Str → Option Value} {name : Str} {v : Value}
theorem set_map {ns : List Str} {Q : Unit → Shared → Prop} (X : K.In s.heap) (I : ObjM s.heap x dx C mA)
    (hs : PySem.W.findIn K (.ref C) "__setattr__" = some (some (.builtin "object.__setattr__"))) (hp : PySem.W.plainOver K C = true) (ht : PySem.W.takerIn K C name = some none) (hh : PySem.W.hasDictIn K C = true)
    (hw : PySem.Within mA ns) (hsz : ns.length ≤ sizeLine)
    (h : ∀ h', ObjM h' x dx C (fun y => if y = name then some v else mA y) → Heap.SameBut dx s.heap h' → Q () { s with heap := h', toks := s.toks + 2 }) :
    wpAny (model prog w) A (setAttr (.ref x) name v) Q E s := by
  obtain ⟨od, J, hl⟩ := I.look
  refine PySem.W.set_plain X J hs (PySem.W.osa_open (s := { s with toks := s.toks + 1 }) (r := none) X J hp ht fun b => ?_)
  obtain ⟨cd, hc, hd'⟩ := PySem.W.any_some hh
  have hx : s.heap.get? x = some ⟨.ref C, some dx, .plain, #[]⟩ := I.obj
  refine wpAny_bind (wpAny_pure (wpAny_bind (wpAny_bind (wpAny_loadPart hx (wpAny_bind (PySem.W.Looks.here (s := { s with toks := s.toks + 1 }) (PySem.W.looks_clsIn X hc) ?_))))))
  rw [hd']
  refine wpAny_pure (a := some dx) (wpAny_bind (wpAny_pure (wpAny_bind ?_)))
  refine wpAny_nsSet1 (s := { s with toks := s.toks + 1 }) I.ns fun h' hn2 hs2 => ?_
  obtain ⟨oD, esD, epD, hoD, hdD, hcD⟩ := hn2.count (PySem.Within.cons name v hw)
  refine wpAny_bind (wpAny_lookBehind hoD (by rw [hdD]; exact pastItsLine_dict (Nat.le_trans hcD (by rw [List.length_cons]; omega))) ?_)
  exact wpAny_pure (h _ ⟨(hs2.2 _ (Ne.symm I.ne)).trans I.obj, hn2, I.ne⟩ hs2)
end
section
variable {P : Program} {w : World} {H H' : Hp} {h h' : Heap} {a C dx : Addr} {fs fs' : List (Str × V)}
theorem ins_get (hok : HOk P w H h) (e : H a = some (.ins C dx fs)) : ∃ mA, ObjM h a dx C mA ∧ (∀ f, RelO (fs.lookup f) (mA f)) ∧ PySem.Within mA (fs.map (·.1)) ∧ fs.length ≤ 1000 ∧ H dx = some (.own a) := by
  obtain ⟨d, z, ne, ob, mA, n, r, q⟩ := (show ObjOk P w H h a (.ins C dx fs) from hok a _ e)
  exact ⟨mA, ⟨ob, n, ne⟩, r, q, z, d⟩
end
structure Cls (K : PySem.W.Frag) (C : Addr) : Prop where
  pg : PySem.W.plainGet K C Str.empty = true
  hd : PySem.W.hasDictIn K C = true
  po : PySem.W.plainOver K C = true
  sa : PySem.W.findIn K (.ref C) "__setattr__" = some (some (.builtin "object.__setattr__"))
theorem Cls.get {K : PySem.W.Frag} {C : Addr} (c : Cls K C) (f : Str) : PySem.W.plainGet K C f = true := c.pg
section
variable {X : Cx} {o e value : Expr} {f : Str} {pos pos' tpos : Pos} {ta tv : TE}
noncomputable def rAdd : V → V → Hp → VK → Prop := fun x y H Q => ∃ i j, x = .int i ∧ y = .int j ∧ Q (.int (i + j)) H
noncomputable def rSub : V → V → Hp → VK → Prop := fun x y H Q => ∃ i j, x = .int i ∧ y = .int j ∧ Q (.int (i - j)) H
end
section
variable {X : Cx} {pins : List (Addr × Obj)} {σ : St} {H : Hp} {s : Shared} {A : Around} {E : Value → Shared → Prop} {Q : Value → Shared → Prop} {c : Value} {b : Bool}
inductive TyOf (K : PySem.W.Frag) (H : Hp) : V → Value → Prop where
  | non : TyOf K H .non (.type "NoneType")
  | bl (x : Bool) : TyOf K H (.bl x) (.type "bool")
  | int (i : Int) : TyOf K H (.int i) (.type "int")
  | str (x : Str) : TyOf K H (.str x) (.type "str")
  | flt (x : UInt64) : TyOf K H (.flt x) (.type "float")
  | lst {a : Addr} {xs : List V} (e : H a = some (.lst xs)) : TyOf K H (.ref a) (.type "list")
  | frz {a : Addr} {o : Obj} {xs : List V} (e : H a = some (.frz o (.lst xs))) : TyOf K H (.ref a) (.type "list")
  | tup {a : Addr} {xs : List V} (e : H a = some (.tup xs)) : TyOf K H (.ref a) (.type "tuple")
  | dK {a : Addr} {kvs : List (Key × V)} (e : H a = some (.dK kvs)) : TyOf K H (.ref a) (.type "dict")
  | dT {a : Addr} {kvs : List (List Key × V)} (e : H a = some (.dT kvs)) : TyOf K H (.ref a) (.type "dict")
  | ins {a C dx : Addr} {fs : List (Str × V)} (e : H a = some (.ins C dx fs)) (cl : Cls K C) (ha : PySem.W.findIn K (.ref C) "__class__" = some (some (.builtin "object.__class__")))
      (hn : PySem.W.specialIn K (.builtin "object.__class__") "__get__" = some (some (.builtin "getset_descriptor.__get__"))) (htk : PySem.W.takesIn K (.builtin "object.__class__") = some true)
      (hm : PySem.W.mroIn K C (.type "object") = some true) : TyOf K H (.ref a) (.ref C)
theorem isinst_ok {x : V} {u t : Value} (I : Inv X pins σ H s) (rx : RelV x u) (ty : TyOf X.K H x t) (e : PySem.W.kitOne X.K t c = some b) (h : ∀ tk, Q (.bool b) { s with toks := tk }) :
    wpAny (model X.prog X.w) A (call (.builtin "isinstance") [u, c]) Q E s := by
  cases ty with
  | non => cases (show u = Value.none from rx); exact PySem.W.kia_one PySem.W.kitx_none I.kIn True.intro e (fun z => nomatch z) h
  | bl y => cases (show u = Value.bool y from rx); exact PySem.W.kia_one PySem.W.kitx_bool I.kIn True.intro e (fun z => nomatch z) h
  | int i => obtain ⟨t, q⟩ := (show ∃ t, u = Value.int i t from rx); cases q; exact PySem.W.kia_one PySem.W.kitx_int I.kIn True.intro e (fun z => nomatch z) h
  | str y => obtain ⟨t, q⟩ := (show ∃ t, u = Value.str y t from rx); cases q; exact PySem.W.kia_one PySem.W.kitx_str I.kIn True.intro e (fun z => nomatch z) h
  | flt y => obtain ⟨t, q⟩ := (show ∃ t, u = Value.float y t from rx); cases q; exact PySem.W.kia_one PySem.W.kitx_float I.kIn True.intro e (fun z => nomatch z) h
  | @lst a xs ea =>
    cases (show u = Value.ref a from rx)
    obtain ⟨_, _, n, _, h1⟩ := (show ObjOk X.prog X.w H s.heap a (.lst xs) from I.hok a _ ea)
    exact PySem.W.kia_one PySem.W.kitx_list I.kIn ⟨_, h1, rfl⟩ e (fun z => nomatch z) h
  | @frz a ob xs ea =>
    cases (show u = Value.ref a from rx)
    obtain ⟨_, _, _, n, _, h1⟩ := (show ObjOk X.prog X.w H s.heap a (.frz ob (.lst xs)) from I.hok a _ ea)
    exact PySem.W.kia_one PySem.W.kitx_list I.kIn ⟨_, h1, rfl⟩ e (fun z => nomatch z) h
  | @tup a xs ea =>
    cases (show u = Value.ref a from rx)
    obtain ⟨_, _, _, p⟩ := (show ObjOk X.prog X.w H s.heap a (.tup xs) from I.hok a _ ea)
    obtain ⟨o, h1, h2, _⟩ := p
    exact PySem.W.kia_one PySem.W.kitx_tuple I.kIn ⟨o, h1, h2⟩ e (fun z => nomatch z) h
  | @dK a kvs ea =>
    cases (show u = Value.ref a from rx)
    obtain ⟨_, _, vs, _, p⟩ := (show ObjOk X.prog X.w H s.heap a (.dK kvs) from I.hok a _ ea)
    obtain ⟨o, es, ep, h1, h2, _⟩ := p
    exact PySem.W.kia_one PySem.W.kitx_dict I.kIn ⟨o, h1, h2.1⟩ e (fun z => nomatch z) h
  | @dT a kvs ea =>
    cases (show u = Value.ref a from rx)
    obtain ⟨_, _, xs, _, o, es, ep, h1, h2, _⟩ := (show ObjOk X.prog X.w H s.heap a (.dT kvs) from I.hok a _ ea)
    exact PySem.W.kia_one PySem.W.kitx_dict I.kIn ⟨o, h1, h2.1⟩ e (fun z => nomatch z) h
  | @ins a C dx fs ea cl ha hn htk hm =>
    cases (show u = Value.ref a from rx)
    obtain ⟨mA, O, _⟩ := ins_get I.hok ea
    obtain ⟨od, J, _⟩ := O.look
    exact PySem.W.kia_one (PySem.W.kitx_own (cl.get _) cl.hd ha hn htk hm) I.kIn J e (fun z => nomatch z) h
end
end L2
namespace L2
open PySem PySem.Spec PyProof.Rows
structure Room (k : Nat) (A : Around) : Prop where
  hd : A.handled = none
  dp : A.depth + 3 * k + 5 < recursionLimit
  un : A.units + 16 * k + 200 < cLine
theorem Room.mono {j k : Nat} {A : Around} (r : Room k A) (h : j ≤ k) : Room j A := ⟨r.hd, by have := r.dp; omega, by have := r.un; omega⟩
theorem Room.deeper {k : Nat} {A : Around} (r : Room (k + 1) A) (env : Env) : Room k (A.deeper env) :=
  ⟨r.hd, by have := r.dp; show A.depth + 1 + 3 * k + 5 < _; omega, by have := r.un; show A.units + 3 + 16 * k + 200 < _; omega⟩
theorem Room.depth {k : Nat} {A : Around} (r : Room k A) : A.depth < recursionLimit := by have := r.dp; omega
theorem Room.units {k : Nat} {A : Around} (r : Room k A) : A.units + 64 < cLine := by have := r.un; omega
noncomputable def tNil : TA := fun _ H Q => Q [] H
noncomputable def tCons (ta : TE) (tr : TA) : TA := fun σ H Q => ta σ H fun x H1 => tr σ H1 fun xs H2 => Q (x :: xs) H2
section
variable {X : Cx} {e : Expr} {es : List Expr} {te : TE} {t : TA} {pos : Pos}
theorem pa_nil : PA X [] tNil := fun _ _ _ _ H Q I h => Calls.spliced_nil ⟨[], H, I, .nil, h⟩
theorem pa_cons (ha : PE X e te) (hr : PA X es t) (hs : starEach (e :: es) X.env = (false, eval e X.env) :: starEach es X.env := by rfl) : PA X (e :: es) (tCons te t) := by
  intro pos pins s σ H Q I h
  rw [hs]
  show wpAny _ _ (spliced ((false, eval e X.env) :: backTo pos (starEach es X.env))) _ _ s
  refine Calls.spliced_cons (thn (ha pins s σ H _ I h) fun u s1 ⟨x, H1, I1, r1, q1⟩ => ?_)
  exact thn (hr pos pins s1 σ H1 _ I1 q1) fun us s2 ⟨xs, H2, I2, r2, q2⟩ => ⟨x :: xs, H2, I2, .cons r1 r2, q2⟩
noncomputable def tTup (t : TA) : TE := fun σ H Q => t σ H fun xs H1 => xs.length ≤ sizeLine ∧ ∀ p, H1 p = none → Q (.ref p) (upd H1 p (.tup xs))
noncomputable def tLst (t : TA) : TE := fun σ H Q => t σ H fun xs H1 => xs.length ≤ sizeLine ∧ ∀ p, H1 p = none → Q (.ref p) (upd H1 p (.lst xs))
theorem pe_tup {x1} (h : PA X es t) : PE X (.Tuple es x1 pos) (tTup t) := by
  intro pins s σ H Q I hq
  refine wpAny_Tuple_spliced (thn (h pos pins s σ H _ I hq) fun us s1 ⟨xs, H1, I1, r, z, q⟩ => ⟨by rw [← r.length]; exact z, ?_⟩)
  have hf : H1 s1.heap.objs.size = none := I1.hok.fresh (Nat.le_refl _)
  refine ⟨.ref s1.heap.objs.size, upd H1 s1.heap.objs.size (.tup xs), I1.laid (t' := s1.toks) (fun b u e => Heap.get?_push_of_some _ e) (Nat.le_refl _) ?_, rfl, q _ hf⟩
  exact ⟨z, us, r, ⟨_, Heap.get?_push_size _ rfl, rfl, _, rfl⟩⟩
theorem pe_lst (h : PA X es t) : PE X (.List es pos) (tLst t) := by
  intro pins s σ H Q I hq
  refine wpAny_List_spliced (thn (h pos pins s σ H _ I hq) fun us s1 ⟨xs, H1, I1, r, z, q⟩ => ⟨by rw [← r.length]; exact z, ?_⟩)
  have hf : H1 s1.heap.objs.size = none := I1.hok.fresh (Nat.le_refl _)
  refine ⟨.ref s1.heap.objs.size, upd H1 s1.heap.objs.size (.lst xs), I1.laid (t' := s1.toks) (fun b u e => Heap.get?_push_of_some _ e) (Nat.le_refl _) ?_, rfl, q _ hf⟩
  exact ⟨z, us, 0, r, Heap.get?_push_size _ rfl⟩
end
noncomputable abbrev Sp := List V → Hp → VK → XK → Prop
noncomputable abbrev CXT := List Env → Hp → Shared → XK → Value → Shared → Prop
structure Env0 (P : Program) (w : World) (K : PySem.W.Frag) (mg : Str → Option Value) (base : Heap) (A : Around) (outer : List Env) (s : Shared) (H : Hp) : Prop where
  frames : A.frames = some outer
  mod : Mod K mg base
  bs : ∀ b o, base.get? b = some o → s.heap.get? b = some o ∧ H b = none
  bsz : base.objs.size ≤ s.heap.objs.size
  funs : s.heap.FunFrames base outer
  frf : ∀ b ∈ frs outer, H b = none
  hok : HOk P w H s.heap
  bare : AllBare s.gens
noncomputable def CE (outer : List Env) (P : Program) (w : World) (H : Hp) (s : Shared) (Q : VK) (u : Value) (s' : Shared) : Prop :=
  ∃ v H', s'.os = s.os ∧ AllBare s'.gens ∧ Un (frs outer) [] H H' s.heap s'.heap ∧ HOk P w H' s'.heap ∧ RelV v u ∧ Q v H'
noncomputable def CR (CX : CXT) (outer : List Env) (P : Program) (w : World) (H : Hp) (s : Shared) (Q : VK) (E : XK) (r : Result) (s' : Shared) : Prop :=
  match r with
  | .ok (.ret u) => CE outer P w H s Q u s'
  | .ok _ => False
  | .error e => CX outer H s E e s'
structure FnOk (P : Program) (w : World) (K : PySem.W.Frag) (mg : Str → Option Value) (base : Heap) (CX : CXT) (k : Nat) (f : Addr) (fd : FuncData) (ps : List Str) (sp : Sp) : Prop where
  len : ∀ vs H Q E, sp vs H Q E → vs.length = ps.length
  run : ∀ (A : Around) (outer : List Env) (s : Shared) (H : Hp) (args : Args) (us : List Value) (vs : List V) (Q : VK) (E : XK), Room k A → Env0 P w K mg base A outer s H → BindsTo s fd args (ps.zip us) → Vals vs us → sp vs H Q E →
    codeAny (model P w) A (.call (.ref f) args) (CR CX outer P w H s Q E) s
theorem FnOk.imp {P : Program} {w : World} {K : PySem.W.Frag} {mg : Str → Option Value} {base : Heap} {CX : CXT} {k : Nat} {f : Addr} {fd : FuncData} {ps : List Str} {sp sp' : Sp} (F : FnOk P w K mg base CX k f fd ps sp)
    (h : ∀ vs H Q E, sp' vs H Q E → sp vs H Q E) : FnOk P w K mg base CX k f fd ps sp' :=
  ⟨fun vs H Q E q => F.len vs H Q E (h _ _ _ _ q), fun A outer s H args us vs Q E hr he hb hv hs => F.run A outer s H args us vs Q E hr he hb hv (h _ _ _ _ hs)⟩
section
variable {X : Cx} {pins : List (Addr × Obj)} {σ : St} {H : Hp} {s s' : Shared}
theorem Inv.env0 (I : Inv X pins σ H s) : Env0 X.prog X.w X.K X.mg X.base X.A X.stack s H :=
  ⟨I.ok.frames, I.ok.mod, I.bs, Nat.le_trans I.ok.bsz I.sz, I.stack, I.stkFree, I.hok, I.bare⟩
theorem Inv.after {Q : VK} {u : Value} (I : Inv X pins σ H s) (h : CE X.stack X.prog X.w H s Q u s') : EP X pins σ Q u s' := by
  obtain ⟨v, H', os, bare, un, hok, r, q⟩ := h
  obtain ⟨hh, g, d, t, os'⟩ := s'
  obtain rfl : os' = s.os := os
  exact ⟨v, H', I.call (h' := hh) (g' := g) (d' := d) (t' := t) (ch := []) un hok bare (fun b z => absurd z (by simp)), r, q⟩
end
noncomputable def tCall (sp : Sp) (dvs : List V) (E : XK) (t : TA) : TE := fun σ H Q => t σ H fun vs H1 => sp (vs ++ dvs) H1 Q E
noncomputable def Binds (K : PySem.W.Frag) (fd : FuncData) (ps : List Str) (ds : List Value) : Prop :=
  ∀ (s : Shared) (us : List Value), K.In s.heap → (us ++ ds).length = ps.length → BindsTo s fd ⟨us, []⟩ (ps.zip (us ++ ds))
theorem Binds.all {K : PySem.W.Frag} {fd : FuncData} {ps : List Str} (h : ∀ us : List Value, us.length = ps.length → bindArgs fd ⟨us, []⟩ = pure (ps.zip us)) : Binds K fd ps [] := fun s us _ hl => by
  rw [List.append_nil] at hl ⊢
  exact .of_eq (h us hl)
noncomputable def Passes (CX : CXT) (X : Cx) (E : XK) : Prop := ∀ (pins : List (Addr × Obj)) (σ : St) (H : Hp) (s : Shared) (e : Value) (s' : Shared), Inv X pins σ H s → CX X.stack H s E e s' → X.xe e s'
section
variable {X : Cx} {CX : CXT} {k : Nat} {f C : Addr} {fd : FuncData} {ps : List Str} {sp : Sp} {dvs : List V} {ds : List Value} {E : XK} {x m : Str} {p pos apos : Pos} {e o : Expr} {es : List Expr} {ta : TE} {t : TA}
theorem run_fn {pins : List (Addr × Obj)} {σ : St} {H : Hp} {s : Shared} {Q : VK} {us : List Value} {vs : List V} (F : FnOk X.prog X.w X.K X.mg X.base CX k f fd ps sp) (hr : Room k X.A) (hb : Binds X.K fd ps ds) (hd : Vals dvs ds) (hx : Passes CX X E)
    (I : Inv X pins σ H s) (r : Vals vs us) (h : sp (vs ++ dvs) H Q E) : wpAny (model X.prog X.w) X.A (call (.ref f) us) (EP X pins σ Q) X.xe s := by
  have r2 : Vals (vs ++ dvs) (us ++ ds) := r.append hd
  have hl : (us ++ ds).length = ps.length := by rw [← r2.length]; exact F.len _ _ _ _ h
  refine wpAny_call (codeAny_mono (F.run X.A X.stack s H ⟨us, []⟩ (us ++ ds) (vs ++ dvs) Q E hr I.env0 (hb s us I.kIn hl) r2 h) fun r s' hq => ?_)
  cases r with
  | error e => exact hx pins σ H s e s' I hq
  | ok fl =>
    cases fl with
    | ret u => exact I.after hq
    | next => exact False.elim hq
    | brk => exact False.elim hq
    | cont => exact False.elim hq
theorem pe_call (F : FnOk X.prog X.w X.K X.mg X.base CX k f fd ps sp) (hr : Room k X.A) (hg : Gl X x) (hm : X.mg x = some (.ref f)) (hk : PySem.W.keepIn X.K (.ref f) = true) (hb : Binds X.K fd ps ds) (hd : Vals dvs ds) (hx : Passes CX X E)
    (ha : PA X (e :: es) t) (hdb : (x == ("__debug__" : Str)) = false := by decide) (he : starEach (e :: es) X.env = (false, eval e X.env) :: starEach es X.env := by rfl) (hpl : (backTo pos (starEach es X.env)).any (·.1) = false := by rfl) :
    PE X (.Call (.Name x p) (e :: es) [] pos) (tCall sp dvs E t) := by
  intro pins s σ H Q I h
  refine wpAny_Call_Name_kw (ld_glob I hg hm ?_ hdb)
  refine PySem.W.callWith_K (h₀ := X.base) I.ok.mod.kin hk (thn (ha pos pins s σ H _ I h) fun us s1 ⟨vs, H1, I1, r, q⟩ => ⟨I1.kIn, ?_⟩) he hpl
  exact run_fn F hr hb hd hx I1 r q
end
section
variable {X : Cx} {CX : CXT} {k : Nat} {f C : Addr} {fd : FuncData} {ps ks : List Str} {sp : Sp} {E : XK} {x m : Str} {p pos apos kpos : Pos} {e o : Expr} {es : List Expr} {kws : List Keyword} {te ta : TE} {t tk : TA} {nm : Option Str}
variable {g : List Value → List Value → List Value} {gV : List V → List V → List V}
end
structure FnScope (N P : List Str) (sc : Scope) : Prop where
  kind : sc.kind = .function
  co : sc.isCoroutine = false
  gen : sc.isGenerator = false
  nd : N.Nodup
  pre : N.take P.length = P
  par : ∀ x ∈ P, sc.names.lookup x = some .local ∨ sc.names.lookup x = some .cell
  nofree : ∀ y ∈ sc.names, y.2 ≠ .free
theorem bindL_out {kindOf : Str → Option NameKind} {x : Str} : ∀ {binds : List (Str × Value)} {m : Str → Option Value}, (∀ v, (x, v) ∉ binds) → bindL kindOf binds m x = m x
  | [], _, _ => rfl
  | (n, v) :: r, m, h => by
    unfold bindL
    rw [bindL_out fun w hw => h w (List.mem_cons_of_mem _ hw)]
    split
    · have : x ≠ n := by rintro rfl; exact h v List.mem_cons_self
      simp [this]
    · rfl
theorem bindC_out {kindOf : Str → Option NameKind} {x : Str} : ∀ {binds : List (Str × Value)} {m : Str → Option Value}, (∀ v, (x, v) ∉ binds) → bindC kindOf binds m x = m x
  | [], _, _ => rfl
  | (n, v) :: r, m, h => by
    unfold bindC
    rw [bindC_out fun w hw => h w (List.mem_cons_of_mem _ hw)]
    split
    · rfl
    · have : x ≠ n := by rintro rfl; exact h v List.mem_cons_self
      simp [this]
theorem bindL_get {kindOf : Str → Option NameKind} {x : Str} {v : Value} : ∀ {P : List Str} {vs : List Value} {i : Nat} {m : Str → Option Value}, P.Nodup → P[i]? = some x → vs[i]? = some v → kindOf x = some .local →
    bindL kindOf (P.zip vs) m x = some v
  | [], _, _, _, _, h, _, _ => by simp at h
  | _ :: _, [], _, _, _, _, h, _ => by simp at h
  | p :: P, w :: vs, 0, m, nd, h1, h2, hk => by
    simp at h1 h2; subst h1; subst h2
    show bindL kindOf ((p, w) :: P.zip vs) m p = _
    unfold bindL
    rw [bindL_out fun v hv => (List.nodup_cons.mp nd).1 (List.of_mem_zip hv).1, if_pos hk]
    simp
  | p :: P, w :: vs, i + 1, m, nd, h1, h2, hk => by
    show bindL kindOf ((p, w) :: P.zip vs) m x = _
    unfold bindL
    exact bindL_get (i := i) (List.nodup_cons.mp nd).2 (by simpa using h1) (by simpa using h2) hk
theorem bindC_get {kindOf : Str → Option NameKind} {x : Str} {v : Value} : ∀ {P : List Str} {vs : List Value} {i : Nat} {m : Str → Option Value}, P.Nodup → P[i]? = some x → vs[i]? = some v → kindOf x ≠ some .local →
    bindC kindOf (P.zip vs) m x = some v
  | [], _, _, _, _, h, _, _ => by simp at h
  | _ :: _, [], _, _, _, _, h, _ => by simp at h
  | p :: P, w :: vs, 0, m, nd, h1, h2, hk => by
    simp at h1 h2; subst h1; subst h2
    show bindC kindOf ((p, w) :: P.zip vs) m p = _
    unfold bindC
    rw [bindC_out fun v hv => (List.nodup_cons.mp nd).1 (List.of_mem_zip hv).1, if_neg hk]
    simp
  | p :: P, w :: vs, i + 1, m, nd, h1, h2, hk => by
    show bindC kindOf ((p, w) :: P.zip vs) m x = _
    unfold bindC
    exact bindC_get (i := i) (List.nodup_cons.mp nd).2 (by simpa using h1) (by simpa using h2) hk
noncomputable def start (N : List Str) (vs : List V) : St := vs.map some ++ List.replicate (N.length - vs.length) none
noncomputable def cxOf (CX : CXT) (P : Program) (w : World) (K : PySem.W.Frag) (mg : Str → Option Value) (base : Heap) (N : List Str) (qual : Str) (scope : Scope) (f : Addr) (cd : Value) (A : Around) (outer : List Env) (s : Shared) (H : Hp) (E : XK) : Cx where
  prog := P
  w := w
  K := K
  mg := mg
  base := base
  A := A.deeper (envOfC qual scope s.heap.objs.size f cd)
  N := N
  s₀ := s
  H₀ := H
  env := envOfC qual scope s.heap.objs.size f cd
  outer := outer
  stack := envOfC qual scope s.heap.objs.size f cd :: outer
  ex := []
  calm := true
  fn := fun _ => true
  pn := []
  xe := fun e s' => wpAny (model P w) (A.deeper (envOfC qual scope s.heap.objs.size f cd)) (leaving (envOfC qual scope s.heap.objs.size f cd) e) (fun _ s'' => CX outer H s E e s'') (fun e' s'' => CX outer H s E e' s'') s'
theorem cell_has {sc : Scope} {n : Nat} {x : Str} (h : sc.names.lookup x = some .cell) : ∃ c, (cellsFrom n sc.names []).lookup x = some c := by
  have q := PySem.W.cellsFrom_some sc.names n [] (.inl h)
  exact Option.isSome_iff_exists.mp q
theorem inv_start {CX : CXT} {P : Program} {w : World} {K : PySem.W.Frag} {mg : Str → Option Value} {base : Heap} {N ps : List Str} {qual : Str} {scope : Scope} {f : Addr} {cd : Value} {A : Around} {outer : List Env} {s s1 : Shared} {H : Hp} {E : XK} {us : List Value} {vs : List V}
    (S : FnScope N ps scope) (hd : A.handled = none) (e0 : Env0 P w K mg base A outer s H) (hl : vs.length = ps.length) (r : Vals vs us)
    (x : InCallC s s.heap.objs.size (bindL (envOfC qual scope s.heap.objs.size f cd).kindOf (ps.zip us) fun _ => none) (cellsFrom (s.heap.objs.size + 1) scope.names []) (bindC (envOfC qual scope s.heap.objs.size f cd).kindOf (ps.zip us) fun _ => none) s1) :
    Inv (cxOf CX P w K mg base N qual scope f cd A outer s H E) [] (start N vs) H s1 := by
  have hpl : ps.length ≤ N.length := by have := congrArg List.length S.pre; rw [List.length_take] at this; omega
  obtain ⟨h1, tk, rfl, hk⟩ := x.done
  have noA : ∀ b : Addr, b ∉ (cxOf CX P w K mg base N qual scope f cd A outer s H E).ex := fun b z => absurd (show b ∈ ([] : List Addr) from z) (by simp)
  refine ⟨⟨e0.mod, S.kind, rfl, rfl, Nat.le_refl _, fun y z c h1 h2 => ?_, fun y hy => ?_, fun y c _ h => ?_, fun _ => hd, Around.frames_deeper e0.frames, .inr ⟨rfl, rfl⟩, fun b z => absurd z (noA b), e0.bs, e0.bsz, fun b _ _ => noA b, fun b z => absurd z (noA b), e0.funs, e0.frf⟩,
    rfl, e0.bare, Un.kept hk, ⟨_, x.toInCall.ns, fun i y v h1 h2 h3 => ?_⟩, fun y c h => ⟨_, x.cell y c h⟩, e0.hok.fresh (Nat.le_refl _), fun y c h => ?_, fun p hp => absurd (show p ∈ ([] : List (Addr × Obj)) from hp) (by simp), e0.hok.kept hk, ?_⟩
  · exact name_of_addr x.apart (PySem.mem_of_lookup h1) (PySem.mem_of_lookup h2)
  · have hy : scope.names.lookup y = some .cell ∨ scope.names.lookup y = some .free := hy
    rcases hy with hy | hy
    · exact cell_has hy
    · exact absurd rfl (S.nofree _ (PySem.mem_of_lookup hy))
  · exact Nat.le_of_lt (x.above y c (PySem.mem_of_lookup h))
  · have hi : i < vs.length := by
      unfold start at h2
      by_cases hi : i < vs.length
      · exact hi
      · rw [List.getElem?_append_right (by simpa using hi)] at h2
        rw [List.getElem?_replicate] at h2
        split at h2 <;> cases h2
    have ha : vs[i]? = some v := by
      unfold start at h2
      rw [List.getElem?_append_left (by simpa using hi), List.getElem?_map] at h2
      cases e : vs[i]? with
      | none => rw [e] at h2; cases h2
      | some a => rw [e] at h2; cases h2; rfl
    obtain ⟨u, hu, rv⟩ := r.get ha
    have hp : ps[i]? = some y := by
      rw [← S.pre, List.getElem?_take_of_lt (by omega)]; exact h1
    have ndP : ps.Nodup := by rw [← S.pre]; exact S.nd.sublist (List.take_sublist _ _)
    refine ⟨u, rv, ?_⟩
    rcases S.par y (List.mem_of_getElem? hp) with k | k
    · exact .inl ⟨k, bindL_get ndP hp hu k⟩
    · obtain ⟨c, e⟩ := cell_has (n := s.heap.objs.size + 1) k
      refine .inr ⟨.inl k, c, e, ?_⟩
      have q := x.cell y c e
      rw [bindC_get ndP hp hu (by show scope.names.lookup y ≠ _; rw [k]; decide)] at q
      exact q
  · exact e0.hok.fresh (Nat.le_of_lt (x.above y c (PySem.mem_of_lookup h)))
  · unfold start
    show _ = N.length
    rw [List.length_append, List.length_map, List.length_replicate]
    omega
theorem fn_of {CX : CXT} {P : Program} {w : World} {K : PySem.W.Frag} {mg : Str → Option Value} {base : Heap} {k : Nat} {f : Addr} {name qual : Str} {params : Arguments} {body : List Stmt} {scope : Scope} {dV kV doc pm cdv ct oc : Value} {an od : Option Addr}
    {osl : Array (Option Value)} {N ps : List Str} {sp : Sp} (lk : K.lookup f = some ⟨oc, od, .func (PySem.W.fnOf name qual params body scope dV kV doc pm an cdv ct), osl⟩) (hcd : PySem.W.codeIn K cdv qual = true) (S : FnScope N ps scope)
    (len : ∀ vs H Q E, sp vs H Q E → vs.length = ps.length)
    (hbody : ∀ (A : Around) (outer : List Env) (s : Shared) (H : Hp) (vs : List V) (Q : VK) (E : XK), Room k (A.deeper (envOfC qual scope s.heap.objs.size f cdv)) → sp vs H Q E →
      ∃ t, PSs (cxOf CX P w K mg base N qual scope f cdv A outer s H E) body t ∧ t { nx := fun _ H' => Q .non H', rt := Q } (start N vs) H) :
    FnOk P w K mg base CX (k + 1) f (PySem.W.fnOf name qual params body scope dV kV doc pm an cdv ct) ps sp := by
  refine ⟨len, fun A outer s H args us vs Q E hr e0 hb r hsp => ?_⟩
  have hl := len _ _ _ _ hsp
  have KX : K.In s.heap := e0.mod.kin.keeps fun b o e => (e0.bs b o e).1
  have lim : s.heap.NoLimit := e0.mod.nolimit.keeps fun b o e => (e0.bs b o e).1
  have hkind : ∀ y ∈ ps.zip us, scope.names.lookup y.1 = some .local ∨ (scope.names.lookup y.1 = some .cell ∧ ((cellsFrom (s.heap.objs.size + 1) scope.names []).lookup y.1).isSome = true) := fun ⟨n, v⟩ hy => by
    rcases S.par n (List.of_mem_zip hy).1 with q | q
    · exact .inl q
    · exact .inr ⟨q, PySem.W.cellsFrom_some _ _ _ (.inl q)⟩
  refine codeAny_call_function hr.depth (KX _ _ lk) rfl S.co S.gen rfl (PySem.W.codeRec_of KX hcd) (hb _ _ _ _ ?_)
  refine wpAny_newFunctionEnv_cells S.kind hkind fun env he s1 x => ?_
  subst he
  refine ⟨lim.keeps x.toInCall.keep, codeAny_func ?_⟩
  obtain ⟨t, ht, hq⟩ := hbody A outer s H vs Q E (hr.deeper _) hsp
  have I : Inv (cxOf CX P w K mg base N qual scope f cdv A outer s H E) [] (start N vs) H s1 := inv_start S hr.hd e0 hl r x
  refine wpAny_mono (ht [] s1 (start N vs) H _ I hq) (fun fl s' hs => ?_) fun e s' hs => hs
  have fin : ∀ {σ' : St} {H' : Hp} {v : V} {u : Value}, Inv (cxOf CX P w K mg base N qual scope f cdv A outer s H E) [] σ' H' s' → RelV v u → Q v H' → CE outer P w H s Q u s' :=
    fun {σ' H' v u} J rv q => ⟨v, H', J.os, J.bare, J.base, J.hok, rv, q⟩
  cases fl with
  | ret u =>
    obtain ⟨v, σ', H', J, rv, q⟩ := hs
    exact fin J rv q
  | next =>
    obtain ⟨σ', H', J, q⟩ := hs
    exact fin (v := V.non) (u := Value.none) J rfl q
  | brk =>
    obtain ⟨_, _, _, q⟩ := hs
    exact False.elim q
  | cont =>
    obtain ⟨_, _, _, q⟩ := hs
    exact False.elim q
end L2
namespace L2
open PySem PySem.Spec PyProof.Rows
section
variable {X : Cx} {x : Str} {p pos : Pos} {e : Expr} {es : List Expr} {t : TA} {id T : String} {r : List V → Hp → VK → Prop}
noncomputable def tCB (r : List V → Hp → VK → Prop) (t : TA) : TE := fun σ H Q => t σ H fun vs H1 => r vs H1 Q
theorem pe_callB (hc : CallR X (.builtin id) r) (hg : Gl X x) (hm : X.mg x = none) (hv : bootBuiltins x = some (.builtin id)) (ha : PA X (e :: es) t) (hn : x ≠ "__name__" := by decide) (hdb : (x == ("__debug__" : Str)) = false := by decide)
    (he : starEach (e :: es) X.env = (false, eval e X.env) :: starEach es X.env := by rfl) (hpl : (backTo pos (starEach es X.env)).any (·.1) = false := by rfl) : PE X (.Call (.Name x p) (e :: es) [] pos) (tCB r t) := by
  intro pins s σ H Q I h
  refine wpAny_Call_Name_kw (ld_blt I hg hm hv ?_ hn hdb)
  exact PyProof.Rows.callWith_builtin1 (thn (ha pos pins s σ H _ I h) fun us s1 ⟨vs, H1, I1, r1, q1⟩ => hc pins s1 σ H1 vs us Q I1 r1 q1) he hpl
theorem pe_callTy (hc : CallR X (.type T) r) (hg : Gl X x) (hm : X.mg x = none) (hv : bootBuiltins x = some (.type T)) (ha : PA X (e :: es) t) (hn : x ≠ "__name__" := by decide) (hdb : (x == ("__debug__" : Str)) = false := by decide)
    (he : starEach (e :: es) X.env = (false, eval e X.env) :: starEach es X.env := by rfl) (hpl : (backTo pos (starEach es X.env)).any (·.1) = false := by rfl) : PE X (.Call (.Name x p) (e :: es) [] pos) (tCB r t) := by
  intro pins s σ H Q I h
  refine wpAny_Call_Name_kw (ld_blt I hg hm hv ?_ hn hdb)
  exact PyProof.Rows.callWith_type1 (thn (ha pos pins s σ H _ I h) fun us s1 ⟨vs, H1, I1, r1, q1⟩ => hc pins s1 σ H1 vs us Q I1 r1 q1) he hpl
end
end L2
namespace HT
open PySem PyProof.Rows
section
variable {prog : Program} {w : World} {A : Around} {E : Value → Shared → Prop} {s : Shared}
theorem cat_tup {t b : Addr} {vs ws : List Value} {Q : Value → Shared → Prop} (ht : IsTup s.heap t vs.toArray) (hb : IsTup s.heap b ws.toArray) (hv : vs ≠ [])
    (h1 : ws = [] → Q (.ref t) s) (h2 : ws ≠ [] → Q (.ref s.heap.objs.size) { s with heap := s.heap.push { cls := .type "tuple", data := .seq (vs ++ ws).toArray } })
    (hsz : vs.length + ws.length ≤ sizeLine) : wpAny (model prog w) A (binaryOp .Add (.ref t) (.ref b)) Q E s := by
  obtain ⟨⟨cls, dd, data, sl⟩, ho, hc, n, hd⟩ := id ht
  obtain ⟨⟨cls2, dd2, data2, sl2⟩, ho2, hc2, n2, hd2⟩ := id hb
  simp only at hc hd hc2 hd2
  subst hc hd hc2 hd2
  have e : vs.toArray ++ ws.toArray = (vs ++ ws).toArray := by simp
  by_cases hw : ws = []
  · exact concat_meets ⟨_, ho, rfl⟩ ⟨_, ho2, rfl⟩ noFill_tuple_add seq_tuple_add PySem.F.slot_tuple_add PySem.F.entry_tuple_add (PySem.F.args_tuple_add_2 _ _)
      (tuple_addW1 t b vs.toArray ws.toArray n n2 dd dd2 sl sl2 (by simpa using hv) (by simp [hw])) ⟨ho, ho2, h1 hw⟩
  · refine concat_meets ⟨_, ho, rfl⟩ ⟨_, ho2, rfl⟩ noFill_tuple_add seq_tuple_add PySem.F.slot_tuple_add PySem.F.entry_tuple_add (PySem.F.args_tuple_add_2 _ _)
      (tuple_addW2 t b vs.toArray ws.toArray n n2 dd dd2 sl sl2 (by simpa using hv) (by simpa using hw) (by rw [List.size_toArray, List.size_toArray]; exact hsz)) ⟨ho, ho2, ?_⟩
    rw [e]
    exact h2 hw
noncomputable def sIx (n d : Nat) : Option Int → Nat
  | none => d
  | some v => if v < 0 then (v + (n : Int)).toNat else min v.toNat n
theorem sIx_none (n d : Nat) : sIx n d none = d := rfl
theorem sIx_nat (n d k : Nat) : sIx n d (some (k : Int)) = min k n := by
  show (if (k : Int) < 0 then ((k : Int) + (n : Int)).toNat else min (k : Int).toNat n) = min k n
  rw [if_neg (by omega), Int.toNat_natCast]
theorem sIx_le (n d : Nat) (hd : d ≤ n) (o : Option Int) : sIx n d o ≤ n := by
  cases o with
  | none => exact hd
  | some v =>
    show (if v < 0 then (v + (n : Int)).toNat else min v.toNat n) ≤ n
    by_cases hv : v < 0
    · rw [if_pos hv]; omega
    · rw [if_neg hv]; exact Nat.min_le_right _ _
theorem clip_eq (v : Int) (n d : Nat) : (if v < 0 then max (v + (n : Int)) 0 else min v (n : Int)) = ((sIx n d (some v) : Nat) : Int) := by
  show (if v < 0 then max (v + (n : Int)) 0 else min v (n : Int)) = (((if v < 0 then (v + (n : Int)).toNat else min v.toNat n) : Nat) : Int)
  by_cases hv : v < 0
  · simp only [if_pos hv]; omega
  · simp only [if_neg hv]; omega
theorem adjust_gen (lo hi : Option Int) (n : Nat) : Builtin.Slice.sliceAdjust lo hi 1 (n : Int) = (((sIx n 0 lo : Nat) : Int), ((sIx n n hi : Nat) : Int)) := by
  have h1 : ¬ ((1 : Int) < 0) := by omega
  unfold Builtin.Slice.sliceAdjust
  simp only [h1, if_false]
  refine Prod.ext ?_ ?_
  · cases lo with
    | none => rfl
    | some v => exact clip_eq v n 0
  · cases hi with
    | none => rfl
    | some v => exact clip_eq v n n
theorem places_gen (i j : Nat) : Builtin.Slice.slicePlaces (i : Int) (j : Int) 1 = j - i := by
  unfold Builtin.Slice.slicePlaces
  have h1 : (1 : Int) > 0 := by omega
  simp only [h1, if_true, Int.ediv_one]
  split <;> omega
theorem slicePart_ {v : Value} {o : Option Int} {Q : Option Int → Shared → Prop} (p : IsPart v o) (h : Q o s) : wpAny (model prog w) A (Builtin.Slice.slicePartIndex v) Q E s := by
  cases p with
  | none => exact slicePart_none h
  | int i t => exact slicePart_int h
theorem sliceApplied_gen {sl : Addr} {vl vu : Value} {lo hi : Option Int} {n : Nat} {Q : Int × Int × Nat → Shared → Prop} (hs : s.heap.IsSliceOf sl vl vu .none) (pl : IsPart vl lo) (pu : IsPart vu hi)
    (h : Q (((sIx n 0 lo : Nat) : Int), 1, sIx n n hi - sIx n 0 lo) s) : wpAny (model prog w) A (Builtin.Slice.sliceApplied (.ref sl) (pure (n : Int))) Q E s := by
  obtain ⟨os, hos, hcs, hds⟩ := id hs
  unfold Builtin.Slice.sliceApplied Builtin.Slice.sliceFields
  refine wpAny_bind (wpAny_bind (wpAny_field hos hds (x := vl) rfl (wpAny_bind (wpAny_field hos hds (x := vu) rfl (wpAny_bind (wpAny_field hos hds (x := .none) rfl (wpAny_pure ?_)))))))
  refine wpAny_bind (slicePart_none ?_)
  show wpAny _ _ (if ((1 : Int) == 0) = true then _ else _) _ _ s
  rw [if_neg (by decide)]
  refine wpAny_bind (slicePart_ pl (wpAny_bind (slicePart_ pu (wpAny_bind (wpAny_pure ?_)))))
  show wpAny _ _ (match Builtin.Slice.sliceAdjust lo hi 1 (n : Int) with | (lo, hi) => pure (lo, (1 : Int), Builtin.Slice.slicePlaces lo hi 1)) _ _ s
  rw [adjust_gen lo hi n]
  show wpAny _ _ (pure (((sIx n 0 lo : Nat) : Int), (1 : Int), Builtin.Slice.slicePlaces ((sIx n 0 lo : Nat) : Int) ((sIx n n hi : Nat) : Int) 1)) _ _ s
  rw [places_gen]
  exact wpAny_pure h
theorem pick_gen (xs : Array Value) (i k : Nat) : ((List.range k).filterMap fun (m : Nat) => xs[((i : Int) + (m : Int) * 1).toNat]?).toArray = ((xs.toList.drop i).take k).toArray := by
  have e : (fun (m : Nat) => xs[((i : Int) + (m : Int) * 1).toNat]?) = fun m => xs[i + m]? := by
    funext m
    have : ((i : Int) + (m : Int) * 1).toNat = i + m := by omega
    rw [this]
  rw [e]
  have := pick_run xs i k
  rw [List.filterMap_map] at this
  have e2 : ((fun x => xs[x]?) ∘ fun x => i + x) = fun m => xs[i + m]? := rfl
  rw [e2] at this
  rw [this]
theorem getItem_tuple_cut {t sl : Addr} {items : Array Value} {vl vu : Value} {lo hi : Option Int} {Q : Value → Shared → Prop} (ht : IsTup s.heap t items) (hs : s.heap.IsSliceOf sl vl vu .none) (pl : IsPart vl lo) (pu : IsPart vu hi)
    (hw : ¬ (sIx items.size 0 lo = 0 ∧ sIx items.size items.size hi = items.size))
    (h : Q (.ref s.heap.objs.size) { s with heap := s.heap.push { cls := .type "tuple", data := .seq ((items.toList.drop (sIx items.size 0 lo)).take (sIx items.size items.size hi - sIx items.size 0 lo)).toArray } })
    (hsz : items.size ≤ sizeLine) : wpAny (model prog w) A (getItem (.ref t) (.ref sl)) Q E s := by
  have htake : sizeOk (.seq ((items.toList.drop (sIx items.size 0 lo)).take (sIx items.size items.size hi - sIx items.size 0 lo)).toArray) := by
    show ((items.toList.drop (sIx items.size 0 lo)).take (sIx items.size items.size hi - sIx items.size 0 lo)).toArray.size ≤ sizeLine
    rw [List.size_toArray, List.length_take, List.length_drop, Array.length_toList]
    omega
  have hj : sIx items.size items.size hi ≤ items.size := sIx_le _ _ (Nat.le_refl _) hi
  obtain ⟨os, hos, hcs, hds⟩ := id hs
  have hTs : s.TypeIs (.ref sl) "slice" := ⟨os, hos, hcs⟩
  unfold getItem
  try with_reducible refine wpAny_holding ?_
  first | refine wpAny_bind (wpAny_pure ?_) | skip
  refine wpAny_bind (wpAny_sequenceKey ht.typeIs (by decide) ?_)
  refine wpAny_bind (wpAny_callSpecial?_slot (name := Str.ofString "__getitem__") ht.typeIs PyProof.Rows.slot_tuple_getitem
    (wpAny_call_entry PyProof.Rows.slot_tuple_getitem ht.typeIs entry_tuple_getitem ?_ (args_tuple_getitem _ _)))
  show wpAny _ _ (Builtin.Tuple.tupleItemsOf (.ref t) >>= _) _ _ s
  refine wpAny_bind (tupleItemsOf_ ht ?_)
  refine wpAny_bind (wpAny_typeOf hTs ?_)
  rw [if_pos (by decide)]
  refine wpAny_bind (sliceApplied_gen hs pl pu ?_)
  have hno : ¬ ((((sIx items.size 0 lo : Nat) : Int) == 0 && (1 : Int) == 1 && (sIx items.size items.size hi - sIx items.size 0 lo) == items.size) = true) := by
    intro q
    rw [Bool.and_eq_true, Bool.and_eq_true] at q
    have q1 : ((sIx items.size 0 lo : Nat) : Int) = 0 := eq_of_beq q.1.1
    have q2 : sIx items.size items.size hi - sIx items.size 0 lo = items.size := eq_of_beq q.2
    exact hw ⟨by omega, by omega⟩
  show wpAny _ _ (if (((sIx items.size 0 lo : Nat) : Int) == 0 && (1 : Int) == 1 && (sIx items.size items.size hi - sIx items.size 0 lo) == items.size) = true then _ else _) _ _ s
  rw [if_neg hno, pick_gen]
  first
    | exact wpAny_bind (m := Builtin.Tuple.tupleExact _) (wpAny_newObj_type (wpAny_pure ⟨_, rfl, wpAny_pure h⟩) htake)
    | exact wpAny_bind (m := Builtin.Tuple.tupleExact _) (wpAny_newObj_type (wpAny_bind (wpAny_pure (wpAny_pure ⟨_, rfl, wpAny_pure h⟩))) htake)
    | exact wpAny_bind (wpAny_bind (m := Builtin.Tuple.tupleExact _) (wpAny_newObj_type (wpAny_pure (wpAny_pure ⟨_, rfl, wpAny_pure h⟩)) htake))
    | exact wpAny_bind (wpAny_bind (m := Builtin.Tuple.tupleExact _) (wpAny_newObj_type (wpAny_pure ⟨_, rfl, wpAny_pure h⟩) htake))
end
end HT
namespace L2
open PySem PySem.Spec PyProof.Rows
noncomputable abbrev TO := St → Hp → (Option Int → Hp → Prop) → Prop
noncomputable def PO (X : Cx) (e : Option Expr) (t : TO) : Prop :=
  ∀ (pins : List (Addr × Obj)) (s : Shared) (σ : St) (H : Hp) (Q : Option Int → Hp → Prop), Inv X pins σ H s → t σ H Q →
    wpAny (model X.prog X.w) X.A (evalPart e X.env) (fun u s' => ∃ o H', Inv X pins σ H' s' ∧ IsPart u o ∧ Q o H') X.xe s
noncomputable def tNoPart : TO := fun _ H Q => Q none H
noncomputable def tPart (t : TE) : TO := fun σ H Q => t σ H fun x H1 => ∃ i, x = .int i ∧ Q (some i) H1
section
variable {X : Cx} {e : Expr} {te : TE} {lo hi : Option Expr} {tl th : TO} {pos p2 : Pos}
theorem po_none : PO X none tNoPart := by
  intro pins s σ H Q I h
  rw [evalPart_none]
  exact wpAny_pure ⟨none, H, I, .none, h⟩
theorem po_some (h : PE X e te) : PO X (some e) (tPart te) := by
  intro pins s σ H Q I hw
  rw [evalPart_some]
  refine thn (h pins s σ H _ I hw) fun u s1 ⟨x, H1, I1, r1, q1⟩ => ?_
  obtain ⟨i, rfl, q⟩ := q1
  obtain ⟨t, rfl⟩ := r1
  exact ⟨some i, H1, I1, .int i t, q⟩
noncomputable def SlR (X : Cx) (r : V → Option Int → Option Int → Hp → VK → Prop) : Prop :=
  ∀ (pins : List (Addr × Obj)) (s : Shared) (σ : St) (H : Hp) (x : V) (v vl vu : Value) (lo hi : Option Int) (sl : Addr) (Q : VK), Inv X pins σ H s → RelV x v → s.heap.IsSliceOf sl vl vu .none → IsPart vl lo → IsPart vu hi → r x lo hi H Q →
    ∃ T id, typeLookup (.type T) "__getitem__" = pure (some (.builtin id)) ∧ s.TypeIs v T ∧ wpAny (model X.prog X.w) X.A (getItem v (.ref sl)) (EP X pins σ Q) X.xe s
noncomputable def tSl (r : V → Option Int → Option Int → Hp → VK → Prop) (te : TE) (tl th : TO) : TE := fun σ H Q => te σ H fun x H1 => tl σ H1 fun l H2 => th σ H2 fun u H3 => r x l u H3 Q
theorem pe_slice {r : V → Option Int → Option Int → Hp → VK → Prop} (hr : SlR X r) (he : PE X e te) (hl : PO X lo tl) (hu : PO X hi th) : PE X (.Subscript e (.Slice lo hi none p2) pos) (tSl r te tl th) := by
  intro pins s σ H Q I h
  refine Subscript_ (thn (he pins s σ H _ I h) fun v s1 ⟨x, H1, I1, r1, q1⟩ => ?_)
  refine wpAny_Slice (thn (hl pins s1 σ H1 _ I1 q1) fun vl s2 ⟨l, H2, I2, pl, q2⟩ => thn (hu pins s2 σ H2 _ I2 q2) fun vu s3 ⟨u, H3, I3, pu, q3⟩ => ?_)
  rw [evalPart_none]
  refine wpAny_pure ?_
  have I4 : Inv X pins σ H3 { s3 with heap := s3.heap.push { cls := .type "slice", data := .fields #[vl, vu, .none] } } := I3.kept (t' := s3.toks) fun b ob q => Heap.get?_push_of_some _ q
  obtain ⟨T, id, hT, ht, hg⟩ := hr pins { s3 with heap := s3.heap.push { cls := .type "slice", data := .fields #[vl, vu, .none] } } σ H3 x v vl vu l u s3.heap.objs.size Q I4 r1 (Heap.IsSliceOf.new ..) pl pu q3
  show wpAny (model X.prog X.w) X.A (subscriptTail e (.Slice lo hi none p2) v (.ref s3.heap.objs.size)) (EP X pins σ Q) X.xe { s3 with heap := s3.heap.push { cls := .type "slice", data := .fields #[vl, vu, .none] } }
  exact tail_any (ops := [.ref s3.heap.objs.size, v]) ht hT hg (by with_unfolding_all rfl)
noncomputable def cutV (xs : List V) (lo hi : Option Int) : List V := (xs.drop (HT.sIx xs.length 0 lo)).take (HT.sIx xs.length xs.length hi - HT.sIx xs.length 0 lo)
theorem cutV_length (xs : List V) (lo hi : Option Int) : (cutV xs lo hi).length ≤ xs.length := by
  unfold cutV
  rw [List.length_take, List.length_drop]
  omega
noncomputable def rSlT (K : PySem.W.Frag) : V → Option Int → Option Int → Hp → VK → Prop := fun x lo hi H Q => ∃ a xs, x = .ref a ∧ SqT K H a xs ∧
  ¬ (HT.sIx xs.length 0 lo = 0 ∧ HT.sIx xs.length xs.length hi = xs.length) ∧ ∀ p, H p = none → Q (.ref p) (upd H p (.tup (cutV xs lo hi)))
theorem sl_tup : SlR X (rSlT X.K) := by
  intro pins s σ H x v vl vu lo hi sl Q I rx hs pl pu h
  obtain ⟨a, xs, rfl, hx, hw, q⟩ := h
  cases rx
  obtain ⟨its, r, ht, hz⟩ := I.tuple hx
  have hlen : its.toArray.size = xs.length := by rw [List.size_toArray]; exact r.length.symm
  refine ⟨"tuple", _, PyProof.Rows.slot_tuple_getitem.lookup, ht.typeIs, ?_⟩
  refine HT.getItem_tuple_cut ht hs pl pu (by rw [hlen]; exact hw) ?_ (by rw [hlen]; exact hz)
  rw [hlen]
  refine ⟨.ref s.heap.objs.size, _, I.laid (t' := s.toks) (o := .tup (cutV xs lo hi)) (fun b ob q => Heap.get?_push_of_some _ q) (Nat.le_refl _) ?_, rfl, q _ (I.hok.fresh (Nat.le_refl _))⟩
  exact ⟨Nat.le_trans (cutV_length xs lo hi) hz, _, (r.drop (HT.sIx xs.length 0 lo)).take (HT.sIx xs.length xs.length hi - HT.sIx xs.length 0 lo), IsTup.new _ _⟩
noncomputable def rCatT (K : PySem.W.Frag) : R2 := fun x y H Q => ∃ a b xs ys, x = .ref a ∧ y = .ref b ∧ SqT K H a xs ∧ SqT K H b ys ∧ xs ≠ [] ∧ xs.length + ys.length ≤ sizeLine ∧
  (ys = [] → Q (.ref a) H) ∧ (ys ≠ [] → ∀ p, H p = none → Q (.ref p) (upd H p (.tup (xs ++ ys))))
theorem Vals.nil_iff {xs : List V} {us : List Value} (r : Vals xs us) : us = [] ↔ xs = [] := by
  cases r with
  | nil => simp
  | cons _ _ => simp
theorem op_catT : OpR X (binaryOp .Add) (rCatT X.K) := by
  intro pins s σ H x y v u Q I rx ry h
  obtain ⟨a, b, xs, ys, rfl, rfl, ha, hb, hx, hz, q1, q2⟩ := h
  cases rx
  cases ry
  obtain ⟨its, r1, p1, _⟩ := I.tuple ha
  obtain ⟨its2, r2, p2, _⟩ := I.tuple hb
  refine HT.cat_tup p1 p2 (fun z => hx (r1.nil_iff.mp z)) (fun z => ⟨.ref a, H, I, rfl, q1 (r2.nil_iff.mp z)⟩) (fun z => ?_) (by rw [← r1.length, ← r2.length]; exact hz)
  refine ⟨.ref s.heap.objs.size, _, I.laid (t' := s.toks) (o := .tup (xs ++ ys)) (fun b ob q => Heap.get?_push_of_some _ q) (Nat.le_refl _) ?_, rfl, q2 (fun w => z (r2.nil_iff.mpr w)) _ (I.hok.fresh (Nat.le_refl _))⟩
  exact ⟨by rw [List.length_append]; exact hz, _, r1.append r2, IsTup.new _ _⟩
end
end L2
namespace L2
open PySem PySem.Spec PyProof.Rows
noncomputable def ixN (n : Nat) (i : Int) : Option Nat := if 0 ≤ i then (if i < n then some i.toNat else none) else if -(n : Int) ≤ i then some (i + n).toNat else none
noncomputable def atI {α : Type} (xs : List α) (i : Int) : Option α := (ixN xs.length i).bind fun j => xs[j]?
theorem ixN_seq {n : Nat} {i : Int} {j : Nat} (h : ixN n i = some j) : seqIndex? i n = some j ∧ j < n ∧ -(n : Int) ≤ i ∧ i < n := by
  unfold ixN at h
  by_cases h0 : 0 ≤ i
  · rw [if_pos h0] at h
    by_cases h1 : i < n
    · rw [if_pos h1] at h
      have e : i.toNat = j := Option.some.inj h
      exact ⟨by rw [seqIndex_of h0 h1, e], by omega, by omega, h1⟩
    · rw [if_neg h1] at h; cases h
  · rw [if_neg h0] at h
    by_cases h1 : -(n : Int) ≤ i
    · rw [if_pos h1] at h
      have e : (i + n).toNat = j := Option.some.inj h
      exact ⟨by rw [seqIndex_neg (by omega) h1, e], by omega, h1, by omega⟩
    · rw [if_neg h1] at h; cases h
theorem atI_get {α : Type} {xs : List α} {i : Int} {v : α} (h : atI xs i = some v) : ∃ j, seqIndex? i xs.length = some j ∧ xs[j]? = some v ∧ j < xs.length ∧ -(xs.length : Int) ≤ i ∧ i < xs.length := by
  unfold atI at h
  cases e : ixN xs.length i with
  | none => rw [e] at h; cases h
  | some j =>
    rw [e] at h
    obtain ⟨h1, h2, h3, h4⟩ := ixN_seq e
    exact ⟨j, h1, h, h2, h3, h4⟩
theorem atI_nat {α : Type} {xs : List α} {j : Nat} {v : α} (h : xs[j]? = some v) : atI xs (j : Int) = some v := by
  have hj : j < xs.length := (List.getElem?_eq_some_iff.mp h).1
  have e : ixN xs.length (j : Int) = some j := by
    unfold ixN
    rw [if_pos (by omega), if_pos (by omega)]; simp
  unfold atI; rw [e]; exact h
theorem atI_last {α : Type} (xs : List α) (v : α) : atI (xs ++ [v]) (-1) = some v := by
  have hl : (xs ++ [v]).length = xs.length + 1 := by simp
  have e : ixN (xs ++ [v]).length (-1) = some xs.length := by
    unfold ixN
    rw [hl, if_neg (by decide), if_pos (by omega)]
    congr 1
    omega
  unfold atI
  rw [e]
  show (xs ++ [v])[xs.length]? = some v
  simp
noncomputable def PlainIx (b : Expr) : Prop := ∀ o i, subscripted b false o i = operate [o, i] (getItem o i)
noncomputable def IxR (X : Cx) (r : R2) : Prop :=
  ∀ (value slice : Expr) (pins : List (Addr × Obj)) (s : Shared) (σ : St) (H : Hp) (x y : V) (v u : Value) (Q : VK), Inv X pins σ H s → RelV x v → RelV y u → r x y H Q →
    subscripted slice false v u = operate [v, u] (getItem v u) → wpAny (model X.prog X.w) X.A (subscriptTail value slice v u) (EP X pins σ Q) X.xe s
noncomputable def MtR (X : Cx) (id : String) (r : V → List V → Hp → VK → Prop) : Prop :=
  ∀ (pins : List (Addr × Obj)) (s : Shared) (σ : St) (H : Hp) (x : V) (xs : List V) (v : Value) (us : List Value) (Q : VK), Inv X pins σ H s → RelV x v → Vals xs us → r x xs H Q →
    wpAny (model X.prog X.w) X.A (call (.builtin id) (v :: us)) (EP X pins σ Q) X.xe s
section
variable {X : Cx} {a b : Expr} {ta tb : TE} {pos : Pos}
theorem IxR.or {r r' : R2} (h : IxR X r) (h' : IxR X r') : IxR X (fun x y H Q => r x y H Q ∨ r' x y H Q) := by
  intro value slice pins s σ H x y v u Q I rx ry q hs
  rcases q with q | q
  · exact h value slice pins s σ H x y v u Q I rx ry q hs
  · exact h' value slice pins s σ H x y v u Q I rx ry q hs
theorem pe_ix {r : R2} (hr : IxR X r) (ha : PE X a ta) (hb : PE X b tb) (hs : PlainIx b) : PE X (.Subscript a b pos) (tOp r ta tb) := by
  intro pins s σ H Q I h
  exact Subscript_ (binT ha hb I h fun v u s2 x y H2 I2 rx ry q => hr a b pins s2 σ H2 x y v u Q I2 rx ry q (hs _ _))
noncomputable def rIxL (K : PySem.W.Frag) : R2 := fun x y H Q => ∃ p xs i v, x = .ref p ∧ y = .int i ∧ SqL K H p xs ∧ atI xs i = some v ∧ Q v H
noncomputable def rIxT (K : PySem.W.Frag) : R2 := fun x y H Q => ∃ p xs i v, x = .ref p ∧ y = .int i ∧ SqT K H p xs ∧ atI xs i = some v ∧ Q v H
noncomputable def rIxS : R2 := fun x y H Q => ∃ z i c, x = .str z ∧ y = .int i ∧ z.length ≤ sizeLine ∧ atI z.cps.toList i = some c ∧ Q (.str ⟨#[c]⟩) H
theorem ix_list : IxR X (rIxL X.K) := by
  intro value slice pins s σ H x y v u Q I rx ry h hs
  obtain ⟨p, xs, i, z, rfl, rfl, hq, he, q⟩ := h
  cases rx
  obtain ⟨t, rfl⟩ := ry
  obtain ⟨its, r, pl, hz⟩ := I.list hq
  obtain ⟨j, h1, h2, h3, h4, h5⟩ := atI_get he
  obtain ⟨w, ew, rw'⟩ := r.get h2
  have hl := r.length
  have hn := line63
  have fin : EP X pins σ Q w s := ⟨z, H, I, rw', q⟩
  by_cases h0 : 0 ≤ i
  · have hj : i.toNat = j := by
      rw [seqIndex_of h0 h5] at h1
      exact Option.some.inj h1
    exact item_listR pl.isList h0 (by omega) (by rw [hj]; simpa using ew) fin hs
  · have hj : (i + (its.toArray.size : Int)).toNat = j := by
      rw [seqIndex_neg (by omega) h4] at h1
      rw [List.size_toArray, ← hl]
      exact Option.some.inj h1
    exact subscriptTail_builtinR (x := w) pl.isList.typeIs slot_list_getitem.lookup
      (wpAny_getItem_list_neg (Q := fun r s' => r = w ∧ EP X pins σ Q r s') pl.isList (by omega) (by rw [List.size_toArray] <;> omega) (by omega) (by rw [hj]; simpa using ew) ⟨rfl, fin⟩) hs
theorem ix_tup : IxR X (rIxT X.K) := by
  intro value slice pins s σ H x y v u Q I rx ry h hs
  obtain ⟨p, xs, i, z, rfl, rfl, hq, he, q⟩ := h
  cases rx
  obtain ⟨t, rfl⟩ := ry
  obtain ⟨its, r, pl, hz⟩ := I.tuple hq
  obtain ⟨j, h1, h2, h3, h4, h5⟩ := atI_get he
  obtain ⟨w, ew, rw'⟩ := r.get h2
  have hl := r.length
  have hn := line63
  have fin : EP X pins σ Q w s := ⟨z, H, I, rw', q⟩
  exact subscriptTail_builtinR (x := w) pl.typeIs slot_tuple_getitem.lookup
    (getItem_tuple (j := j) (Q := fun r s' => r = w ∧ EP X pins σ Q r s') pl (by omega) (by omega) (by rw [List.size_toArray, ← hl]; exact h1) (by simpa using ew) ⟨rfl, fin⟩) hs
theorem ix_str : IxR X rIxS := by
  intro value slice pins s σ H x y v u Q I rx ry h hs
  obtain ⟨z, i, c, rfl, rfl, hz, he, q⟩ := h
  obtain ⟨t, rfl⟩ := rx
  obtain ⟨t', rfl⟩ := ry
  obtain ⟨j, h1, h2, h3, h4, h5⟩ := atI_get he
  have hl : z.cps.toList.length = z.length := by simp [Str.length]
  rw [hl] at h1 h4 h5
  have hn := line63
  exact tail_any (typeIs_str s z t) slot_str_getitem.lookup (getItem_str (c := c) (by
    have e1 : decide (i < -(2 ^ 63 : Int)) = false := decide_eq_false (by omega)
    have e2 : decide (i ≥ 2 ^ 63) = false := decide_eq_false (by omega)
    rw [e1, e2, Bool.or_false]) (by rw [h1]; simpa using h2) ⟨.str ⟨#[c]⟩, H, I.tok _, ⟨_, rfl⟩, q⟩) hs
noncomputable def rIx (K : PySem.W.Frag) : R2 := fun x y H Q => rIxL K x y H Q ∨ rIxT K x y H Q ∨ rIxS x y H Q
theorem ix_seq : IxR X (rIx X.K) := ix_list.or (ix_tup.or ix_str)
theorem mapSeq_set (its : List Value) (n j : Nat) (u : Value) : Obj.mapSeq (·.setIfInBounds j u) { cls := .type "list", data := .seq its.toArray n } = { cls := .type "list", data := .seq (its.set j u).toArray n } := by
  simp [Obj.mapSeq]
theorem Inv.lst {pins : List (Addr × Obj)} {σ : St} {H : Hp} {s : Shared} {p : Addr} {xs : List V} (I : Inv X pins σ H s) (h : H p = some (.lst xs)) :
    ∃ (its : List Value) (n : Nat), Vals xs its ∧ s.heap.get? p = some { cls := .type "list", data := .seq its.toArray n } ∧ xs.length ≤ sizeLine := by
  obtain ⟨z, its, n, r, e⟩ := I.hok p _ h
  exact ⟨its, n, r, e, z⟩
theorem Inv.lstUpd {pins : List (Addr × Obj)} {σ : St} {H : Hp} {s : Shared} {p : Addr} {xs ys : List V} {its its' : List Value} {n n' : Nat} {f : Obj → Obj} (I : Inv X pins σ H s) (h : H p = some (.lst xs))
    (ho : s.heap.get? p = some { cls := .type "list", data := .seq its.toArray n }) (hf : f { cls := .type "list", data := .seq its.toArray n } = { cls := .type "list", data := .seq its'.toArray n' }) (r : Vals ys its') (hz : ys.length ≤ sizeLine) (t : Nat) :
    Inv X pins σ (upd H p (.lst ys)) { s with heap := s.heap.update p f, toks := t } := by
  have e : (s.heap.update p f).get? p = some { cls := .type "list", data := .seq its'.toArray n' } := by
    rw [Heap.get?_update_self f ho (by rw [hf] <;> rfl), hf]
  refine I.write (x := p) (e := p) (by rw [h]; trivial) (.inl rfl) (fun b u hb q => (Heap.get?_update_other _ _ (Ne.symm hb)).trans q) ⟨_, e⟩ ?_
  exact ⟨hz, its', n', r, e⟩
noncomputable def rSetL : V → V → V → Hp → (Hp → Prop) → Prop := fun o i v H Q => ∃ p xs k j, o = .ref p ∧ i = .int k ∧ H p = some (.lst xs) ∧ ixN xs.length k = some j ∧ Q (upd H p (.lst (xs.set j v)))
theorem set_list : PSet X rSetL := by
  intro pins s σ H o i v ov iv u Q I ro ri rv h
  obtain ⟨p, xs, k, j, rfl, rfl, hp, hj, q⟩ := h
  cases ro
  obtain ⟨t, rfl⟩ := ri
  obtain ⟨its, n, r, ho, hz⟩ := I.lst hp
  obtain ⟨h1, h2, h3, h4⟩ := ixN_seq hj
  have hl := r.length
  have hn := line63
  have I' : Inv X pins σ (upd H p (.lst (xs.set j v))) { s with heap := s.heap.update p (Obj.mapSeq (·.setIfInBounds j u)) } :=
    I.lstUpd hp ho (mapSeq_set its n j u) (r.set rv j) (by rw [List.length_set]; exact hz) s.toks
  by_cases h0 : 0 ≤ k
  · have hk : k.toNat = j := by
      rw [seqIndex_of h0 h4] at h1
      exact Option.some.inj h1
    exact PySem.W.ki_setAt ho h0 (by omega) (by rw [List.size_toArray, ← hl]; exact h4) (by rw [hk]; exact ⟨_, I', q⟩)
  · have hk : (k + (its.toArray.size : Int)).toNat = j := by
      rw [seqIndex_neg (by omega) h3] at h1
      rw [List.size_toArray, ← hl]
      exact Option.some.inj h1
    exact PySem.W.ki_setBack ho (by omega) (by rw [List.size_toArray, ← hl]; exact h3) (by omega) (by rw [hk]; exact ⟨_, I', q⟩)
theorem slice_bounds (lo hi : Option Int) (n : Nat) : (sliceBounds lo hi none n).1 = ((HT.sIx n 0 lo : Nat) : Int) ∧ (sliceBounds lo hi none n).2.1 = ((HT.sIx n n hi : Nat) : Int) ∧ (sliceBounds lo hi none n).2.2 = 1 := by
  refine ⟨?_, ?_, rfl⟩
  · cases lo with
    | none => simp [sliceBounds, HT.sIx]
    | some i =>
      simp only [sliceBounds, HT.sIx, Option.getD_none, show (1 : Int) > 0 by decide, if_true]
      by_cases h : i < 0
      · simp only [h, if_true] <;> omega
      · simp only [h, if_false] <;> omega
  · cases hi with
    | none => simp [sliceBounds, HT.sIx]
    | some i =>
      simp only [sliceBounds, HT.sIx, Option.getD_none, show (1 : Int) > 0 by decide, if_true]
      by_cases h : i < 0
      · simp only [h, if_true] <;> omega
      · simp only [h, if_false] <;> omega
theorem slicePick_cut (its : List Value) (lo hi : Option Int) : slicePick its.toArray lo hi none = ((its.drop (HT.sIx its.length 0 lo)).take (HT.sIx its.length its.length hi - HT.sIx its.length 0 lo)).toArray := by
  obtain ⟨h1, h2, h3⟩ := slice_bounds lo hi its.toArray.size
  unfold slicePick
  rw [h1, h2, h3]
  simp only [sliceRange_one, pick_run, List.size_toArray] <;> rfl
noncomputable def rSlL (K : PySem.W.Frag) : V → Option Int → Option Int → Hp → VK → Prop := fun x lo hi H Q => ∃ a xs, x = .ref a ∧ SqL K H a xs ∧ ∀ p, H p = none → Q (.ref p) (upd H p (.lst (cutV xs lo hi)))
theorem sl_list : SlR X (rSlL X.K) := by
  intro pins s σ H x v vl vu lo hi sl Q I rx hs pl pu h
  obtain ⟨a, xs, rfl, hx, q⟩ := h
  cases rx
  obtain ⟨its, r, ht, hz⟩ := I.list hx
  have hlen := r.length
  refine ⟨"list", _, slot_list_getitem.lookup, ht.isList.typeIs, ?_⟩
  refine wpAny_getItem_list_slice ht.isList hs pl pu .none (by simp) ?_ (by rw [List.size_toArray] <;> omega)
  rw [slicePick_cut, ← hlen]
  refine ⟨.ref s.heap.objs.size, _, I.laid (t' := s.toks) (o := .lst (cutV xs lo hi)) (fun b ob q => Heap.get?_push_of_some _ q) (Nat.le_refl _) ?_, rfl, q _ (I.hok.fresh (Nat.le_refl _))⟩
  exact ⟨Nat.le_trans (cutV_length xs lo hi) hz, _, 0, (r.drop (HT.sIx xs.length 0 lo)).take (HT.sIx xs.length xs.length hi - HT.sIx xs.length 0 lo), Heap.get?_push_size _ rfl⟩
noncomputable def flatV : V → Bool
  | .non => true
  | .bl _ => true
  | .int _ => true
  | .str _ => true
  | _ => false
noncomputable def eqV : V → V → Bool
  | .non, .non => true
  | .bl a, .bl b => a == b
  | .bl a, .int b => (if a then 1 else 0) == b
  | .int a, .bl b => a == (if b then 1 else 0)
  | .int a, .int b => a == b
  | .str a, .str b => a == b
  | _, _ => false
noncomputable def inV (x : V) (xs : List V) : Bool := xs.any fun y => eqV y x
noncomputable def rIn (K : PySem.W.Frag) (neg : Bool) : R2 := fun x y H Q => ∃ p xs, y = .ref p ∧ (SqL K H p xs ∨ SqT K H p xs) ∧ flatV x = true ∧ xs.all flatV = true ∧ Q (.bl (if neg then !inV x xs else inV x xs)) H
theorem call_list_of : CallR X (.type "list") (fun xs H Q => ∃ p ys, xs = [.ref p] ∧ (SqL X.K H p ys ∨ SqT X.K H p ys) ∧ ∀ l, H l = none → Q (.ref l) (upd H l (.lst ys))) := by
  intro pins s σ H xs us Q I r h
  obtain ⟨p, ys, rfl, hq, q⟩ := h
  obtain ⟨u, rfl, rx⟩ := vals1 r
  cases rx
  have fin : ∀ (its : List Value), Vals ys its → ys.length ≤ sizeLine → ∀ (h' : Heap) (c' : Nat), (∀ b o', s.heap.get? b = some o' → h'.get? b = some o') →
      h'.get? s.heap.objs.size = some { cls := .type "list", dict := none, data := .seq its.toArray c', slots := #[] } → EP X pins σ Q (.ref s.heap.objs.size) { s with heap := h' } := fun its r' hz h' c' kp e =>
    ⟨.ref s.heap.objs.size, _, I.laid (t' := s.toks) kp (Nat.le_refl _) (show ObjOk X.prog X.w _ h' _ (.lst ys) from ⟨hz, its, c', r', e⟩), rfl, q _ (I.hok.fresh (Nat.le_refl _))⟩
  rcases hq with hq | hq
  · obtain ⟨its, r', pl, hz⟩ := I.list hq
    have hlen := r'.length
    obtain ⟨o, ho, hc, n, hd⟩ := pl.isList
    exact call_list_seq p (.inl rfl) ho hc hd (fun h' c' kp e => fin its r' hz h' c' kp e) (by simp only [List.size_toArray] <;> omega)
  · obtain ⟨its, r', pl, hz⟩ := I.tuple hq
    have hlen := r'.length
    obtain ⟨o, ho, hc, n, hd⟩ := pl
    exact call_list_seq p (.inr rfl) ho hc hd (fun h' c' kp e => fin its r' hz h' c' kp e) (by simp only [List.size_toArray] <;> omega)
theorem call_tuple_of : CallR X (.type "tuple") (fun xs H Q => ∃ p ys, xs = [.ref p] ∧ ((SqL X.K H p ys ∧ ∀ l, H l = none → Q (.ref l) (upd H l (.tup ys))) ∨ (SqT X.K H p ys ∧ Q (.ref p) H))) := by
  intro pins s σ H xs us Q I r h
  obtain ⟨p, ys, rfl, h⟩ := h
  obtain ⟨u, rfl, rx⟩ := vals1 r
  cases rx
  rcases h with ⟨hq, q⟩ | ⟨hq, q⟩
  · obtain ⟨its, r', pl, hz⟩ := I.list hq
    have hlen := r'.length
    refine call_tuple_list pl.isList (fun h' kp => ?_) (by simp only [List.size_toArray] <;> omega)
    have I1 : Inv X pins σ H { s with heap := h' } := I.kept (t' := s.toks) kp
    have I2 : Inv X pins σ (upd H h'.objs.size (.tup ys)) { s with heap := h'.push { cls := .type "tuple", data := .seq its.toArray } } :=
      I1.laid (t' := s.toks) (fun b o e => Heap.get?_push_of_some _ e) (Nat.le_refl _) (show ObjOk X.prog X.w _ _ _ (.tup ys) from ⟨hz, its, r', IsTup.new _ _⟩)
    exact ⟨.ref h'.objs.size, _, I2, rfl, q _ (I1.hok.fresh (Nat.le_refl _))⟩
  · obtain ⟨its, r', pl, hz⟩ := I.tuple hq
    exact call_tuple_same pl ⟨.ref p, H, I, rfl, q⟩
noncomputable def tyV (K : PySem.W.Frag) (T : String) (x : V) (H : Hp) : Prop := match x with
  | .str _ => T = "str"
  | .int _ => T = "int"
  | .ref p => (T = "list" ∧ ∃ xs, SqL K H p xs) ∨ (T = "tuple" ∧ ∃ o, K.lookup p = some o ∧ o.cls = .type "tuple" ∧ o.dict = none) ∨
      (T = "dict" ∧ ((∃ kvs, H p = some (.dK kvs)) ∨ ∃ kvs, H p = some (.dT kvs))) ∨ (T = "set" ∧ ∃ S n, H p = some (.set S n))
  | _ => False
theorem tyV_is {pins : List (Addr × Obj)} {σ : St} {H : Hp} {s : Shared} {T : String} {x : V} {v : Value} (I : Inv X pins σ H s) (r : RelV x v) (ty : tyV X.K T x H) :
    s.TypeIs v T ∧ ∀ a, v = .ref a → ∃ ob, s.heap.get? a = some ob ∧ ob.dict = none := by
  cases x with
  | str z =>
    obtain ⟨t, rfl⟩ := r
    cases (show T = "str" from ty)
    exact ⟨typeIs_str s z t, fun _ e => nomatch e⟩
  | int i =>
    obtain ⟨t, rfl⟩ := r
    cases (show T = "int" from ty)
    exact ⟨typeIs_int s i t, fun _ e => nomatch e⟩
  | ref p =>
    cases r
    rcases ty with ⟨rfl, xs, hq⟩ | ⟨rfl, o, hk, hc, hd⟩ | ⟨rfl, hk⟩ | ⟨rfl, S, n, hk⟩
    · obtain ⟨its, _, pl, _⟩ := I.list hq
      refine ⟨pl.isList.typeIs, fun a e => ?_⟩
      cases e
      obtain ⟨o, n, e, c, hd, _⟩ := pl
      exact ⟨o, e, hd⟩
    · refine ⟨⟨o, I.kIn p o hk, hc⟩, fun a e => ?_⟩
      cases e
      exact ⟨o, I.kIn _ o hk, hd⟩
    · have z : ∃ o, s.heap.get? p = some o ∧ o.ExactDict := by
        rcases hk with ⟨kvs, hk⟩ | ⟨kvs, hk⟩
        · obtain ⟨_, _, _, _, o, _, _, e, ex, _⟩ := I.hok p _ hk
          exact ⟨o, e, ex⟩
        · obtain ⟨_, _, _, _, o, _, _, e, ex, _⟩ := I.hok p _ hk
          exact ⟨o, e, ex⟩
      obtain ⟨o, e, ex⟩ := z
      refine ⟨⟨o, e, ex.1⟩, fun a e2 => ?_⟩
      cases e2
      exact ⟨o, e, ex.2.1⟩
    · obtain ⟨o, _, _, _, e, ex, _⟩ := I.hok p _ hk
      refine ⟨⟨o, e, ex.1⟩, fun a e2 => ?_⟩
      cases e2
      exact ⟨o, e, ex.2.1⟩
  | _ => exact False.elim ty
noncomputable def tBM (K : PySem.W.Frag) (T : String) (r : V → List V → Hp → VK → Prop) (to : TE) (t : TA) : TE := fun σ H Q => to σ H fun x H1 => tyV K T x H1 ∧ t σ H1 fun xs H2 => r x xs H2 Q
variable {o e : Expr} {es : List Expr} {to : TE} {t : TA} {name : Str} {apos cpos : Pos} {T id : String} {r : V → List V → Hp → VK → Prop}
theorem pe_bm (pa : PlainAttrs T) (slot : Slot T name id) (hty : typeOf (.builtin id) = pure (.type "method_descriptor")) (hm : MtR X id r) (ho : PE X o to) (ha : PA X (e :: es) t)
    (hbase : attributeBase o name X.env (eval o X.env) = eval o X.env := by rfl)
    (hfew : ((backTo cpos (starEach (e :: es) X.env)).all (fun x => !x.1) && (backToKw cpos (keywordEach [] X.env)).all (fun x => x.1.isSome)
      && decide ((e :: es).length + ([] : List Keyword).length + (if ([] : List Keyword).isEmpty then 0 else 1) < 30)) = true := by rfl)
    (hline : (apos.endLine == cpos.line) = true := by rfl) (hs : starEach (e :: es) X.env = (false, eval e X.env) :: starEach es X.env := by rfl) (hplain : (backTo cpos (starEach es X.env)).any (·.1) = false := by rfl) :
    PE X (.Call (.Attribute o name apos) (e :: es) [] cpos) (tBM X.K T r to t) := by
  intro pins s σ H Q I h
  refine wpAny_Call_method_late hbase hfew hline rfl (thn (ho pins s σ H _ I h) fun v s1 ⟨x, H1, I1, r1, ty, q1⟩ => ?_)
  obtain ⟨h1, h2⟩ := tyV_is I1 r1 ty
  refine ⟨T, id, pa, slot, hty, h1, h2, ?_⟩
  have hA := ha cpos pins s1 σ H1 _ I1 q1
  rw [hs] at hA ⊢
  refine Calls.callWith_builtin (by show (false || (backTo cpos (starEach es X.env)).any (·.1)) = false; rw [hplain] <;> rfl) (Calls.evalArgs_plain ?_)
  exact thn hA fun us s2 ⟨vs, H2, I2, r2, q2⟩ => hm pins s2 σ H2 x vs v us Q I2 r1 r2 q2
end
end L2
namespace L2
open PySem PySem.Spec PyProof.Rows
noncomputable def MtM (X : Cx) (id : String) (r : V → List V → Hp → VK → Prop) : Prop :=
  ∀ (pins : List (Addr × Obj)) (s : Shared) (σ : St) (H : Hp) (x : V) (xs : List V) (v : Value) (us : List Value) (Q : VK), Inv X pins σ H s → RelV x v → Vals xs us → r x xs H Q →
    wpAny (model X.prog X.w) X.A (call (.builtin id) (v :: us)) (EP X pins σ Q) X.xe s
theorem Vals.one : ∀ {x : V} {us : List Value}, Vals [x] us → ∃ u, us = [u] ∧ RelV x u
  | _, _, .cons r .nil => ⟨_, rfl, r⟩
theorem Vals.rep {xs : List V} {us : List Value} (h : Vals xs us) : ∀ k : Nat, Vals (List.replicate k xs).flatten (List.replicate k us).flatten
  | 0 => .nil
  | k + 1 => by
    rw [List.replicate_succ, List.replicate_succ, List.flatten_cons, List.flatten_cons]
    exact Vals.append h (Vals.rep h k)
theorem foldl_rep (its : List Value) : ∀ (k : Nat) (acc : List Value),
    List.foldl (fun x1 x2 => x1 ++ x2) acc.toArray (List.replicate k its.toArray) = (acc ++ (List.replicate k its).flatten).toArray
  | 0, acc => by simp
  | k + 1, acc => by
    have e : acc.toArray ++ its.toArray = (acc ++ its).toArray := by simp
    have e2 : (acc ++ its) ++ (List.replicate k its).flatten = acc ++ (List.replicate (k + 1) its).flatten := by
      rw [List.replicate_succ, List.flatten_cons, List.append_assoc]
    rw [← e2, ← foldl_rep its k (acc ++ its), ← e, List.replicate_succ, List.foldl_cons]
section
variable {X : Cx} {pins : List (Addr × Obj)} {σ : St} {H : Hp} {s : Shared} {l b : Addr} {xs ys zs : List V}
theorem Inv.lset {its its' : List Value} {n : Nat} {f : Array Value → Array Value} {t' : Nat} (I : Inv X pins σ H s) (hH : H l = some (.lst xs))
    (e : s.heap.get? l = some { cls := .type "list", data := .seq its.toArray n }) (hf : f its.toArray = its'.toArray) (hv : Vals ys its') (hz : ys.length ≤ sizeLine) :
    Inv X pins σ (upd H l (.lst ys)) { s with heap := s.heap.update l (Obj.mapSeq f), toks := t' } := by
  have q := PySem.IsL.update e f
  rw [hf] at q
  refine I.write (x := l) (e := l) (by rw [hH]; exact trivial) (.inl rfl) (fun b' u hb hu => (Heap.get?_update_other s.heap (Obj.mapSeq f) (Ne.symm hb)).trans hu) ⟨_, q⟩ ?_
  exact ⟨hz, its', _, hv, q⟩
theorem Inv.lnew {its : List Value} {t' : Nat} (I : Inv X pins σ H s) (hv : Vals ys its) (hz : ys.length ≤ sizeLine) :
    Inv X pins σ (upd H s.heap.objs.size (.lst ys)) { s with heap := s.heap.push { cls := .type "list", data := .seq its.toArray }, toks := t' } :=
  I.laid (fun _ _ q => Heap.get?_push_of_some _ q) (Nat.le_refl _) ⟨hz, its, 0, hv, Heap.get?_push_size _ rfl⟩
theorem Inv.fresh (I : Inv X pins σ H s) : H s.heap.objs.size = none := I.hok.fresh (Nat.le_refl _)
theorem Inv.lstM (I : Inv X pins σ H s) (hH : H l = some (.lst xs)) : xs.length ≤ sizeLine ∧ ∃ (its : List Value) (n : Nat), Vals xs its ∧ xs.length = its.length ∧ s.heap.get? l = some { cls := .type "list", data := .seq its.toArray n } := by
  obtain ⟨z, its, n, r, e⟩ := I.hok l _ hH
  exact ⟨z, its, n, r, r.length, e⟩
theorem notLongL {n : Nat} (h : n ≤ sizeLine) : Builtin.List.listTooLong n = false := by
  unfold Builtin.List.listTooLong
  exact decide_eq_false (by omega)
end
section
variable {X : Cx}
noncomputable def rAppend : V → List V → Hp → VK → Prop := fun x vs H Q => ∃ l xs y, x = .ref l ∧ vs = [y] ∧ H l = some (.lst xs) ∧ xs.length < sizeLine ∧ Q .non (upd H l (.lst (xs ++ [y])))
theorem mt_append : MtM X "list.append" rAppend := by
  intro pins s σ H x vs v us Q I rx rv h
  obtain ⟨l, xs, y, rfl, rfl, hH, hz, q⟩ := h
  cases rx
  obtain ⟨u, rfl, ru⟩ := rv.one
  obtain ⟨z, its, n, r, hl, e⟩ := I.lstM hH
  refine call_meets F.slot_list_append ⟨_, e, rfl⟩ F.entry_list_append (F.args_list_append_2 _ _) (PySem.list_append l its.toArray n u (by rw [List.size_toArray]; omega)) ⟨e, ?_⟩
  refine ⟨.non, _, I.lset (its' := its ++ [u]) hH e (by simp) (r.append (.cons ru .nil)) ?_, rfl, q⟩
  rw [List.length_append, List.length_singleton]
  omega
noncomputable def rCat : R2 := fun x y H Q => ∃ l b xs zs, x = .ref l ∧ y = .ref b ∧ H l = some (.lst xs) ∧ H b = some (.lst zs) ∧ xs.length + zs.length ≤ sizeLine ∧ ∀ p, H p = none → Q (.ref p) (upd H p (.lst (xs ++ zs)))
theorem op_cat : OpR X (binaryOp .Add) rCat := by
  intro pins s σ H x y v u Q I rx ry h
  obtain ⟨l, b, xs, zs, rfl, rfl, hH, hB, hz, q⟩ := h
  cases rx
  cases ry
  obtain ⟨z, its, n, r, hl, e⟩ := I.lstM hH
  obtain ⟨z2, its2, n2, r2, hl2, e2⟩ := I.lstM hB
  refine PySem.P.add_list e e2 ?_ (by rw [List.size_toArray, List.size_toArray]; omega)
  have ea : its.toArray ++ its2.toArray = (its ++ its2).toArray := by simp
  rw [ea]
  exact ⟨.ref _, _, I.lnew (t' := s.toks) (r.append r2) (by rw [List.length_append]; omega), rfl, q _ I.fresh⟩
noncomputable def rRep : R2 := fun x y H Q => ∃ l k xs, x = .ref l ∧ y = .int k ∧ H l = some (.lst xs) ∧ -(2 ^ 63) ≤ k ∧ k < 2 ^ 63 ∧ xs.length * k.toNat ≤ sizeLine ∧
  ∀ p, H p = none → Q (.ref p) (upd H p (.lst (List.replicate k.toNat xs).flatten))
theorem len_rep {α : Type} (xs : List α) (k : Nat) : (List.replicate k xs).flatten.length = k * xs.length := by
  induction k with
  | zero => simp
  | succ k ih => rw [List.replicate_succ, List.flatten_cons, List.length_append, ih, Nat.succ_mul, Nat.add_comm]
theorem op_rep : OpR X (binaryOp .Mult) rRep := by
  intro pins s σ H x y v u Q I rx ry h
  obtain ⟨l, k, xs, rfl, rfl, hH, h1, h2, hz, q⟩ := h
  cases rx
  obtain ⟨t, rfl⟩ := ry
  obtain ⟨z, its, n, r, hl, e⟩ := I.lstM hH
  have hlen : its.toArray.size * k.toNat ≤ sizeLine := by rw [List.size_toArray, ← hl]; exact hz
  have hcap : ¬ its.toArray.size * k.toNat > (2 ^ 63 - 1) / 8 := by
    have : (sizeLine : Nat) ≤ (2 ^ 63 - 1) / 8 := by decide
    omega
  have hfit : ¬ (!Builtin.List.listFitsIndex k) = true := by
    rw [fitsIndex_both h1 h2]
    exact Bool.false_ne_true
  have hlong : ¬ Builtin.List.listTooLong (its.toArray.size * k.toNat) = true := by
    rw [notLongL hlen]
    exact Bool.false_ne_true
  have hnew : List.foldl (fun x1 x2 => x1 ++ x2) #[] (List.replicate (if its.toArray.isEmpty = true then 0 else k.toNat) its.toArray) = (List.replicate k.toNat its).flatten.toArray := by
    have f0 : ∀ m : Nat, List.foldl (fun x1 x2 => x1 ++ x2) #[] (List.replicate m its.toArray) = (List.replicate m its).flatten.toArray := fun m => by
      have := foldl_rep its m []
      rw [List.nil_append] at this
      exact this
    rw [f0]
    cases its with
    | nil => simp
    | cons a r' => rw [if_neg (by simp)]
  refine wpAny_binaryOp_repeat_ref (T := "list") (U := "int") (by decide) ⟨_, e, rfl⟩ (fun s' => typeIs_int s' k t) noFill_list_mul F.fills_int_mul F.slot_int_rmul repeat_list F.slot_int_index.lookup
    (call_meets F.slot_int_rmul (typeIs_int s k t) F.entry_int_rmul (F.args_int_rmul_2 _ _) (int___rmul___int_list k t l its.toArray n)
      ⟨e, rfl, ⟨_, e, rfl⟩, call_meets F.slot_list_mul ⟨_, e, rfl⟩ F.entry_list_mul (F.args_list_mul_2 _ _) (AutoListH.list___mul___list_int_3 l its.toArray n k t hfit hcap hlong) ⟨e, ?_⟩⟩)
  rw [hnew]
  exact ⟨.ref _, _, I.lnew (t' := s.toks) (r.rep k.toNat) (by rw [len_rep, Nat.mul_comm]; exact hz), rfl, q _ I.fresh⟩
end
section
variable {prog : Program} {w : World} {A : Around} {E : Value → Shared → Prop} {s : Shared}
set_option maxRecDepth 100000 in
end
end L2
namespace Att
open PySem PySem.W PySem.Calls PyProof.Rows
theorem ints_of_wellAll {P : Params} {h : Heap} : ∀ (ns : List Int) (vs : List Value), WellAll P h vs (ns.map WData.int) → IntsAre vs ns := by
  intro ns
  induction ns with
  | nil =>
    intro vs w
    rw [List.map_nil] at w
    cases w
    exact .nil
  | cons n ns ih =>
    intro vs w
    rw [List.map_cons] at w
    cases w with
    | cons a b =>
      cases a
      exact .cons _ _ (ih _ b)
theorem script_of {l : OpenLaw} {n : Nat} (hn : l.most = some n) {P : Params} {h : Heap} {args : List WData} {vals : List Value}
    (hpre : l.row.toRowW.claim.pre args = true) (hwl : WellAll P h vals args) :
    ∃ a vs ns, vals = [Value.ref a] ∧ args = [WData.list (ns.map WData.int)] ∧ h.get? a = some { cls := .type "list", data := .seq vs.toArray } ∧ IntsAre vs ns ∧ ns.length ≤ n := by
  have hsh : WShape.hasAll [] args [.list .int] = true := (pre_splitW hpre).1
  have hc : l.pre.holds [] { args := args } = true := (pre_splitW hpre).2
  obtain ⟨d, r, rfl, h1, h2⟩ := hasAllW_cons hsh
  obtain rfl := hasAllW_nil h2
  obtain ⟨xs, rfl, h3⟩ := hasW_list h1
  obtain ⟨ns, rfl⟩ := items_int h3
  have hlen : ns.length ≤ n := by
    unfold OpenLaw.pre at hc
    have h4 : (WTm.not (.lt (.lit (.int (n : Int))) (.len (.arg 0)))).holds [] { args := [.list (ns.map .int)] } = true := by
      have h4 := (holds_andW hc).1
      rw [hn] at h4
      exact h4
    have h5 := condW_of h4 (w_not (w_lt w_lit (w_len_list (w_arg rfl))))
    rw [List.length_map] at h5
    refine Nat.le_of_not_lt fun q => ?_
    have q' : (n : Int) < ((ns.length : Nat) : Int) := by omega
    first
      | (rw [decide_eq_true q'] at h5; exact absurd h5 (by decide))
      | (simp at h5; omega)
  cases hwl with
  | cons w1 w2 =>
    cases w2
    cases w1 with
    | list ho hall => exact ⟨_, _, ns, rfl, rfl, ho, ints_of_wellAll ns _ hall, hlen⟩
theorem post_true (l : OpenLaw) (args : List WData) : l.row.toRowW.claim.post args (.bool true) args = true :=
  postW_of (r := l.row.toRowW) (X := (true == true))
    (show WShape.has [] (.bool true) .bool = true by first | rfl | decide | simp [WShape.has, WShape.arms, WShape.armsAll])
    (show (WTm.eq .res (.lit (.bool true))).value [] { args := args, res := some (.bool true), after := args } = some (.bool (true == true)) from w_eq_bool (w_res rfl) w_lit) rfl
theorem attach_call {l : OpenLaw} {n : Nat} {q : Program} {loose : List Str} {XP : (Str → Option Value) → Heap → Prop} {YP : World → Heap → Prop} {d : DefRec}
    (hn : l.most = some n) (hdf : d.params.defaults = [])
    (call : ∀ (w : World) (s₀ s₁ : Shared) (mg mb : Str → Option Value) (fa : Addr) (o : Obj) (pm cd doc : Value) (a : Addr) (vs : List Value) (ns : List Int),
      Ground q loose [] XP w s₀ mg mb s₁.heap → YP w s₁.heap →
      s₁.heap.get? fa = some o → o.data = .func (docDef d.name d.params d.body d.scope pm cd doc) → s₁.heap.CodeRec cd d.name → mg d.name = some (.ref fa) →
      s₁.heap.get? a = some { cls := .type "list", data := .seq vs.toArray } → IntsAre vs ns → ns.length ≤ n → s₁.gens = #[] →
      codeAny (model l.prog w) callerA (.call (.ref fa) ⟨[.ref a], []⟩) (fun r s' => r = .ok (.ret (.bool true)) ∧ OldK s₁.heap s'.heap ∧ s'.os = s₁.os ∧ AllBare s'.gens) s₁) :
    WalkO q loose XP YP l.row.toRowW d [] (fun f vs => PySem.call f vs) := by
  intro w s₀ s₁ mg mb G Y fa o pm cd doc dV kV ho hd hcd hD hmg hg args vals as hpre hlay hrd hwl hlo
  obtain rfl : dV = .none := Dflts.none hD hdf
  obtain rfl : kV = .none := Dflts.noKw hD
  obtain ⟨a, vs, ns, rfl, rfl, hobj, hints, hlen⟩ := script_of hn hpre hwl
  refine enter_call (codeAny_mono (call w s₀ s₁ mg mb fa o pm cd doc a vs ns G Y ho (fd_plain hd) hcd hmg hobj hints hlen hg) fun r s' hq => ?_)
  obtain ⟨rfl, h2, h3, h4⟩ := hq
  exact ⟨.inl ⟨.bool true, .bool true, [], rfl, fun _ => rfl, .bool true, post_true l _, fun _ => ⟨List.Pairwise.nil, fun _ hm => (nomatch hm)⟩⟩, h2, h3, h4⟩
end Att
namespace L2
open PySem PySem.Spec PyProof.Rows
theorem vals_ints : ∀ {vs : List Value} {ns : List Int}, IntsAre vs ns → Vals (ns.map V.int) vs
  | _, _, .nil => .nil
  | _, _, .cons n t h => .cons ⟨t, rfl⟩ (vals_ints h)
noncomputable def Only (H : Hp) : Prop := ∀ b, H b = none ∨ ∃ o xs, H b = some (.frz o (.lst xs))
theorem law_call {P : Program} {w : World} {K : PySem.W.Frag} {mg mb : Str → Option Value} {CX : CXT} {k : Nat} {fa a : Addr} {fd : FuncData} {x : Str} {sp : Sp} {s₁ : Shared} {vs : List Value} {ns : List Int}
    (KX : K.In s₁.heap) (hns : s₁.heap.Ns mainGlobals mg) (hb : s₁.heap.Ns builtinsNs mb) (hbb : ∀ x : Str, x ≠ "__name__" → mb x = bootBuiltins x) (hlim : s₁.heap.NoLimit) (hg : s₁.gens = #[])
    (ha : s₁.heap.get? a = some { cls := .type "list", data := .seq vs.toArray }) (hi : IntsAre vs ns) (hl : ns.length ≤ sizeLine) (hr : Room k callerA)
    (F : ∀ base : Heap, K.In base → base.Ns mainGlobals mg → FnOk P w K mg base CX k fa fd [x] sp) (hbind : ∀ (s : Shared) (u : Value), BindsTo s fd ⟨[u], []⟩ [(x, u)])
    (hsp : ∀ H : Hp, Only H → SqL K H a (ns.map V.int) → sp [.ref a] H (fun v _ => v = .bl true) fun _ _ _ => False)
    (hCX : ∀ H e s', CX [] H s₁ (fun _ _ _ => False) e s' → False) :
    codeAny (model P w) callerA (.call (.ref fa) ⟨[.ref a], []⟩) (fun r s' => r = .ok (.ret (.bool true)) ∧ OldK s₁.heap s'.heap ∧ s'.os = s₁.os ∧ AllBare s'.gens) s₁ := by
  have rv := vals_ints hi
  have lenV := hi.length
  have core : ∀ H : Hp, Only H → SqL K H a (ns.map V.int) → HOk P w H s₁.heap → (∀ b, H b ≠ none → b = a) → (H a ≠ none → K.lookup a = none) →
      codeAny (model P w) callerA (.call (.ref fa) ⟨[.ref a], []⟩) (fun r s' => r = .ok (.ret (.bool true)) ∧ OldK s₁.heap s'.heap ∧ s'.os = s₁.os ∧ AllBare s'.gens) s₁ := by
    intro H hO hS hok hA hK
    have base_of : ∀ {b : Addr} {o : Obj}, s₁.heap.get? b = some o → H b = none → (hidT s₁.heap H).get? b = some o := fun e n => hidT_get e n
    have noA : ∀ {b : Addr} {o : Obj} {es : Array DictEntry} {ep : Nat}, s₁.heap.get? b = some o → o.data = .dict es ep → H b = none := fun {b o es ep} e d => by
      cases q : H b with
      | none => rfl
      | some u =>
        have e' : b = a := hA b (by rw [q]; simp)
        subst e'
        rw [ha] at e; cases e
        have d' : Data.seq vs.toArray _ = Data.dict es ep := d
        cases d'
    have nsK : ∀ {b : Addr} {m : Str → Option Value}, s₁.heap.Ns b m → (hidT s₁.heap H).Ns b m := fun {b m} ⟨o, es, ep, e, d, r⟩ => ⟨o, es, ep, base_of e (noA e d), d, r⟩
    have hKb : K.In (hidT s₁.heap H) := fun b o e => base_of (KX b o e) (by
      cases q : H b with
      | none => rfl
      | some u =>
        have e' : b = a := hA b (by rw [q]; simp)
        subst e'
        rw [hK (by rw [q]; simp)] at e; cases e)
    have hM : Mod K mg (hidT s₁.heap H) := ⟨hKb, nsK hns, ⟨mb, nsK hb, hbb⟩, let ⟨mc, h1, h2⟩ := hlim; ⟨mc, nsK h1, h2⟩⟩
    have e0 : Env0 P w K mg (hidT s₁.heap H) callerA [] s₁ H := ⟨rfl, hM, fun b o e => of_hidT e, Nat.le_of_eq (hidT_size _ _), trivial, fun b hb => absurd (show b ∈ ([] : List Addr) from hb) (by simp), hok, .of_eq hg⟩
    refine codeAny_mono ((F _ hKb (nsK hns)).run callerA [] s₁ H ⟨[.ref a], []⟩ [.ref a] [.ref a] _ _ hr e0 (hbind s₁ (.ref a)) (.cons rfl .nil) (hsp H hO hS)) fun r s' h => ?_
    cases r with
    | error e => exact (hCX H e s' h).elim
    | ok fl =>
      cases fl with
      | next => exact False.elim h
      | brk => exact False.elim h
      | cont => exact False.elim h
      | ret u =>
        obtain ⟨v, H', os, bare, un, hok', r', q⟩ := h
        have q' : v = .bl true := q
        subst q'
        obtain rfl : u = Value.bool true := r'
        refine ⟨rfl, OldK.of_keep fun b o e => ?_, os, bare⟩
        cases q : H b with
        | none => exact un.keep b o e q (by intro z; exact absurd (show b ∈ ([] : List Addr) from z) (by simp)) (by simp)
        | some u =>
          rcases hO b with z | ⟨ob, xs, z⟩
          · rw [q] at z; cases z
          · have z2 := un.frzs b ob _ z
            obtain ⟨e1, _⟩ := hok b _ z
            obtain ⟨e2, _⟩ := hok' b _ z2
            rw [e] at e1; cases e1
            exact e2
  cases hk : K.lookup a with
  | some o =>
    have e := KX a o hk
    rw [ha] at e
    cases e
    refine core (fun _ => none) (fun _ => .inl rfl) (.inr ⟨_, vs.toArray, _, hk, rfl, rfl, rfl, by rw [List.size_toArray, lenV]; exact hl, by simpa using rv⟩) (fun b u z => by have z' : (none : Option HO) = some u := z; cases z') (fun b z => absurd rfl z) fun z => absurd rfl z
  | none =>
    refine core (fun b => if b = a then some (.frz { cls := .type "list", data := .seq vs.toArray } (.lst (ns.map V.int))) else none) (fun b => ?_) (.inl (.inr ⟨{ cls := .type "list", data := .seq vs.toArray }, if_pos rfl⟩)) (fun b u z => ?_) (fun b z => ?_) fun _ => hk
    · by_cases hb : b = a
      · exact .inr ⟨_, _, if_pos hb⟩
      · exact .inl (if_neg hb)
    · by_cases hb : b = a
      · have z' := (if_pos hb).symm.trans z
        cases z'
        subst hb
        exact ⟨ha, by rw [List.length_map]; exact hl, vs, _, rv, ha⟩
      · have z' := (if_neg hb).symm.trans z
        cases z'
    · by_cases hb : b = a
      · exact hb
      · exact absurd (if_neg hb) z
end L2
namespace L2
open PySem PySem.Spec PyProof.Rows
theorem walk_of {l : PySem.W.OpenLaw} {n k : Nat} {q : Program} {loose : List Str} {XP : (Str → Option Value) → Heap → Prop} {YP : World → Heap → Prop} {d : DefRec} {K : Params → PySem.W.Frag} {CX : World → CXT} {sp : World → Sp} {x : Str}
    (hn : l.most = some n) (hn2 : n ≤ sizeLine) (hdf : d.params.defaults = []) (hr : Room k callerA)
    (hY : ∀ (w : World) (h : Heap), YP w h → (K w.params).In h)
    (F : ∀ (w : World) (mg : Str → Option Value) (fa : Addr) (h : Heap), (K w.params).In h → h.Ns mainGlobals mg → mg d.name = some (.ref fa) →
      ∃ fd : FuncData, (∀ (s : Shared) (u : Value), BindsTo s fd ⟨[u], []⟩ [(x, u)]) ∧
        ∀ base : Heap, (K w.params).In base → base.Ns mainGlobals mg → FnOk l.prog w (K w.params) mg base (CX w) k fa fd [x] (sp w))
    (hsp : ∀ (w : World) (H : Hp) (a : Addr) (ns : List Int), ns.length ≤ n → Only H → SqL (K w.params) H a (ns.map V.int) → sp w [.ref a] H (fun v _ => v = .bl true) fun _ _ _ => False)
    (hCX : ∀ (w : World) (H : Hp) (s : Shared) (e : Value) (s' : Shared), CX w [] H s (fun _ _ _ => False) e s' → False) :
    PySem.W.WalkO q loose XP YP l.row.toRowW d [] (fun f vs => PySem.call f vs) := by
  refine Att.attach_call hn hdf fun w s₀ s₁ mg mb fa o pm cd doc a vs ns G Y ho hd hcd hmg hobj hints hlen hg => ?_
  have KX := hY w _ Y
  obtain ⟨fd, hb, hF⟩ := F w mg fa _ KX G.T.g hmg
  exact law_call KX G.T.g G.T.b G.T.builtins G.T.nolimit hg hobj hints (Nat.le_trans hlen hn2) hr hF hb (fun H hO hS => hsp w H a ns hlen hO hS) fun H e s' => hCX w H s₁ e s'
end L2
namespace L2
open PySem PySem.Spec PyProof.Rows
noncomputable def defArgs (s : Stmt) : Arguments := match s with
  | .FunctionDef _ a _ _ _ _ _ _ _ _ => a
  | _ => { posonlyargs := [], args := [], vararg := none, kwonlyargs := [], kw_defaults := [], kwarg := none, defaults := [] }
noncomputable def defBody (s : Stmt) : List Stmt := match s with
  | .FunctionDef _ _ b _ _ _ _ _ _ _ => b
  | _ => []
noncomputable def defScope (s : Stmt) : Scope := match s with
  | .FunctionDef _ _ _ _ _ _ sc _ _ _ => sc
  | _ => { kind := .function, names := [], isGenerator := false, isCoroutine := false }
noncomputable abbrev CX0 : CXT := fun _ _ _ _ _ _ => False
noncomputable abbrev E0 : XK := fun _ _ _ => False
theorem pass0 {X : Cx} : Passes CX0 X E0 := fun _ _ _ _ _ _ _ h => h.elim
structure Fun (K : PySem.W.Frag) (x qual : Str) (st : Stmt) (f : Addr) (fd : FuncData) : Prop where
  ex : ∃ (oc : Value) (od : Option Addr) (kV doc pm : Value) (an : Option Addr) (cdv ct : Value) (osl : Array (Option Value)),
    fd = PySem.W.fnOf x qual (defArgs st) (defBody st) (defScope st) .none kV doc pm an cdv ct ∧ K.lookup f = some ⟨oc, od, .func fd, osl⟩ ∧ PySem.W.codeIn K cdv qual = true
  kp : PySem.W.keepIn K (.ref f) = true
section
variable {P : Program} {w : World} {K : PySem.W.Frag} {mg : Str → Option Value} {base : Heap}
theorem Fun.ok {x qual : Str} {st : Stmt} {f : Addr} {fd : FuncData} {N ps : List Str} {k : Nat} {sp : Sp} (F : Fun K x qual st f fd) (S : FnScope N ps (defScope st)) (len : ∀ vs H Q E, sp vs H Q E → vs.length = ps.length)
    (hbody : ∀ (cdv : Value) (A : Around) (outer : List Env) (s : Shared) (H : Hp) (vs : List V) (Q : VK) (E : XK), Room k (A.deeper (envOfC qual (defScope st) s.heap.objs.size f cdv)) → sp vs H Q E →
      ∃ t, PSs (cxOf CX0 P w K mg base N qual (defScope st) f cdv A outer s H E).nox (defBody st) t ∧ t { nx := fun _ H' => Q .non H', rt := Q } (start N vs) H) : FnOk P w K mg base CX0 (k + 1) f fd ps sp := by
  obtain ⟨oc, od, kV, doc, pm, an, cdv, ct, osl, rfl, lk, hcd⟩ := F.ex
  refine fn_of lk hcd S len fun A outer s H vs Q E hr hsp => ?_
  obtain ⟨t, h, q⟩ := hbody cdv A outer s H vs Q E hr hsp
  exact ⟨t, h.nox, q⟩
theorem fun_mk {x qual : Str} {st : Stmt} {f : Addr} {oc : Value} {od an : Option Addr} {osl : Array (Option Value)} {kV doc pm cdv ct : Value} (l : K.lookup f = some ⟨oc, od, .func (PySem.W.fnOf x qual (defArgs st) (defBody st) (defScope st) .none kV doc pm an cdv ct), osl⟩)
    (c : PySem.W.codeIn K cdv qual = true) (k : PySem.W.keepIn K (.ref f) = true) : Fun K x qual st f (PySem.W.fnOf x qual (defArgs st) (defBody st) (defScope st) .none kV doc pm an cdv ct) := ⟨⟨oc, od, kV, doc, pm, an, cdv, ct, osl, rfl, l, c⟩, k⟩
end
theorem small1000 {n : Nat} (h : n ≤ 1000) : n < sizeLine := Nat.lt_of_le_of_lt h (by decide)
section
variable {X : Cx}
theorem pv (i : Nat) {x : Str} {pos : Pos} (hN : X.N[i]? = some x := by rfl) (hv : Vis X.env.scope x := by first | exact Or.inl rfl | exact Or.inr (Or.inl rfl) | exact Or.inr (Or.inr rfl)) (hd : (x == ("__debug__" : Str)) = false := by decide)
    (hcd : (x == ("__classdict__" : Str)) = false := by decide) : PE X (.Name x pos) (tVar i) := pe_var hN hv hd hcd
end
noncomputable def Same (H H' : Hp) : Prop := ∀ b o, H b = some o → H' b = some o
theorem Same.refl (H : Hp) : Same H H := fun _ _ h => h
theorem Same.trans {H H1 H2 : Hp} (a : Same H H1) (b : Same H1 H2) : Same H H2 := fun c o h => b c o (a c o h)
theorem Same.free {H H' : Hp} (e : Same H H') {l : Addr} (h : H' l = Option.none) : H l = Option.none := by
  cases q : H l with
  | none => rfl
  | some o =>
    rw [e l o q] at h
    cases h
theorem Same.seq {K : PySem.W.Frag} {H H' : Hp} {a : Addr} {xs : List V} (e : Same H H') (h : SqL K H a xs) : SqL K H' a xs := by
  rcases h with (h | ⟨o, h⟩) | h
  · exact .inl (.inl (e _ _ h))
  · exact .inl (.inr ⟨o, e _ _ h⟩)
  · exact .inr h
end L2

set_option maxHeartbeats 4000000

section
namespace L2
open PySem PySem.Spec PyProof.Rows
section
variable {κ : Type} [DecidableEq κ]
end
theorem kV_is {P : Program} {w : World} {k : Key} {u : Value} (r : RelV (kV k) u) : (mixKind P w).is k u = true := by
  cases k with
  | inl i => obtain ⟨t, e⟩ := (show ∃ t, u = Value.int i t from r); subst e; exact mixKind_int P w i t
  | inr x => obtain ⟨t, e⟩ := (show ∃ t, u = Value.str x t from r); subst e; exact mixKind_str P w x t
section
variable {X : Cx} {pins : List (Addr × Obj)} {σ : St} {H : Hp} {s : Shared} {a : Addr} {y v : V} {u r : Value} {o : Option V} {A : Around} {E : Value → Shared → Prop}
end
noncomputable def NoSl (i : Expr) : Prop := ∀ ov iv, subscripted i false ov iv = operate [ov, iv] (getItem ov iv)
theorem subD_of {prog : Program} {w : World} {A : Around} {E : Value → Shared → Prop} {s : Shared} {env : Env} {value slice : Expr} {pos : Pos} {T id : String} {Q : Value → Shared → Prop}
    (hl : typeLookup (.type T) "__getitem__" = pure (some (.builtin id))) (hs : NoSl slice)
    (h : wpAny (model prog w) A (eval value env) (fun o s₁ => wpAny (model prog w) A (eval slice env) (fun i s₂ => s₂.TypeIs o T ∧ wpAny (model prog w) A (getItem o i) Q E s₂) E s₁) E s) :
    wpAny (model prog w) A (eval (.Subscript value slice pos) env) Q E s := by
  refine Subscript_ (wpAny_mono h (fun o s₁ h₁ => wpAny_mono h₁ (fun i s₂ h₂ => ?_) fun _ _ x => x) fun _ _ x => x)
  obtain ⟨hT, h₂⟩ := h₂
  unfold subscriptTail
  refine wpAny_bind ?_
  rw [getitemInPython_of_ne hT.not_modules]
  refine wpAny_bind (wpAny_specialOf hT hl ?_)
  have fin : wpAny (model prog w) A (subscripted slice false o i) (fun r s₃ => wpAny (model prog w) A (letTemporaryGo value o r >>= fun _ => pure r) Q E s₃) E s₂ := by
    rw [hs o i]
    exact wpAny_operating (wpAny_mono h₂ (fun r s₃ h₃ => wpAny_bind (wpAny_letTemporaryGo (wpAny_pure h₃))) fun _ _ x => x)
  first
    | exact wpAny_pure (wpAny_bind fin)
    | exact wpAny_bind (wpAny_pure (wpAny_bind fin))
    | exact wpAny_bind fin
structure M1 (X : Cx) (o : Expr) (m : Str) (apos : Pos) (e : Expr) (cpos : Pos) : Prop where
  base : attributeBase o m X.env (eval o X.env) = eval o X.env
  few : ((backTo cpos (starEach [e] X.env)).all (fun x => !x.1) && (backToKw cpos (keywordEach [] X.env)).all (fun x => x.1.isSome)
    && decide (([e] : List Expr).length + ([] : List Keyword).length + (if ([] : List Keyword).isEmpty then 0 else 1) < 30)) = true
  line : (apos.endLine == cpos.line) = true
  trees : backTo cpos (starEach [e] X.env) = [(false, eval e X.env)]
end L2
end
section
namespace L2
open PySem PySem.Spec PyProof.Rows
noncomputable def clOf (cells : List (Str × Addr)) : List (Str × NameKind) → List (Str × Addr) → List (Str × Addr)
  | [], acc => acc
  | (n, k) :: r, acc => if k == .free then clOf cells r ((n, (cells.lookup n).getD 0) :: acc) else clOf cells r acc
theorem closure_ok {scope : Scope} {env : Env} (h : ∀ y ∈ scope.names, y.2 = .free → (env.cells.lookup y.1).isSome = true) : closureFor scope env = pure (clOf env.cells scope.names []) := by
  unfold closureFor
  generalize scope.names = names at h ⊢
  generalize ([] : List (Str × Addr)) = acc
  dsimp only
  induction names generalizing acc with
  | nil => rfl
  | cons x r ih =>
    obtain ⟨n, k⟩ := x
    have hr := ih (fun y hy => h y (List.mem_cons_of_mem _ hy))
    rw [List.forIn_cons]
    unfold clOf
    by_cases hk : (k == NameKind.free) = true
    · have hs := h (n, k) List.mem_cons_self (by simpa using hk)
      obtain ⟨c, hc⟩ := Option.isSome_iff_exists.mp hs
      have hc' : cellOf env n = pure c := by unfold cellOf; rw [show env.cells.lookup n = some c from hc]
      simp only [hk, if_true]
      rw [hc', show (env.cells.lookup n).getD 0 = c by rw [show env.cells.lookup n = some c from hc]; rfl]
      exact hr _
    · simp only [hk]
      exact hr _
theorem clOf_of {cells : List (Str × Addr)} {x : Str} {c : Addr} : ∀ {names : List (Str × NameKind)} {acc : List (Str × Addr)}, (∀ y ∈ names, y.2 = .free → (cells.lookup y.1).isSome = true) → (∀ x c, acc.lookup x = some c → cells.lookup x = some c) →
    (clOf cells names acc).lookup x = some c → cells.lookup x = some c
  | [], _, _, ha, h => ha x c h
  | (n, k) :: r, acc, hs, ha, h => by
    unfold clOf at h
    by_cases hk : (k == NameKind.free) = true
    · rw [if_pos hk] at h
      refine clOf_of (fun y hy => hs y (List.mem_cons_of_mem _ hy)) (fun z d hz => ?_) h
      obtain ⟨e, he⟩ := Option.isSome_iff_exists.mp (hs (n, k) List.mem_cons_self (by simpa using hk))
      have he' : cells.lookup n = some e := he
      rw [List.lookup_cons] at hz
      cases hzn : z == n with
      | true =>
        rw [hzn] at hz
        have : z = n := by simpa using hzn
        subst this
        rw [he'] at hz ⊢
        exact hz
      | false => rw [hzn] at hz; exact ha z d hz
    · rw [if_neg hk] at h
      exact clOf_of (fun y hy => hs y (List.mem_cons_of_mem _ hy)) ha h
theorem clOf_acc {cells : List (Str × Addr)} {x : Str} : ∀ {names : List (Str × NameKind)} {acc : List (Str × Addr)}, (acc.lookup x).isSome = true → ((clOf cells names acc).lookup x).isSome = true
  | [], _, h => h
  | (n, k) :: r, acc, h => by
    unfold clOf
    split
    · refine clOf_acc ?_
      rw [List.lookup_cons]
      split
      · rfl
      · exact h
    · exact clOf_acc h
theorem clOf_has {cells : List (Str × Addr)} {x : Str} : ∀ {names : List (Str × NameKind)} {acc : List (Str × Addr)}, (x, NameKind.free) ∈ names → ((clOf cells names acc).lookup x).isSome = true
  | [], _, h => nomatch h
  | (n, k) :: r, acc, h => by
    unfold clOf
    rcases List.mem_cons.mp h with e | h
    · cases e
      rw [if_pos (by rfl)]
      exact clOf_acc (by rw [List.lookup_cons]; simp)
    · split
      · exact clOf_has h
      · exact clOf_has h
noncomputable def Cx.blk (X : Cx) (scope : Scope) (N' : List Str) (C : Addr) (s : Shared) (H : Hp) (ex : List Addr) : Cx :=
  { X with N := N', s₀ := s, H₀ := H, env := compEnvC scope (clOf X.env.cells scope.names []) C X.env, outer := X.stack, ex := ex, fn := fun _ => false, pn := [], xe := fun _ _ => False }
noncomputable def subσ (fm : List (Option Nat)) (σ : St) : St := fm.map fun o => o.bind fun j => (σ[j]?).join
structure BlkOk (X : Cx) (scope : Scope) (N' : List Str) (fm : List (Option Nat)) : Prop where
  kind : scope.kind = .function
  nocell : ∀ y ∈ scope.names, y.2 ≠ .cell
  names : ∀ y ∈ scope.names, y.2 = .local → scope.names.lookup y.1 = some .local
  free : ∀ y ∈ scope.names, y.2 = .free → X.env.kindOf y.1 = some .cell
  len : fm.length = N'.length
  out : ∀ (i j : Nat) (x : Str), fm[i]? = some (some j) → N'[i]? = some x → X.N[j]? = some x ∧ scope.names.lookup x = some .free ∧ X.env.kindOf x = some .cell
theorem BlkOk.has {X : Cx} {scope : Scope} {N' : List Str} {fm : List (Option Nat)} (B : BlkOk X scope N' fm) (ok : X.Ok) : ∀ y ∈ scope.names, y.2 = .free → (X.env.cells.lookup y.1).isSome = true := fun y hy e => by
  obtain ⟨c, hc⟩ := ok.has y.1 (.inl (B.free y hy e))
  rw [hc]; rfl
noncomputable def blkChk (kind : ScopeKind) (names : List (Str × NameKind)) (kindOf : Str → Option NameKind) (N N' : List Str) (fm : List (Option Nat)) : Bool :=
  kind == .function && (names.all fun y => y.2 != .cell) && (names.all fun y => y.2 != .local || names.lookup y.1 == some .local) && (names.all fun y => y.2 != .free || kindOf y.1 == some .cell) && fm.length == N'.length &&
    ((fm.zip N').all fun p => match p.1 with | none => true | some j => N[j]? == some p.2 && names.lookup p.2 == some .free && kindOf p.2 == some .cell)
theorem blk_mk {X : Cx} {scope : Scope} {N' : List Str} {fm : List (Option Nat)} (h : blkChk scope.kind scope.names X.env.kindOf X.N N' fm = true) : BlkOk X scope N' fm := by
  unfold blkChk at h
  simp only [Bool.and_eq_true, beq_iff_eq, List.all_eq_true, Bool.or_eq_true, bne_iff_ne, ne_eq] at h
  obtain ⟨⟨⟨⟨⟨h1, h2⟩, h3⟩, h4⟩, h5⟩, h6⟩ := h
  refine ⟨h1, h2, fun y hy e => (h3 y hy).resolve_left fun z => z e, fun y hy e => (h4 y hy).resolve_left fun z => z e, h5, fun i j x e1 e2 => ?_⟩
  have hm : (some j, x) ∈ fm.zip N' := by
    refine List.mem_of_getElem? (i := i) ?_
    rw [List.getElem?_zip_eq_some]
    exact ⟨e1, e2⟩
  have z := h6 _ hm
  simp only [Bool.and_eq_true, beq_iff_eq] at z
  exact ⟨z.1.1, z.1.2, z.2⟩
theorem lookup_relabel {env : Env} : ∀ {names : List (Str × NameKind)} {x : Str} {k : NameKind}, (names.map fun (n, k) => if (k == NameKind.free && env.scope.kind == .function && env.kindOf n == some .cell) then (n, NameKind.cell) else (n, k)).lookup x = some k →
    (k = .cell ∧ env.kindOf x = some .cell ∧ (x, NameKind.free) ∈ names) ∨ (x, k) ∈ names
  | [], _, _, h => by simp at h
  | (n, k0) :: r, x, k, h => by
    rw [List.map_cons] at h
    by_cases hc : (k0 == NameKind.free && env.scope.kind == .function && env.kindOf n == some .cell) = true
    · dsimp only at h
      rw [if_pos hc, List.lookup_cons] at h
      cases hx : x == n with
      | true =>
        rw [hx] at h
        have e : x = n := by simpa using hx
        subst e
        cases h
        simp only [Bool.and_eq_true, beq_iff_eq] at hc
        exact .inl ⟨rfl, hc.2, by rw [← hc.1.1]; exact List.mem_cons_self⟩
      | false =>
        rw [hx] at h
        rcases lookup_relabel h with ⟨a, b, c⟩ | c
        · exact .inl ⟨a, b, List.mem_cons_of_mem _ c⟩
        · exact .inr (List.mem_cons_of_mem _ c)
    · dsimp only at h
      rw [if_neg hc, List.lookup_cons] at h
      cases hx : x == n with
      | true =>
        rw [hx] at h
        have e : x = n := by simpa using hx
        subst e
        cases h
        exact .inr List.mem_cons_self
      | false =>
        rw [hx] at h
        rcases lookup_relabel h with ⟨a, b, c⟩ | c
        · exact .inl ⟨a, b, List.mem_cons_of_mem _ c⟩
        · exact .inr (List.mem_cons_of_mem _ c)
theorem lookup_relabel_free {env : Env} (hk : env.scope.kind = .function) : ∀ {names : List (Str × NameKind)} {x : Str}, names.lookup x = some .free → env.kindOf x = some .cell →
    (names.map fun (n, k) => if (k == NameKind.free && env.scope.kind == .function && env.kindOf n == some .cell) then (n, NameKind.cell) else (n, k)).lookup x = some .cell
  | [], _, h, _ => by simp at h
  | (n, k) :: r, x, h, hc => by
    rw [List.map_cons]
    dsimp only
    cases hx : x == n with
    | true =>
      rw [List.lookup_cons, hx] at h
      cases h
      have e : x = n := by simpa using hx
      subst e
      rw [hc, hk, if_pos (by rfl), List.lookup_cons, hx]
    | false =>
      rw [List.lookup_cons, hx] at h
      have ih := lookup_relabel_free hk h hc
      split
      · rw [List.lookup_cons, hx]; exact ih
      · rw [List.lookup_cons, hx]; exact ih
section
variable {X : Cx} {scope : Scope} {N' : List Str} {fm : List (Option Nat)} {pins : List (Addr × Obj)} {σ : St} {H : Hp} {s : Shared}
theorem blk_ok (B : BlkOk X scope N' fm) (I : Inv X pins σ H s) {C : Addr} {ex : List Addr} (hC : s.heap.objs.size ≤ C) (hex : ∀ b ∈ ex, FpOk X pins H b) (hlt : ∀ b ∈ ex, b < s.heap.objs.size) : (X.blk scope N' C s H ex).Ok := by
  have sub : ∀ x c, (clOf X.env.cells scope.names []).lookup x = some c → X.env.cells.lookup x = some c := fun x c h => clOf_of (B.has I.ok) (fun _ _ z => by simp at z) h
  refine ⟨I.ok.mod, ?_, I.ok.glob, I.ok.blt, hC, fun x y c h1 h2 => I.ok.inj x y c (sub x c h1) (sub y c h2), fun x hx => ?_, fun x c h _ => (Bool.false_ne_true h).elim, I.ok.hd, I.ok.frames, .inl rfl, fun b hb => ⟨?_, fun x c h => (hex b hb).2.2.2.2.1 x c (sub x c h)⟩, I.bs, ?_, fun b o e hb => ?_, fun b hb hf => ?_, I.stack, I.stkFree⟩
  · show (relabel scope X.env).kind = .function
    exact B.kind
  · have hx' : (relabel scope X.env).names.lookup x = some .cell ∨ (relabel scope X.env).names.lookup x = some .free := hx
    have mem : (x, NameKind.free) ∈ scope.names := by
      rcases hx' with h | h
      · rcases lookup_relabel h with ⟨_, _, z⟩ | z
        · exact z
        · exact absurd rfl (B.nocell _ z)
      · rcases lookup_relabel h with ⟨z, _, _⟩ | z
        · cases z
        · exact z
    exact Option.isSome_iff_exists.mp (clOf_has (cells := X.env.cells) (acc := []) mem)
  · exact Nat.ne_of_lt (Nat.lt_of_lt_of_le (hlt b hb) hC)
  · exact Nat.le_trans I.ok.bsz I.sz
  · have hb' : b ∈ ex := hb
    rcases (hex b hb').2.2.2.1 with z | z
    · exact I.ok.noex b o e z
    · exact absurd (Nat.lt_of_lt_of_le (Heap.lt_size (I.ok.bs b o e).1) z) (Nat.lt_irrefl _)
  · have hb' : b ∈ ex := hb
    have hf' : b ∈ frs X.stack := hf
    rcases List.mem_cons.mp (I.stkSub b hf') with z | z
    · exact (hex b hb').2.1 z
    · exact (hex b hb').2.2.1 z
theorem subσ_get {fm : List (Option Nat)} {σ : St} {i : Nat} {v : V} (h : (subσ fm σ)[i]? = some (some v)) : ∃ j, fm[i]? = some (some j) ∧ σ[j]? = some (some v) := by
  unfold subσ at h
  rw [List.getElem?_map] at h
  cases e : fm[i]? with
  | none => rw [e] at h; cases h
  | some o =>
    rw [e] at h
    cases o with
    | none => cases h
    | some j =>
      refine ⟨j, rfl, ?_⟩
      have h' : some ((σ[j]?).join) = some (some v) := h
      cases e2 : σ[j]? with
      | none => rw [e2] at h'; cases h'
      | some w => rw [e2] at h'; exact congrArg some (Option.some.inj h')
theorem inv_blk (B : BlkOk X scope N' fm) (I : Inv X pins σ H s) {C : Addr} {ex : List Addr} {h1 : Heap} {tk : Nat} {m : Str → Option Value} (hC : s.heap.objs.size ≤ C) (hex : ∀ b ∈ ex, FpOk X pins H b) (hlt : ∀ b ∈ ex, b < s.heap.objs.size)
    (hn : h1.Ns C m) (old : ∀ b o, s.heap.get? b = some o → h1.get? b = some o) : Inv (X.blk scope N' C s H ex) [] (subσ fm σ) H { s with heap := h1, toks := tk } := by
  have sub : ∀ x c, (clOf X.env.cells scope.names []).lookup x = some c → X.env.cells.lookup x = some c := fun x c h => clOf_of (B.has I.ok) (fun _ _ z => by simp at z) h
  refine ⟨blk_ok B I hC hex hlt, rfl, I.bare, Un.kept old, ⟨m, hn, fun i x v hi hσ hv => ?_⟩, fun x c h => ?_, I.hok.fresh hC, fun x c h => I.freeC x c (sub x c h), fun p hp => absurd (show p ∈ ([] : List (Addr × Obj)) from hp) (by simp), I.hok.kept old, ?_⟩
  · obtain ⟨j, ej, es⟩ := subσ_get hσ
    obtain ⟨hN, hf, hk⟩ := B.out i j x ej hi
    obtain ⟨m0, _, hl⟩ := I.loc
    obtain ⟨u, r, l⟩ := hl j x v hN es (.inr (.inl hk))
    refine ⟨u, r, .inr ⟨.inl (lookup_relabel_free I.ok.kind hf hk), ?_⟩⟩
    rcases l with ⟨z, _⟩ | ⟨_, c, hc, z⟩
    · rw [hk] at z; cases z
    · obtain ⟨c', hc'⟩ := Option.isSome_iff_exists.mp (clOf_has (cells := X.env.cells) (acc := []) (PySem.mem_of_lookup hf))
      have e := sub x c' hc'
      rw [hc] at e
      cases e
      exact ⟨c, hc', z.keeps old⟩
  · obtain ⟨v, z⟩ := I.cell x c (sub x c h)
    exact ⟨v, z.keeps old⟩
  · show (subσ fm σ).length = N'.length
    unfold subσ
    rw [List.length_map]
    exact B.len
end
noncomputable def PIf (X : Cx) (ifs : List Expr) (t : TT) : Prop :=
  ∀ (pins : List (Addr × Obj)) (s : Shared) (σ : St) (H : Hp) (Q : Bool → Hp → Prop), Inv X pins σ H s → t σ H Q →
    wpAny (model X.prog X.w) X.A (forIn ifs true fun c r => if r = true then do let ok ← isTrue c X.env (eval c X.env); pure (ForInStep.yield ok) else pure (ForInStep.yield r)) (TP X pins σ Q) X.xe s
noncomputable def tYes : TT := fun _ H Q => Q true H
theorem pif_nil {X : Cx} : PIf X [] tYes := fun _ s _ H _ I h => wpAny_tests_nil ⟨H, I, h⟩
theorem codeAny_compLoop_own {prog : Program} {w : World} {A : Around} {R : Result → Shared → Prop} {s : Shared} {elt target iter : Expr} {ifs : List Expr} {scope : Scope} {pos : Pos} {it acc : Value} {env : Env} (I : Nat → Shared → Prop)
    (turn : ∀ n s, I n s → wpAny (model prog w) A (pyNext it) (fun r s₁ => match r with
      | none => R (.ok .next) s₁
      | some v => wpAny (model prog w) A (letOwnedTupleGo target it v) (fun _ s₁ => wpAny (model prog w) A (assign target env v) (fun _ s₂ =>
          wpAny (model prog w) A (forIn ifs true fun c r => if r = true then do let ok ← isTrue c env (eval c env); pure (ForInStep.yield ok) else pure (ForInStep.yield r)) (fun ok s₃ =>
            if ok = true then wpAny (model prog w) A (eval elt env) (fun x s₄ =>
              wpAny (model prog w) A (call (.builtin "list.append") [acc, x]) (fun _ s₅ => ∃ m, m < n ∧ I m s₅) (fun _ _ => False) s₄) (fun _ _ => False) s₃
            else ∃ m, m < n ∧ I m s₃) (fun _ _ => False) s₂) (fun _ _ => False) s₁) (fun _ _ => False) s₁) (fun _ _ => False) s)
    (n : Nat) (h : I n s) :
    codeAny (model prog w) A (.compLoop (.ListComp elt [⟨target, iter, ifs, 0⟩] scope pos) 0 it acc env) R s := by
  refine codeAny_loop rfl I (fun n s hI => ?_) n h
  show wpAny _ A ((compTurn (.ListComp elt [⟨target, iter, ifs, 0⟩] scope pos) 0 it acc env).onRaise (fun x => do noteFrame x env; theTreesLotGoes x)) _ _ s
  refine wpAny_noted ?_
  rw [compTurn_list]
  refine wpAny_bind (wpAny_standAt (wpAny_bind (wpAny_mono (turn n s hI) (fun r s₁ h₁ => ?_) fun _ _ h' => h'.elim)))
  cases r with
  | none => exact wpAny_pure h₁
  | some v =>
    refine wpAny_bind (wpAny_mono h₁ (fun _ s₁ h₁ => ?_) fun _ _ h' => h'.elim)
    refine wpAny_bind (wpAny_mono h₁ (fun _ s₂ h₂ => wpAny_bind (wpAny_mono h₂ (fun ok s₃ h₃ => ?_) fun _ _ h' => h'.elim)) fun _ _ h' => h'.elim)
    cases ok with
    | false => exact wpAny_pure ⟨rfl, h₃⟩
    | true =>
      exact wpAny_bind (wpAny_bind (wpAny_mono h₃ (fun x s₄ h₄ => wpAny_bind (wpAny_mono h₄ (fun _ s₅ h₅ => wpAny_pure (wpAny_pure ⟨rfl, h₅⟩)) fun _ _ h' => h'.elim)) fun _ _ h' => h'.elim))
noncomputable def tCompW (fm : List (Option Nat)) (g : TG) (tc : TT) (te : TE) (σ : St) (J : It) (H1 : Hp) (Q : List V → Hp → Prop) : Prop :=
  ∃ (W : Nat → List V → Hp → Prop) (n : Nat), W 0 [] H1 ∧ (∀ i ys H, W i ys H → i ≤ n ∧ ys.length < sizeLine) ∧ ∀ i ys H, W i ys H →
    (J.stop i H ∧ Q ys H) ∨ (J.go i H ∧ ∀ x H', J.yld i H x H' → g x (subσ fm σ) H' fun σ2 H2 => tc σ2 H2 fun b H3 => if b = true then te σ2 H3 fun y H4 => W (i + 1) (ys ++ [y]) H4 else W (i + 1) ys H3)
noncomputable def tComp (fm : List (Option Nat)) (wi : TI) (g : TG) (tc : TT) (te : TE) : TE := fun σ H Q => wi σ H fun J H1 => tCompW fm g tc te σ J H1 fun ys H2 => ∀ l, H2 l = none → Q (.ref l) (upd H2 l (.lst ys))
noncomputable def GKeep (fm : List (Option Nat)) (g : TG) : Prop := ∀ x σ H N, g x σ H N → g x σ H fun σ' H' => N σ' H' ∧ σ'.length = σ.length ∧ ∀ (i j : Nat), fm[i]? = some (some j) → σ'[i]? = σ[i]?
theorem gkeep_name {fm : List (Option Nat)} {i : Nat} (hi : fm[i]? = some none) : GKeep fm (gName i) := fun x σ H N h => by
  refine ⟨h, List.length_set, fun k j hk => ?_⟩
  have : i ≠ k := fun e => by subst e; rw [hi] at hk; cases hk
  exact List.getElem?_set_ne this
end L2
end
section
namespace L2
open PySem PySem.Spec PyProof.Rows
section
variable {X : Cx} {scope : Scope} {N' : List Str} {fm : List (Option Nat)} {pins : List (Addr × Obj)} {σ : St} {H : Hp} {s : Shared} {tg iter elt : Expr} {ifs : List Expr} {pos : Pos} {g : TG} {tc : TT} {te : TE}
theorem comp_block (B : BlkOk X scope N' fm) (hc : X.calm = true) (hg : ∀ C s H ex, PG (X.blk scope N' C s H ex) tg g) (hk : GKeep fm g) (ht : ∀ C s H ex, PIf (X.blk scope N' C s H ex) ifs tc) (he : ∀ C s H ex, PE (X.blk scope N' C s H ex) elt te)
    (I : Inv X pins σ H s) {it : Addr} {fp : List Addr} {tn : Nat → Heap → Prop} {J : It} (T : Turn X.prog X.w X.K tg J fp it tn) (st : tn 0 s.heap) (hf : ∀ b ∈ fp, FpOk X pins H b) {Qf : List V → Hp → Prop} (q : tCompW fm g tc te σ J H Qf)
    {RR : Value → Addr → Result → Shared → Prop} {E : Value → Shared → Prop}
    (hRR : ∀ D C H' ys s', Inv X pins σ (upd H' D (.lst ys)) s' → H' D = none → Qf ys H' → FpOk X pins (upd H' D (.lst ys)) C → (∃ m, s'.heap.Ns C m) → RR (.ref D) C (.ok .next) s') :
    wpAny (model X.prog X.w) X.A (newList []) (fun acc s₃ => wpAny (model X.prog X.w) X.A (newFunctionEnv scope X.env.globals (clOf X.env.cells scope.names []) [] X.env.qual none .none (some X.env)) (fun cenv s₄ =>
      codeAny (model X.prog X.w) X.A (.compStart (.ListComp elt [⟨tg, iter, ifs, 0⟩] scope pos) 0 (.ref it) acc { cenv with scope := relabel scope X.env }) (RR acc cenv.locals) s₄) E s₃) E s := by
  refine wpAny_newObj_type (wpAny_newFunctionEnv B.nocell (by intro y hy; simp at hy) (fun h₁ hns₁ hsb₁ => ?_) B.kind)
  dsimp only at hns₁ hsb₁ ⊢
  generalize hH2 : s.heap.push { cls := .type "list", dict := none, data := .seq ([] : List Value).toArray } = H2 at hns₁ hsb₁ ⊢
  have hC : H2.objs.size = s.heap.objs.size + 1 := by rw [← hH2, Heap.size_push]
  generalize hCC : H2.objs.size = C at hns₁ hsb₁ hC ⊢
  generalize hDD : s.heap.objs.size = D at hC ⊢
  have hDC : D ≠ C := by omega
  have hCle : s.heap.objs.size ≤ C := by omega
  have lt : ∀ (b : Nat) (o : Obj), s.heap.get? b = some o → b < D := fun b o e => by rw [← hDD]; exact Heap.lt_size e
  have old : ∀ b o, s.heap.get? b = some o → h₁.get? b = some o := fun b o e => hsb₁.extBut b o (Nat.ne_of_lt (Nat.lt_trans (lt b o e) (by rw [hC]; exact Nat.lt_succ_self _))) (Heap.get?_push_of_some _ (hH2 ▸ Heap.get?_push_of_some _ e))
  have hacc : h₁.PlainList D #[] := ⟨_, hsb₁.extBut _ _ hDC (Heap.get?_push_of_some _ (by rw [← hH2, ← hDD]; exact Heap.get?_push_size _ rfl))⟩
  have hlt : ∀ b ∈ fp, b < s.heap.objs.size := fun b hb => by
    obtain ⟨o, e, _⟩ := T.obj 0 s.heap st b hb
    exact Heap.lt_size e
  have hDf : D ∉ fp := fun hm => by have z := hlt _ hm; rw [hDD] at z; exact Nat.lt_irrefl D z
  have st1 : tn 0 h₁ := T.keep 0 _ _ st fun b _ o e => old b o e
  obtain ⟨W, n0, w0, hb, turn⟩ := q
  have sub : ∀ x c, (clOf X.env.cells scope.names []).lookup x = some c → X.env.cells.lookup x = some c := fun x c h => clOf_of (B.has I.ok) (fun _ _ z => by simp at z) h
  have I1 : ∀ tk, Inv (X.blk scope N' C s H fp) [] (subσ fm σ) H { s with heap := h₁, toks := tk } := fun tk => inv_blk B I hCle hf hlt hns₁ old
  have hDfs : D ∉ frs X.stack := fun hm => by
    obtain ⟨_, o, e, _⟩ := I.stack.mem hm
    exact Nat.lt_irrefl D (lt D o e)
  have stat : ∀ {H' : Hp} {oD : Obj}, (∀ b ∈ fp, H' b = none) → ∀ b ∈ fp, FpOk (X.blk scope N' C s H fp) [(D, oD)] H' b := fun {H' oD} hn b hb => by
    have l := hlt b hb
    obtain ⟨f0, f1, f2, f3, f4, f5⟩ := hf b hb
    refine ⟨hn b hb, fun z => ?_, fun z => ?_, .inl hb, fun x c h => f4 x c (sub x c h), fun p hp z => ?_⟩
    · have z' : b = C := z
      exact Nat.lt_irrefl C (by rw [← z'] at hCle ⊢; exact Nat.lt_of_lt_of_le l hCle)
    · rcases List.mem_cons.mp (I.stkSub b z) with y | y
      · exact f1 y
      · exact f2 y
    · have e : p = (D, oD) := by simpa [Cx.blk] using hp
      subst e
      have z' : D = b := z
      exact hDf (z' ▸ hb)
  have loop : ∀ tk, codeAny (model X.prog X.w) X.A (.compLoop (.ListComp elt [⟨tg, iter, ifs, 0⟩] scope pos) 0 (.ref it) (.ref D) (compEnvC scope (clOf X.env.cells scope.names []) C X.env)) (RR (.ref D) C) { s with heap := h₁, toks := tk } := by
    intro tk
    refine codeAny_compLoop_own (fun n s' => ∃ i ys its H', n = n0 + 1 - i ∧ Inv (X.blk scope N' C s H fp) [] (subσ fm σ) H' s' ∧ tn i s'.heap ∧ (∀ b ∈ fp, H' b = none) ∧ Vals ys its ∧ s'.heap.PlainList D its.toArray ∧ H' D = none ∧ W i ys H') ?_ (n0 + 1)
      ⟨0, [], [], H, rfl, I1 tk, st1, fun b hb => (hf b hb).1, .nil, hacc, I.hok.fresh (by omega), w0⟩
    rintro n s3 ⟨i, ys, its, H3, rfl, I3, st3, fr3, rv, ⟨nn, hd⟩, hD, w3⟩
    obtain ⟨hi, hys⟩ := hb i ys H3 w3
    have I3' : Inv (X.blk scope N' C s H fp) [(D, { cls := .type "list", data := .seq its.toArray nn })] (subσ fm σ) H3 s3 := I3.pins_of fun p hp => by
      have e : p = (D, { cls := .type "list", data := .seq its.toArray nn }) := by simpa using hp
      subst e
      exact ⟨hd, hD, hDC, hDfs, fun v z => by cases z⟩
    rcases turn i ys H3 w3 with ⟨stop, qf⟩ | ⟨go, step⟩
    · refine thn (T.done (X.blk scope N' C s H fp) rfl rfl rfl hc i _ s3 _ H3 _ I3' (stat fr3) st3 stop) fun r s4 ⟨hr, I4⟩ => ?_
      subst hr
      have hd4 := (I4.pin (D, { cls := .type "list", data := .seq its.toArray nn }) (by simp)).1
      have ne : ∀ b o, H3 b = some o → b ≠ D := fun b o e z => by subst z; rw [hD] at e; cases e
      have U : Un (frs X.stack) fp H H3 s.heap s4.heap := I4.base
      have U' : Un (frs X.stack) fp H (upd H3 D (.lst ys)) s.heap s4.heap := ⟨U.keep, U.slot, fun b o e n hx => by rw [upd_ne (Nat.ne_of_lt (lt b o e))]; exact U.free b o e n hx, U.there,
        fun b xs e => by have z := U.tups b xs e; rw [upd_ne (ne b _ z)]; exact z, fun b o u e => by have z := U.frzs b o u e; rw [upd_ne (ne b _ z)]; exact z,
        fun b ps e => by obtain ⟨more, z⟩ := U.tbls b ps e; exact ⟨more, by rw [upd_ne (ne b _ z)]; exact z⟩⟩
      have hok : HOk X.prog X.w (upd H3 D (.lst ys)) s4.heap := fun b o e => by
        by_cases hbD : b = D
        · subst hbD
          rw [upd_same] at e
          cases e
          exact ⟨Nat.le_of_lt hys, its, nn, rv, hd4⟩
        · rw [upd_ne hbD] at e
          exact (show ObjOk X.prog X.w H3 s4.heap b o from I4.hok b o e).stay (fun _ _ _ z => z) (fun c z => by rw [upd_ne (ne c _ z)]; exact z) fun c xs z => by rw [upd_ne (ne c _ z)]; exact z
      have I5 : Inv X pins σ (upd H3 D (.lst ys)) s4 := I.call' (I4.os) U' hok I4.bare fun b hb => by
        obtain ⟨f0, f1, f2, f3, f4, f5⟩ := hf b hb
        exact ⟨f3, f1, f4, f5⟩
      obtain ⟨m4, hn4, _⟩ := I4.loc
      exact hRR D C H3 ys s4 I5 hD qf (I.fpOk hCle (by rw [upd_ne (Ne.symm hDC)]; exact I4.free)) ⟨m4, hn4⟩
    · refine thn (T.item (X.blk scope N' C s H fp) rfl rfl rfl hc i _ s3 _ H3 _ I3' (stat fr3) st3 go) fun r s4 ⟨u, hr, h4⟩ => ?_
      subst hr
      refine thn h4 fun _ s5 ⟨x, H5, I5, r5, y5, st5, fr5⟩ => ?_
      have I5' := I5.pinned (stat fr5) (T.obj _ _ st5)
      refine thn (hg C s H fp _ s5 _ H5 x u _ I5' r5 (hk _ _ _ _ (step x H5 y5))) fun _ s6 ⟨σ6, H6, I6, q6, l6, k6⟩ => ?_
      have back : ∀ {H7 : Hp} {s7 : Shared} {P7 : List (Addr × Obj)}, Inv (X.blk scope N' C s H fp) P7 σ6 H7 s7 → Inv (X.blk scope N' C s H fp) [] (subσ fm σ) H7 s7 := fun {H7 s7 P7} I7 => (I7.weak l6.symm fun a v e => by
          obtain ⟨j, ej, _⟩ := subσ_get e
          rw [k6 a j ej]; exact e).pins_of fun p hp => nomatch hp
      have still : ∀ {H7 : Hp} {s7 : Shared}, Inv (X.blk scope N' C s H fp) ([(D, { cls := .type "list", data := .seq its.toArray nn })] ++ pinsAt fp s5.heap) σ6 H7 s7 → tn (i + 1) s7.heap ∧ (∀ b ∈ fp, H7 b = none) ∧ s7.heap.get? D = some { cls := .type "list", data := .seq its.toArray nn } ∧ H7 D = none := fun {H7 s7} I7 => by
        refine ⟨T.keep _ _ _ st5 fun b hb o e => (I7.pin (b, o) (List.mem_append_right _ (List.mem_append_right _ (mem_pinsAt hb e)))).1, fun b hb => ?_, ?_, ?_⟩
        · obtain ⟨o, e, d⟩ := T.obj _ _ st5 b hb
          exact (I7.pin (b, o) (List.mem_append_right _ (List.mem_append_right _ (mem_pinsAt hb e)))).2.1
        · exact (I7.pin (D, _) (List.mem_append_right _ (List.mem_append_left _ (List.mem_singleton.mpr rfl)))).1
        · exact (I7.pin (D, { cls := .type "list", data := .seq its.toArray nn }) (List.mem_append_right _ (List.mem_append_left _ (List.mem_singleton.mpr rfl)))).2.1
      refine thn (ht C s H fp _ s6 σ6 H6 _ I6 q6) fun ok s7 ⟨H7, I7, q7⟩ => ?_
      cases ok with
      | false =>
        rw [if_neg Bool.false_ne_true] at q7 ⊢
        obtain ⟨a1, a2, a3, a4⟩ := still I7
        exact ⟨n0 + 1 - (i + 1), by omega, i + 1, ys, its, H7, rfl, back I7, a1, a2, rv, ⟨nn, a3⟩, a4, q7⟩
      | true =>
        rw [if_pos rfl] at q7 ⊢
        refine thn (he C s H fp _ s7 σ6 H7 _ I7 q7) fun y s8 ⟨v8, H8, I8, r8, w8⟩ => ?_
        obtain ⟨a1, a2, a3, a4⟩ := still I8
        have hsz : its.toArray.size ≤ sizeLine := by
          have := rv.length
          rw [List.size_toArray]
          omega
        refine wpAny_list_append_plain (hsz := hsz) ⟨nn, a3⟩ fun h9 hl9 sb9 => ?_
        have I8' := back I8
        have I9 : Inv (X.blk scope N' C s H fp) [] (subσ fm σ) H8 { s8 with heap := h9 } := I8'.turned (t' := s8.toks) (fun b o hb e => (sb9.2 b hb).trans e) a4 hDC (.inr (by show s.heap.objs.size ≤ D; omega)) (fun x c h z => by
            obtain ⟨v, o, ho, hdd⟩ := I8'.cell x c h
            rw [z, a3] at ho
            cases ho
            cases hdd) fun p hp => nomatch hp
        refine ⟨n0 + 1 - (i + 1), by omega, i + 1, ys ++ [v8], its ++ [y], H8, rfl, I9, T.keep _ _ _ a1 fun b hb o e => (sb9.2 b (fun z => hDf (z ▸ hb))).trans e, a2, Vals.append rv (.cons r8 .nil), ?_, a4, w8⟩
        have e : its.toArray.push y = (its ++ [y]).toArray := by simp
        rw [← e]
        exact hl9
  refine codeAny_compStart_list (loop _) (T.self _ 0 _ _ _ st1 (loop _))
end
end L2
end
section
namespace L2
open PySem PySem.Spec PyProof.Rows
section
variable {X : Cx} {scope : Scope} {N' : List Str} {fm : List (Option Nat)} {tg iter elt : Expr} {ifs : List Expr} {pos spos px : Pos} {g : TG} {tc : TT} {te : TE} {wi : TI}
theorem pe_comp (B : BlkOk X scope N' fm) (hc : X.calm = true) (hi : PI X tg iter wi) (hg : ∀ C s H ex, PG (X.blk scope N' C s H ex) tg g) (hk : GKeep fm g) (ht : ∀ C s H ex, PIf (X.blk scope N' C s H ex) ifs tc) (he : ∀ C s H ex, PE (X.blk scope N' C s H ex) elt te)
    (hs : ∀ x, foldedSetIterable iter X.env x = pure x := by intro _; rfl) : PE X (.ListComp elt [⟨tg, iter, ifs, 0⟩] scope pos) (tComp fm wi g tc te) := by
  intro pins s σ H Q I h
  rw [eval_ListComp]
  refine wpAny_comprehension_free (use := none) rfl hs (closure_ok (B.has I.ok)) B.kind B.names (thn (hi pins s σ H _ I h) fun v s1 h1 => thn h1 fun itv s2 h2 => ?_)
  obtain ⟨it, fp, tn, J, H2, e, I2, T, st2, f2, q⟩ := h2
  subst e
  refine comp_block B hc hg hk ht he I2 T st2 f2 q (RR := fun acc C => compPost (model X.prog X.w) X.A X.xe none (EP X pins σ Q) acc C) fun D C H' ys s' I' hD qf fC ⟨m, hn⟩ => ?_
  refine ⟨m, hn, fun h' sb => ⟨.ref D, upd H' D (.lst ys), ?_, rfl, qf D hD⟩⟩
  obtain ⟨f0, f1, f2, f3, f4, f5⟩ := fC
  exact I'.turned (t' := s'.toks) (fun b o hb e => sb.extBut b o hb e) f0 f1 f3 f4 f5
end
theorem call_isinst {X : Cx} : CallR X (.builtin "isinstance") (fun xs H Q => ∃ x n t b, xs = [x, .ty n] ∧ TyOf X.K H x t ∧ PySem.W.kitOne X.K t (.type n) = some b ∧ Q (.bl b) H) := by
  intro pins s σ H xs us Q I r h
  obtain ⟨x, n, t, b, rfl, ty, e, q⟩ := h
  cases r with
  | cons r1 r2 =>
    cases r2 with
    | cons r2 r3 =>
      cases r3
      cases (show _ = Value.type n from r2)
      exact isinst_ok I r1 ty e fun tk => ⟨.bl b, H, I.tok tk, rfl, q⟩
theorem bl_get {bs : List Bool} {its : List Value} (r : Vals (bs.map V.bl) its) {i : Nat} {v : Value} (h : its[i]? = some v) : v = Value.bool (bs.getD i false) := by
  have hl := r.length
  have hi : i < its.length := (List.getElem?_eq_some_iff.mp h).1
  rw [List.length_map] at hl
  have hb : i < bs.length := by omega
  obtain ⟨u, e1, e2⟩ := r.get (i := i) (x := V.bl bs[i]) (by rw [List.getElem?_map, List.getElem?_eq_getElem hb] <;> rfl)
  rw [h] at e1
  cases e1
  have e2' : v = Value.bool bs[i] := e2
  rw [e2', List.getD_eq_getElem?_getD, List.getElem?_eq_getElem hb] <;> rfl
theorem all_range {bs : List Bool} : (List.range bs.length).all (fun i => bs.getD i false) = bs.all id := by
  induction bs with
  | nil => rfl
  | cons b r ih =>
    rw [List.length_cons, List.range_succ_eq_map, List.all_cons, List.all_map, List.all_cons, ← ih] <;> rfl
theorem any_range {bs : List Bool} : (List.range bs.length).any (fun i => bs.getD i false) = bs.any id := by
  induction bs with
  | nil => rfl
  | cons b r ih =>
    rw [List.length_cons, List.range_succ_eq_map, List.any_cons, List.any_map, List.any_cons, ← ih] <;> rfl
end L2
end
section
namespace L2
open PySem PySem.Spec PyProof.Rows
theorem fresh_ne {h : Heap} {a : Addr} {o : Obj} (e : h.get? a = some o) : a ≠ h.objs.size := Nat.ne_of_lt (Heap.lt_size e)
theorem call_all {X : Cx} (hc : X.calm = true) : CallR X (.builtin "all") (fun xs H Q => ∃ (p : Addr) (bs : List Bool), xs = [.ref p] ∧ SqL X.K H p (bs.map V.bl) ∧ Q (.bl (bs.all id)) H) := by
  intro pins s σ H xs us Q I r h
  obtain ⟨p, bs, rfl, hq, q⟩ := h
  obtain ⟨u, rfl, rx⟩ := vals1 r
  cases rx
  obtain ⟨its, rv, pl, hz⟩ := I.list hq
  have hl : its.length = bs.length := by rw [← rv.length, List.length_map]
  refine call_all_walk (wpAny_pyIter_list pl.isList ?_)
  obtain ⟨o, ho, hrest⟩ := id pl.isList
  have hne : p ≠ s.heap.objs.size := fresh_ne ho
  refine ⟨s.heap.objs.size, _, _, _, _, _, fun i => bs.getD i false, rfl, Walks.list (A := X.A.in1) (I.ok.hd hc) s.heap.objs.size p hne its.toArray, ⟨⟨_, Heap.get?_push_size _ rfl, rfl, rfl⟩, ⟨o, Heap.get?_push_of_some _ ho, hrest⟩⟩, fun i v s' Q' E' hP hQ => ?_, fun h' tk hk => ?_⟩
  · have e : v = Value.bool (bs.getD i false) := bl_get rv (by simpa using hP)
    subst e
    exact wpAny_truthy_bool hQ
  · have e2 : (List.range its.toArray.size).all (fun i => bs.getD i false) = bs.all id := by rw [List.size_toArray, hl]; exact all_range
    rw [e2]
    exact ⟨.bl (bs.all id), H, I.kept (t' := tk) fun b o' e => hk b o' (fun z => fresh_ne e (List.mem_singleton.mp z)) (Heap.get?_push_of_some _ e), rfl, q⟩
theorem call_any {X : Cx} (hc : X.calm = true) : CallR X (.builtin "any") (fun xs H Q => ∃ (p : Addr) (bs : List Bool), xs = [.ref p] ∧ SqL X.K H p (bs.map V.bl) ∧ Q (.bl (bs.any id)) H) := by
  intro pins s σ H xs us Q I r h
  obtain ⟨p, bs, rfl, hq, q⟩ := h
  obtain ⟨u, rfl, rx⟩ := vals1 r
  cases rx
  obtain ⟨its, rv, pl, hz⟩ := I.list hq
  have hl : its.length = bs.length := by rw [← rv.length, List.length_map]
  refine call_any_walk (wpAny_pyIter_list pl.isList ?_)
  obtain ⟨o, ho, hrest⟩ := id pl.isList
  have hne : p ≠ s.heap.objs.size := fresh_ne ho
  refine ⟨s.heap.objs.size, _, _, _, _, _, fun i => bs.getD i false, rfl, Walks.list (A := X.A.in1) (I.ok.hd hc) s.heap.objs.size p hne its.toArray, ⟨⟨_, Heap.get?_push_size _ rfl, rfl, rfl⟩, ⟨o, Heap.get?_push_of_some _ ho, hrest⟩⟩, fun i v s' Q' E' hP hQ => ?_, fun h' tk hk => ?_⟩
  · have e : v = Value.bool (bs.getD i false) := bl_get rv (by simpa using hP)
    subst e
    exact wpAny_truthy_bool hQ
  · have e2 : (List.range its.toArray.size).any (fun i => bs.getD i false) = bs.any id := by rw [List.size_toArray, hl]; exact any_range
    rw [e2]
    exact ⟨.bl (bs.any id), H, I.kept (t' := tk) fun b o' e => hk b o' (fun z => fresh_ne e (List.mem_singleton.mp z)) (Heap.get?_push_of_some _ e), rfl, q⟩
noncomputable def upTo (n : Nat) : List V := (List.range n).map fun i : Nat => V.int (i : Int)
theorem upTo_length (n : Nat) : (upTo n).length = n := by unfold upTo; simp
noncomputable def rRng1 : List V → Hp → VK → Prop := fun xs H Q => ∃ j : Int, xs = [.int j] ∧ -(2 ^ 62) ≤ j ∧ j < 2 ^ 62 ∧ ∀ p, H p = none → Q (.ref p) (upd H p (.rng 0 j))
theorem call_range1 {X : Cx} : CallR X (.type "range") rRng1 := by
  intro pins s σ H xs us Q I r h
  obtain ⟨j, rfl, h1, h2, q⟩ := h
  obtain ⟨u, rfl, t, rfl⟩ := vals1 r
  refine call_range_1 ?_
  exact ⟨.ref s.heap.objs.size, _, I.laid (fun b o e => Heap.get?_push_of_some _ e) (Nat.le_refl _) (show ObjOk X.prog X.w _ _ _ (.rng 0 j) from ⟨_, _, _, Heap.get?_push_size _ rfl⟩), rfl, q _ (I.hok.fresh (Nat.le_refl _))⟩
theorem vals_items {n : Nat} {acc : Array Value} (h : ItemsOf (fun i v => ∃ t, v = .int ((0 : Int) + i * 1) t) acc n) : Vals (upTo n) acc.toList := by
  obtain ⟨hs, hi⟩ := h
  have gen : ∀ (l : List Value) (k : Nat), (∀ j v, l[j]? = some v → ∃ t, v = Value.int ((k + j : Nat) : Int) t) → Vals ((List.range' k l.length).map fun i : Nat => V.int (i : Int)) l := by
    intro l
    induction l with
    | nil => intro k _; exact .nil
    | cons a r ih =>
      intro k hk
      rw [List.length_cons, List.range'_succ, List.map_cons]
      refine .cons ?_ (ih (k + 1) fun j v hj => ?_)
      · obtain ⟨t, e⟩ := hk 0 a rfl
        exact ⟨t, by simpa using e⟩
      · obtain ⟨t, e⟩ := hk (j + 1) v (by simpa using hj)
        exact ⟨t, by rw [e]; congr 1; omega⟩
  have e : acc.toList.length = n := by simpa using hs
  have z := gen acc.toList 0 fun j v hj => by
    obtain ⟨t, e⟩ := hi j v (by simpa using hj)
    exact ⟨t, by rw [e]; congr 1; omega⟩
  rw [e] at z
  unfold upTo
  rw [List.range_eq_range']
  exact z
theorem call_list_rng {X : Cx} (hc : X.calm = true) : CallR X (.type "list") (fun xs H Q => ∃ p j, xs = [.ref p] ∧ H p = some (.rng 0 j) ∧ 0 ≤ j ∧ j ≤ 1000000 ∧ ∀ l, H l = none → Q (.ref l) (upd H l (.lst (upTo j.toNat)))) := by
  intro pins s σ H xs us Q I r h
  obtain ⟨p, j, rfl, hp, h1, h2, q⟩ := h
  obtain ⟨u, rfl, rx⟩ := vals1 r
  cases rx
  obtain ⟨t, u, v, e⟩ := (show ObjOk X.prog X.w H s.heap p (.rng 0 j) from I.hok p _ hp)
  refine call_list_range (I.ok.hd hc) (r := p) (a := 0) (b := j) (c := 1) (n := j.toNat) e (small_one (by omega) (by omega) (by omega) (by omega)) (by rw [rangeSize_one]; split <;> omega) (by omega) fun h' tk acc' c' hk hS hacc => ?_
  have z : sizeLine ≥ 1000000 := by decide
  refine ⟨.ref s.heap.objs.size, _, I.laid (t' := tk) hk (Nat.le_refl _) (show ObjOk X.prog X.w _ h' _ (.lst (upTo j.toNat)) from ⟨by rw [upTo_length]; omega, acc'.toList, c', vals_items hacc, hS⟩), rfl, q _ (I.hok.fresh (Nat.le_refl _))⟩
end L2
end
section
namespace L2
open PySem PySem.Spec PyProof.Rows
theorem same_new {H : Hp} {p : Addr} (h : H p = none) (o : HO) : Same H (upd H p o) := fun b u q => by rw [upd_ne (ne_of_none q h)]; exact q
theorem SqT.of' {K : PySem.W.Frag} {H : Hp} {a : Addr} {xs : List V} (h : H a = some (.tup xs)) : SqT K H a xs := SqT.of h
theorem noFill_tuple_mul : fillsNumberSlot (.type "tuple") "mul" = pure false := by first | rfl | decide +kernel | kernel_rfl
end L2
end
section
namespace L2
open PySem PySem.Spec PyProof.Rows
theorem repeat_tuple : seqRepeat? (.type "tuple") = pure (some (.builtin "tuple.__mul__")) := by
  unfold seqRepeat?
  rw [PySem.seqSlot_of (T := "tuple") (name := "__mul__") (id := "tuple.__mul__") PySem.F.slot_tuple_mul.lookup (by decide +kernel), PySem.seqSlot_of (T := "tuple") (name := "__rmul__") (id := "tuple.__rmul__") PySem.F.slot_tuple_rmul.lookup (by decide +kernel)]
  rfl
theorem int_rmul_tuple (a : Int) (t : Tok) (l : Addr) (items : Array Value) (n : Nat) (dd : Option Addr) (sl : Array (Option Value)) :
    Meets (Builtin.«int.__rmul__» ⟨[.int a t, .ref l], []⟩) (fun _ R s => s.heap.get? l = some { cls := .type "tuple", dict := dd, data := .seq items n, slots := sl } ∧ R (.ok (.ret Value.notImplemented)) s) :=
  .of_wp fun prog w A R s h => by obtain ⟨hp, g, d, tk, os⟩ := s; obtain ⟨hl, h⟩ := h; wp_walk; exact ⟨_, rfl, h⟩
theorem tuple_mul_same (l : Addr) (items : Array Value) (n : Nat) (dd : Option Addr) (sl : Array (Option Value)) (t : Tok) :
    Meets (Builtin.«tuple.__mul__» ⟨[.ref l, .int 1 t], []⟩) (fun _ R s => s.heap.get? l = some { cls := .type "tuple", dict := dd, data := .seq items n, slots := sl } ∧ R (.ok (.ret (Value.ref l))) s) :=
  .of_wp fun prog w A R s h => by obtain ⟨hp, g, d, tk, os⟩ := s; obtain ⟨hl, h⟩ := h; have f1 := AutoSeq1.idx_int; have f2 := AutoSeq1.sub_tuple_tuple; have hc : (items.isEmpty || (1 : Int) == 1) = true := by simp
                                  wp_walk using wpAny_loadPart' hl
                                  exact ⟨_, rfl, h⟩
theorem tuple_mul_new (l : Addr) (items : Array Value) (n : Nat) (dd : Option Addr) (sl : Array (Option Value)) (k : Int) (t : Tok) (h1 : ¬ (decide (k < -(2 ^ 63)) || decide (k ≥ 2 ^ 63)) = true) (h2 : ¬ (items.isEmpty || k == 1) = true) (h3 : ¬ (decide (k ≤ 0) || items.isEmpty) = true)
    (h4 : ¬ (items.size * k > (2 ^ 63 - 1) / 8)) (h5 : ¬ Builtin.Tuple.tupleTooMany (items.size * k) = true) (h6 : ((List.replicate k.toNat items).foldl (· ++ ·) #[]).size ≤ sizeLine) :
    Meets (Builtin.«tuple.__mul__» ⟨[.ref l, .int k t], []⟩) (fun _ R s => s.heap.get? l = some { cls := .type "tuple", dict := dd, data := .seq items n, slots := sl } ∧ R (.ok (.ret (Value.ref s.heap.objs.size))) { s with heap := s.heap.push { cls := Value.type "tuple", data := Data.seq ((List.replicate k.toNat items).foldl (· ++ ·) #[]) }, toks := s.toks }) :=
  .of_wp fun prog w A R s h => by obtain ⟨hp, g, d, tk, os⟩ := s; obtain ⟨hl, h⟩ := h; have f1 := AutoSeq1.idx_int; have f2 := AutoSeq1.sub_tuple_tuple
                                  wp_walk using wpAny_loadPart' hl
                                  rw [if_neg h1]
                                  wp_walk using wpAny_loadPart' hl
                                  rw [if_neg h4]
                                  (try dsimp only)
                                  rw [if_neg h5]
                                  wp_walk using wpAny_loadPart' hl
                                  exact ⟨_, rfl, h⟩
theorem foldl_rep0 (its : List Value) (m : Nat) : List.foldl (fun x1 x2 => x1 ++ x2) #[] (List.replicate m its.toArray) = (List.replicate m its).flatten.toArray := by
  have := foldl_rep its m []
  rw [List.nil_append] at this
  exact this
end L2
end
section
namespace L2
open PySem PySem.Spec PyProof.Rows
namespace HT
end HT
end L2
end
section
namespace L2
open PySem PySem.Spec PyProof.Rows PySem.W
noncomputable def Leaf {α : Type} (n : Nat) (P : α → Prop) : KasT α → Prop
  | .ret a => P a
  | .ask i j k => i < n ∧ j < n ∧ ∀ b, Leaf n P (k b)
end L2
end
section
namespace L2
open PySem PySem.Spec PyProof.Rows
noncomputable def FunD (K : PySem.W.Frag) (mg : Str → Option Value) (x : Str) (st : Stmt) (ps : List Str) : Prop := ∃ f fd, Fun K x x st f fd ∧ (∀ us : List Value, us.length = ps.length → bindArgs fd ⟨us, []⟩ = pure (ps.zip us)) ∧ mg x = some (.ref f)
noncomputable def Def (P : Program) (w : World) (K : PySem.W.Frag) (mg : Str → Option Value) (base : Heap) (k : Nat) (x : Str) (ps : List Str) (sp : Sp) : Prop :=
  ∃ f fd, FnOk P w K mg base CX0 k f fd ps sp ∧ Binds K fd ps [] ∧ PySem.W.keepIn K (.ref f) = true ∧ mg x = some (.ref f)
section
variable {P : Program} {w : World} {K : PySem.W.Frag} {mg : Str → Option Value} {base : Heap}
theorem FunD.ok {x : Str} {st : Stmt} {N ps : List Str} {k : Nat} {sp : Sp} (F : FunD K mg x st ps) (S : FnScope N ps (defScope st)) (len : ∀ vs H Q E, sp vs H Q E → vs.length = ps.length)
    (hbody : ∀ (f : Addr) (cdv : Value) (A : Around) (outer : List Env) (s : Shared) (H : Hp) (vs : List V) (Q : VK) (E : XK), Room k (A.deeper (envOfC x (defScope st) s.heap.objs.size f cdv)) → sp vs H Q E →
      ∃ t, PSs (cxOf CX0 P w K mg base N x (defScope st) f cdv A outer s H E).nox (defBody st) t ∧ t { nx := fun _ H' => Q .non H', rt := Q } (start N vs) H) : Def P w K mg base (k + 1) x ps sp := by
  obtain ⟨f, fd, F, b, m⟩ := F
  exact ⟨f, fd, F.ok S len (hbody f), .all b, F.kp, m⟩
end
theorem FunD.top {P : Program} {w : World} {K : PySem.W.Frag} {mg : Str → Option Value} {x y : Str} {st : Stmt} {fa : Addr} {k : Nat} {sp : Sp} {N : List Str} {R : Heap → Prop} (F : FunD K mg x st [y]) (hm : mg x = some (.ref fa)) (S : FnScope N [y] (defScope st)) (len : ∀ vs H Q E, sp vs H Q E → vs.length = 1)
    (hbody : ∀ base, R base → ∀ (f : Addr) (cdv : Value) (A : Around) (outer : List Env) (s : Shared) (H : Hp) (vs : List V) (Q : VK) (E : XK), Room k (A.deeper (envOfC x (defScope st) s.heap.objs.size f cdv)) → sp vs H Q E →
      ∃ t, PSs (cxOf CX0 P w K mg base N x (defScope st) f cdv A outer s H E).nox (defBody st) t ∧ t { nx := fun _ H' => Q .non H', rt := Q } (start N vs) H) :
    ∃ fd : FuncData, (∀ (s : Shared) (u : Value), BindsTo s fd ⟨[u], []⟩ [(y, u)]) ∧ ∀ base : Heap, R base → FnOk P w K mg base CX0 (k + 1) fa fd [y] sp := by
  obtain ⟨f, fd, F, b, m⟩ := F
  rw [hm] at m
  cases m
  exact ⟨fd, fun s u => .of_eq (b [u] rfl), fun base hb => F.ok S len (hbody base hb fa)⟩
section
variable {X : Cx} {k j : Nat} {ps : List Str} {sp : Sp} {x : Str} {p pos : Pos} {e : Expr} {es : List Expr} {t : TA}
theorem pe_callD (d : Def X.prog X.w X.K X.mg X.base j x ps sp) (hr : Room k X.A) (ha : PA X (e :: es) t) (hj : j ≤ k := by decide) (hg : Gl X x := by rfl) (hdb : (x == ("__debug__" : Str)) = false := by decide) (he : starEach (e :: es) X.env = (false, eval e X.env) :: starEach es X.env := by rfl)
    (hpl : (backTo pos (starEach es X.env)).any (·.1) = false := by rfl) : PE X (.Call (.Name x p) (e :: es) [] pos) (tCall sp [] E0 t) := by
  obtain ⟨f, fd, F, b, kp, m⟩ := d
  exact pe_call F (hr.mono hj) hg m kp b .nil pass0 ha hdb he hpl
end
section
variable {X : Cx} {scope : Scope} {tg iter elt : Expr} {ifs : List Expr} {pos spos px : Pos} {g : TG} {tc : TT} {te : TE} {wi : TI}
theorem pe_cmp' (N' : List Str) (fm : List (Option Nat)) (hi : PI X tg iter wi) (hg : ∀ C s H ex, PG (X.blk scope N' C s H ex) tg g) (ht : ∀ C s H ex, PIf (X.blk scope N' C s H ex) ifs tc) (he : ∀ C s H ex, PE (X.blk scope N' C s H ex) elt te) (hk : GKeep fm g)
    (hB : blkChk scope.kind scope.names X.env.kindOf X.N N' fm = true := by rfl) (hc : X.calm = true := by rfl) (hs : ∀ x, foldedSetIterable iter X.env x = pure x := by intro _; rfl) : PE X (.ListComp elt [⟨tg, iter, ifs, 0⟩] scope pos) (tComp fm wi g tc te) :=
  pe_comp (blk_mk hB) hc hi hg hk ht he hs
end
theorem fund_mk {K : PySem.W.Frag} {mg : Str → Option Value} {x : Str} {st : Stmt} {f : Addr} {oc : Value} {od an : Option Addr} {osl : Array (Option Value)} {kV doc pm cdv ct : Value} {ps : List Str} (l : K.lookup f = some ⟨oc, od, .func (PySem.W.fnOf x x (defArgs st) (defBody st) (defScope st) .none kV doc pm an cdv ct), osl⟩)
    (c : PySem.W.codeIn K cdv x = true) (k : PySem.W.keepIn K (.ref f) = true) (m : mg x = some (.ref f))
    (h : ∀ (kV doc pm : Value) (an : Option Addr) (cdv ct : Value) (us : List Value), us.length = ps.length → bindArgs (PySem.W.fnOf x x (defArgs st) (defBody st) (defScope st) .none kV doc pm an cdv ct) ⟨us, []⟩ = pure (ps.zip us)) : FunD K mg x st ps :=
  ⟨f, _, fun_mk l c k, h kV doc pm an cdv ct, m⟩
noncomputable def tupOf (H : Hp) : V → Option (List V)
  | .ref a => match H a with
    | some (.tup xs) => some xs
    | _ => none
  | _ => none
noncomputable def lstOf (H : Hp) : V → Option (List V)
  | .ref a => match H a with
    | some (.lst xs) => some xs
    | _ => none
  | _ => none
section
variable {X : Cx} {x : Str} {pos : Pos}
theorem pe_ty {n : String} (hm : X.mg x = none) (hv : bootBuiltins x = some (.type n)) (hg : Gl X x := by rfl) (hn : x ≠ "__name__" := by decide) (hd : (x == ("__debug__" : Str)) = false := by decide) : PE X (.Name x pos) (tC (.ty n)) := pe_bltn hg hm hv rfl hn hd
theorem pe_cst {i : Int} (h : ∃ t, X.mg x = some (.int i t)) (hg : Gl X x := by rfl) (hd : (x == ("__debug__" : Str)) = false := by decide) : PE X (.Name x pos) (tC (.int i)) := by
  obtain ⟨t, h⟩ := h
  exact pe_glob hg h ⟨t, rfl⟩ hd
end
theorem bt_len : bootBuiltins "len" = some (.builtin "len") := by decide +kernel
theorem bt_abs : bootBuiltins "abs" = some (.builtin "abs") := by decide +kernel
theorem bt_min : bootBuiltins "min" = some (.builtin "min") := by decide +kernel
theorem bt_all : bootBuiltins "all" = some (.builtin "all") := by decide +kernel
theorem bt_any : bootBuiltins "any" = some (.builtin "any") := by decide +kernel
theorem bt_isinstance : bootBuiltins "isinstance" = some (.builtin "isinstance") := by decide +kernel
theorem bt_int : bootBuiltins "int" = some (.type "int") := by decide +kernel
theorem bt_bool : bootBuiltins "bool" = some (.type "bool") := by decide +kernel
theorem bt_str : bootBuiltins "str" = some (.type "str") := by decide +kernel
theorem bt_list : bootBuiltins "list" = some (.type "list") := by decide +kernel
theorem bt_tuple : bootBuiltins "tuple" = some (.type "tuple") := by decide +kernel
theorem bt_range : bootBuiltins "range" = some (.type "range") := by decide +kernel
end L2
end
section
namespace L2
open PySem PySem.Spec PyProof.Rows
theorem Same.upd {H H' : Hp} {l : Addr} (s : Same H H') (h : H' l = none) (o : HO) : Same H (L2.upd H' l o) := s.trans (same_new h o)
section
variable {X : Cx} {K : PySem.W.Frag} (h : X.K = K)
include h
theorem k_ixl : IxR X (rIxL K) := by subst h; exact ix_list
theorem k_isinst : CallR X (.builtin "isinstance") (fun xs H Q => ∃ x n t b, xs = [x, .ty n] ∧ TyOf K H x t ∧ PySem.W.kitOne K t (.type n) = some b ∧ Q (.bl b) H) := by subst h; exact call_isinst
theorem k_list_of : CallR X (.type "list") (fun xs H Q => ∃ p ys, xs = [.ref p] ∧ (SqL K H p ys ∨ SqT K H p ys) ∧ ∀ l, H l = none → Q (.ref l) (upd H l (.lst ys))) := by subst h; exact call_list_of
theorem k_tuple_of : CallR X (.type "tuple") (fun xs H Q => ∃ p ys, xs = [.ref p] ∧ ((SqL K H p ys ∧ ∀ l, H l = none → Q (.ref l) (upd H l (.tup ys))) ∨ (SqT K H p ys ∧ Q (.ref p) H))) := by subst h; exact call_tuple_of
theorem k_gtup {es : List Expr} {k : Nat} {t : TGs} {n : Nat} {pos : Pos} (hc : X.calm = true) (hh : PGs X es t) (hn : (assignEach es X.env).length = n := by rfl) (hst : (assignEach es X.env).findIdx? (·.1) = none := by rfl) : PG X (.Tuple es k pos) (gTup K n t) := by subst h; exact pg_tup hc hh hn hst
end
theorem cxOf_K {CX : CXT} {P : Program} {w : World} {K : PySem.W.Frag} {mg : Str → Option Value} {base : Heap} {N : List Str} {qual : Str} {scope : Scope} {f : Addr} {cd : Value} {A : Around} {outer : List Env} {s : Shared} {H : Hp} {E : XK} : (cxOf CX P w K mg base N qual scope f cd A outer s H E).K = K := rfl
theorem blk_K {X : Cx} {scope : Scope} {N' : List Str} {C : Addr} {s : Shared} {H : Hp} {ex : List Addr} : (X.blk scope N' C s H ex).K = X.K := rfl
noncomputable def NS (e : Expr) : Prop := ∀ (es : List Expr) (env : Env), starEach (e :: es) env = (false, eval e env) :: starEach es env
theorem ns_Constant {k v p} : NS (.Constant k v p) := fun _ _ => rfl
theorem ns_Name {k p} : NS (.Name k p) := fun _ _ => rfl
theorem ns_Tuple {k v p} : NS (.Tuple k v p) := fun _ _ => rfl
theorem ns_BinOp {a o b p} : NS (.BinOp a o b p) := fun _ _ => rfl
theorem ns_Compare {a o b p} : NS (.Compare a o b p) := fun _ _ => rfl
theorem ns_Call {a o b p} : NS (.Call a o b p) := fun _ _ => rfl
theorem ns_Subscript {a b p} : NS (.Subscript a b p) := fun _ _ => rfl
theorem ns_ListComp {a b c p} : NS (.ListComp a b c p) := fun _ _ => rfl
theorem pa_consN {X : Cx} {e : Expr} {es : List Expr} {te : TE} {t : TA} (h : NS e) (ha : PE X e te) (hr : PA X es t) : PA X (e :: es) (tCons te t) := pa_cons ha hr (h es X.env)
end L2
end
section
namespace L2
open PySem PySem.Spec PyProof.Rows
inductive TabEs (w : World) : List DictEntry → List (Str × Addr) → Prop where
  | nil : TabEs w [] []
  | cons {x : Str} {t : Tok} {f : Addr} {es : List DictEntry} {kvs : List (Str × Addr)} : TabEs w es kvs → TabEs w (⟨PyData.keyHash w.params x, .str x t, .ref f⟩ :: es) ((x, f) :: kvs)
structure Tab (w : World) (K : PySem.W.Frag) (a : Addr) (kvs : List (Str × Addr)) : Prop where
  sys : (a == sysModules) = false
  nd : (kvs.map (·.1)).Nodup
  it : ∃ (es : Array DictEntry) (ep : Nat), K.lookup a = some ⟨.type "dict", none, .dict es ep, #[]⟩ ∧ TabEs w es.toList kvs
noncomputable def tabV (kvs : List (Str × Addr)) : List (Key × Value) := kvs.map fun p => (.inr p.1, .ref p.2)
theorem TabEs.ok {P : Program} {w : World} : ∀ {es : List DictEntry} {kvs : List (Str × Addr)}, TabEs w es kvs → (∀ e ∈ es, ∃ k, (mixKind P w).is k e.key = true ∧ e.hash = (mixKind P w).hash k) ∧ Pairs (mixKind P w) es (tabV kvs)
  | _, _, .nil => ⟨fun _ h => (by cases h), .nil⟩
  | _, _, @TabEs.cons _ x t f es kvs r => by
    obtain ⟨a, b⟩ := r.ok (P := P)
    refine ⟨fun e he => ?_, .cons (mixKind_str P w x t) rfl b⟩
    rcases List.mem_cons.mp he with rfl | he
    · exact ⟨.inr x, mixKind_str P w x t, rfl⟩
    · exact a e he
theorem Tab.dict {w : World} {K : PySem.W.Frag} {a : Addr} {kvs : List (Str × Addr)} {P : Program} {h : Heap} (T : Tab w K a kvs) (X : K.In h) : h.DictOf (mixKind P w) a (tabV kvs) := by
  obtain ⟨s, nd, es, ep, l, r⟩ := T
  obtain ⟨a1, a2⟩ := r.ok (P := P)
  refine ⟨_, es, ep, X a _ l, ⟨rfl, rfl, rfl⟩, rfl, fun e he => a1 e (Array.mem_toList_iff.mpr he), a2, ?_⟩
  have : (tabV kvs).map (·.1) = (kvs.map (·.1)).map (Sum.inr : Str → Key) := by simp [tabV]
  rw [this]
  exact nd.map _ fun _ _ ne e => ne (Sum.inr.inj e)
noncomputable def tabGet (kvs : List (Str × Addr)) (x : Str) : Option Addr := (kvs.find? fun p => decide (p.1 = x)).map (·.2)
theorem tab_val (kvs : List (Str × Addr)) (x : Str) : valueAt (tabV kvs) (.inr x) = (tabGet kvs x).map Value.ref := by
  induction kvs with
  | nil => rfl
  | cons p t ih =>
    by_cases h : p.1 = x
    · simp [valueAt, tabV, tabGet, h]
    · have h' : ¬ ((Sum.inr p.1 : Key) = Sum.inr x) := fun e => h (Sum.inr.inj e)
      simp only [valueAt, tabV, tabGet, List.map_cons, List.find?_cons, decide_eq_false h, decide_eq_false h'] at ih ⊢
      exact ih
section
variable {X : Cx} {a : Addr} {kvs : List (Str × Addr)} {o i : Expr} {to ti : TE} {pos : Pos}
noncomputable def tTab (kvs : List (Str × Addr)) (a : Addr) (to ti : TE) : TE := fun σ H Q => to σ H fun x H1 => ti σ H1 fun y H2 => ∃ n f, x = .ref a ∧ y = .str n ∧ tabGet kvs n = some f ∧ Q (.ref f) H2
noncomputable def tTabIn (kvs : List (Str × Addr)) (a : Addr) (ti to : TE) : TE := fun σ H Q => ti σ H fun y H1 => to σ H1 fun x H2 => ∃ n, x = .ref a ∧ y = .str n ∧ Q (.bl (tabGet kvs n).isSome) H2
theorem pe_tab (T : Tab X.w X.K a kvs) (ho : PE X o to) (hi : PE X i ti) (hs : NoSl i) : PE X (.Subscript o i pos) (tTab kvs a to ti) := by
  intro pins s σ H Q I h
  refine subD_of PySem.F.slot_dict_getitem.lookup hs (thn (ho pins s σ H _ I h) fun u s1 ⟨x, H1, I1, rx, q1⟩ => thn (hi pins s1 σ H1 _ I1 q1) fun iv s2 ⟨y, H2, I2, ry, n, f, ex, ey, g, q2⟩ => ?_)
  subst ex ey
  obtain rfl : u = Value.ref a := rx
  have d := T.dict (P := X.prog) I2.kIn
  refine ⟨d.mapOf.typeIs, wpAny_getItem_of (kV_is (k := .inr n) ry) d.mapOf (by rw [tab_val, g]; rfl) ?_⟩
  exact ⟨.ref f, H2, I2.tok _, rfl, q2⟩
theorem pc_tab (T : Tab X.w X.K a kvs) (hi : PE X i ti) (ho : PE X o to) : PC X .In i o (tTabIn kvs a ti to) := by
  intro pins s σ H Q I h
  refine thn (hi pins s σ H _ I h) fun iv s1 ⟨y, H1, I1, ry, q1⟩ => thn (ho pins s1 σ H1 _ I1 q1) fun u s2 ⟨x, H2, I2, rx, n, ex, ey, q2⟩ => ?_
  subst ex ey
  obtain rfl : u = Value.ref a := rx
  have d := T.dict (P := X.prog) I2.kIn
  refine wpAny_in_of (kV_is (k := .inr n) ry) T.sys d.mapOf ?_
  rw [tab_val, Option.isSome_map]
  exact ⟨.bl _, H2, I2.tok _, rfl, q2⟩
end
noncomputable def DefA (P : Program) (w : World) (K : PySem.W.Frag) (mg : Str → Option Value) (base : Heap) (k : Nat) (f : Addr) (ps : List Str) (sp : Sp) : Prop :=
  ∃ fd, FnOk P w K mg base CX0 k f fd ps sp ∧ Binds K fd ps [] ∧ PySem.W.keepIn K (.ref f) = true
theorem Def.at {P : Program} {w : World} {K : PySem.W.Frag} {mg : Str → Option Value} {base : Heap} {k : Nat} {x : Str} {ps : List Str} {sp : Sp} {f : Addr} (d : Def P w K mg base k x ps sp) (h : mg x = some (.ref f)) : DefA P w K mg base k f ps sp := by
  obtain ⟨f', fd, F, b, kp, m⟩ := d
  rw [h] at m
  cases m
  exact ⟨fd, F, b, kp⟩
theorem DefA.imp {P : Program} {w : World} {K : PySem.W.Frag} {mg : Str → Option Value} {base : Heap} {k : Nat} {f : Addr} {ps : List Str} {sp sp' : Sp} (d : DefA P w K mg base k f ps sp) (h : ∀ vs H Q E, sp' vs H Q E → sp vs H Q E) : DefA P w K mg base k f ps sp' := by
  obtain ⟨fd, F, r⟩ := d
  exact ⟨fd, F.imp h, r⟩
section
variable {X : Cx} {k j : Nat} {ps : List Str} {D : Addr → Sp → Prop} {x : Str} {p pos : Pos} {e : Expr} {es : List Expr} {t : TA} {i : Nat}
noncomputable def tCallL (i : Nat) (D : Addr → Sp → Prop) (t : TA) : TE := fun σ H Q => ∃ f sp, σ[i]? = some (some (.ref f)) ∧ D f sp ∧ t σ H fun vs H1 => sp vs H1 Q E0
theorem pe_callL (d : ∀ f sp, D f sp → DefA X.prog X.w X.K X.mg X.base j f ps sp) (hr : Room k X.A) (hN : X.N[i]? = some x) (hv : Vis X.env.scope x) (ha : PA X (e :: es) t) (hj : j ≤ k := by decide) (hdb : (x == ("__debug__" : Str)) = false := by decide) (hcd : (x == ("__classdict__" : Str)) = false := by decide)
    (he : starEach (e :: es) X.env = (false, eval e X.env) :: starEach es X.env := by rfl) (hpl : (backTo pos (starEach es X.env)).any (·.1) = false := by rfl) : PE X (.Call (.Name x p) (e :: es) [] pos) (tCallL i D t) := by
  intro pins s σ H Q I h
  obtain ⟨f, sp, hf, hok, h⟩ := h
  obtain ⟨fd, F, b, kp⟩ := d f sp hok
  refine wpAny_Call_Name_kw (thn (pe_var (pos := p) hN hv hdb hcd pins s σ H (fun v H' => v = .ref f ∧ H' = H) I ⟨_, hf, rfl, rfl⟩) fun u s1 ⟨v, H1, I1, r, e1, e2⟩ => ?_)
  subst e1 e2
  obtain rfl : u = Value.ref f := r
  refine PySem.W.callWith_K (h₀ := X.base) I1.ok.mod.kin kp (thn (ha pos pins s1 σ H1 _ I1 h) fun us s2 ⟨vs, H2, I2, r, q⟩ => ⟨I2.kIn, ?_⟩) he hpl
  exact run_fn F (hr.mono hj) b .nil pass0 I2 r (by rw [List.append_nil]; exact q)
end
end L2
end
section
namespace L2
open PySem PySem.Spec PyProof.Rows
section
variable {X : Cx} {pins : List (Addr × Obj)} {σ : St} {H : Hp} {s : Shared} {h' : Heap}
theorem Inv.turned2 {t' : Nat} {e it : Addr} (I : Inv X pins σ H s) (k : ∀ b o, b ≠ e → b ≠ it → s.heap.get? b = some o → h'.get? b = some o) (f : ∀ b ∈ [e, it], FpOk X pins H b) : Inv X pins σ H { s with heap := h', toks := t' } := by
  have ne : ∀ b u, H b = some u → b ≠ e ∧ b ≠ it := fun b u q => ⟨fun z => (by rw [z, (f e (by simp)).1] at q; cases q), fun z => (by rw [z, (f it (by simp)).1] at q; cases q)⟩
  have kk : ∀ b o, b ∉ [e, it] → s.heap.get? b = some o → h'.get? b = some o := fun b o hb q => k b o (fun z => hb (by simp [z])) (fun z => hb (by simp [z])) q
  refine I.step (g' := s.gens) (d' := s.drawn) (ch := [e, it]) (fun b hb => ?_) (fun b o _ _ hc q _ => kk b o hc q) (fun b o _ _ hc q _ => ⟨o.slots, kk b o hc q⟩) (fun _ _ _ _ n => n)
    (fun b o hc q => ⟨o, kk b o hc q⟩) (fun _ _ q => q) (fun _ _ _ q => q) (fun b ps q => ⟨#[], by rw [q]; simp⟩) (fun m hm => ?_) (fun b u q => ?_) I.bare
  · obtain ⟨f0, f1, f2, f3, f4, f5⟩ := f b hb
    exact ⟨f3, f1, f4, f5⟩
  · obtain ⟨o, es, ep, ho, r⟩ := hm
    exact ⟨o, es, ep, k _ o (Ne.symm (f e (by simp)).2.1) (Ne.symm (f it (by simp)).2.1) ho, r⟩
  · refine (I.hok b u q).stay (fun c v hc g => ?_) (fun _ g => g) fun _ _ g => g
    rcases hc with z | z
    · subst z; exact k _ v (ne _ u q).1 (ne _ u q).2 g
    · exact k c v (ne c _ z).1 (ne c _ z).2 g
end
theorem bt_enumerate : bootBuiltins "enumerate" = some (.type "enumerate") := by decide +kernel
end L2
end
section
namespace L2
open PySem PySem.Spec PyProof.Rows PySem.SeqAt
end L2
end
section
namespace L2
open PySem PySem.Spec PyProof.Rows PySem.W
noncomputable def runT {α : Type} (c : Nat → Nat → Bool) : KasT α → α
  | .ret a => a
  | .ask i j k => runT c (k (c i j))
noncomputable def lexZ (fin : Bool) : List (Int × Int) → Bool
  | [] => fin
  | (x, y) :: r => if x = y then lexZ fin r else decide (x < y)
noncomputable def ltI (xs ys : List Int) : Bool := lexZ (decide (xs.length < ys.length)) (xs.zip ys)
noncomputable def ordI (ks : List (List Int)) : List Nat := if ks.length < 2 then List.range ks.length else (runT (fun i j => ltI (ks.getD i []) (ks.getD j [])) (kas_sort ks.length)).toList
end L2
end
section
namespace Pu
open PySem PySem.Spec L2
inductive PV where
  | non | bl (b : Bool) | int (i : Int) | str (x : Str) | ty (n : String) | fn (a : Addr)
  | tup (ps : List PV) | lst (ps : List PV) | dct (ks : List Key) (ps : List PV)
  
  | src (ps : List PV) | ktu (ps : List PV)
  | rng (lo hi : Int)
mutual
noncomputable def Rep (K : PySem.W.Frag) (F : Hp) : PV → V → Prop
  | .non, v => v = .non
  | .bl b, v => v = .bl b
  | .int i, v => v = .int i
  | .str x, v => v = .str x
  | .ty n, v => v = .ty n
  | .fn a, v => v = .ref a
  | .tup ps, v => ∃ a vs, v = .ref a ∧ F a = some (.tup vs) ∧ Reps K F ps vs
  | .lst ps, v => ∃ a vs, v = .ref a ∧ F a = some (.lst vs) ∧ Reps K F ps vs
  | .src ps, v => ∃ a vs, v = .ref a ∧ SqL K F a vs ∧ Reps K F ps vs
  | .ktu ps, v => ∃ a vs, v = .ref a ∧ SqT K F a vs ∧ Reps K F ps vs
  | .rng lo hi, v => ∃ a, v = .ref a ∧ F a = some (.rng lo hi)
  | .dct ks ps, v => ∃ a kvs, v = .ref a ∧ F a = some (.dK kvs) ∧ kvs.map (·.1) = ks ∧ Reps K F ps (kvs.map (·.2))
noncomputable def Reps (K : PySem.W.Frag) (F : Hp) : List PV → List V → Prop
  | [], vs => vs = []
  | p :: ps, vs => ∃ v r, vs = v :: r ∧ Rep K F p v ∧ Reps K F ps r
end
theorem SqTm {K : PySem.W.Frag} {F F' : Hp} {a : Addr} {xs : List V} (e : Same F F') (h : SqT K F a xs) : SqT K F' a xs := by
  rcases h with (h | ⟨o, h⟩) | h
  · exact .inl (.inl (e _ _ h))
  · exact .inl (.inr ⟨o, e _ _ h⟩)
  · exact .inr h
mutual
theorem Rep.mono {K : PySem.W.Frag} {F F' : Hp} (e : Same F F') : ∀ {p : PV} {v : V}, Rep K F p v → Rep K F' p v
  | .non, _, h => h
  | .bl _, _, h => h
  | .int _, _, h => h
  | .str _, _, h => h
  | .ty _, _, h => h
  | .fn _, _, h => h
  | .tup ps, _, h => by
    obtain ⟨a, vs, e1, e2, e3⟩ := h
    exact ⟨a, vs, e1, e _ _ e2, Reps.mono e e3⟩
  | .lst ps, _, h => by
    obtain ⟨a, vs, e1, e2, e3⟩ := h
    exact ⟨a, vs, e1, e _ _ e2, Reps.mono e e3⟩
  | .src ps, _, h => by
    obtain ⟨a, vs, e1, e2, e3⟩ := h
    exact ⟨a, vs, e1, e.seq e2, Reps.mono e e3⟩
  | .ktu ps, _, h => by
    obtain ⟨a, vs, e1, e2, e3⟩ := h
    exact ⟨a, vs, e1, SqTm e e2, Reps.mono e e3⟩
  | .rng lo hi, _, h => by
    obtain ⟨a, e1, e2⟩ := h
    exact ⟨a, e1, e _ _ e2⟩
  | .dct ks ps, _, h => by
    obtain ⟨a, kvs, e1, e2, e3, e4⟩ := h
    exact ⟨a, kvs, e1, e _ _ e2, e3, Reps.mono e e4⟩
theorem Reps.mono {K : PySem.W.Frag} {F F' : Hp} (e : Same F F') : ∀ {ps : List PV} {vs : List V}, Reps K F ps vs → Reps K F' ps vs
  | [], _, h => h
  | _ :: _, _, h => by
    obtain ⟨v, r, e1, e2, e3⟩ := h
    exact ⟨v, r, e1, Rep.mono e e2, Reps.mono e e3⟩
end
theorem Reps.length {K : PySem.W.Frag} {F : Hp} : ∀ {ps : List PV} {vs : List V}, Reps K F ps vs → vs.length = ps.length
  | [], _, h => by rw [show _ = [] from h]; rfl
  | p :: ps, _, ⟨v, r, e, _, t⟩ => by rw [e, List.length_cons, List.length_cons, t.length]
theorem Reps.get {K : PySem.W.Frag} {F : Hp} : ∀ {ps : List PV} {vs : List V} {i : Nat} {p : PV}, Reps K F ps vs → ps[i]? = some p → ∃ v, vs[i]? = some v ∧ Rep K F p v
  | [], _, i, p, _, e => by simp at e
  | _ :: _, _, 0, _, ⟨v, r, e, h, t⟩, q => by simp at q; subst q; exact ⟨v, by rw [e]; rfl, h⟩
  | _ :: ps, _, i + 1, p, ⟨v, r, e, h, t⟩, q => by
    obtain ⟨u, h1, h2⟩ := t.get (i := i) (p := p) (by simpa using q)
    exact ⟨u, by rw [e]; simpa using h1, h2⟩
theorem Reps.app {K : PySem.W.Frag} {F : Hp} : ∀ {ps qs : List PV} {vs us : List V}, Reps K F ps vs → Reps K F qs us → Reps K F (ps ++ qs) (vs ++ us)
  | [], _, _, _, h, q => by rw [show _ = [] from h]; exact q
  | _ :: _, _, _, _, ⟨v, r, e, h, t⟩, q => ⟨v, _, by rw [e]; rfl, h, t.app q⟩
theorem Reps.one {K : PySem.W.Frag} {F : Hp} {p : PV} {v : V} (h : Rep K F p v) : Reps K F [p] [v] := ⟨v, [], rfl, h, rfl⟩
theorem Reps.set {K : PySem.W.Frag} {F : Hp} {p : PV} {v : V} (h : Rep K F p v) : ∀ {ps : List PV} {vs : List V} (i : Nat), Reps K F ps vs → Reps K F (ps.set i p) (vs.set i v)
  | [], _, _, q => by rw [show _ = [] from q]; rfl
  | _ :: _, _, 0, ⟨v', r, e, _, t⟩ => by rw [e]; exact ⟨v, r, rfl, h, t⟩
  | _ :: _, _, i + 1, ⟨v', r, e, h', t⟩ => by rw [e]; exact ⟨v', _, rfl, h', Reps.set h i t⟩
theorem Reps.take {K : PySem.W.Frag} {F : Hp} : ∀ {ps : List PV} {vs : List V} (n : Nat), Reps K F ps vs → Reps K F (ps.take n) (vs.take n)
  | _, _, 0, _ => by simp [Reps]
  | [], _, _ + 1, q => by rw [show _ = [] from q]; rfl
  | _ :: _, _, n + 1, ⟨v, r, e, h, t⟩ => by rw [e]; exact ⟨v, _, rfl, h, t.take n⟩
theorem Reps.drop {K : PySem.W.Frag} {F : Hp} : ∀ {ps : List PV} {vs : List V} (n : Nat), Reps K F ps vs → Reps K F (ps.drop n) (vs.drop n)
  | _, _, 0, q => q
  | [], _, _ + 1, q => by rw [show _ = [] from q]; rfl
  | _ :: _, _, n + 1, ⟨v, r, e, h, t⟩ => by rw [e]; exact t.drop n
structure Grow (F H F' H' : Hp) : Prop where
  hh : Same H H'
  ff : Same F F'
  fh : Same F' H'
  nw : ∀ b o, F' b = some o → F b = some o ∨ H b = none ∨ ∃ vs, o = .tup vs
theorem Grow.refl {F H : Hp} (h : Same F H) : Grow F H F H := ⟨Same.refl _, Same.refl _, h, fun _ _ e => .inl e⟩
theorem Grow.trans {F H F1 H1 F2 H2 : Hp} (a : Grow F H F1 H1) (b : Grow F1 H1 F2 H2) : Grow F H F2 H2 :=
  ⟨a.hh.trans b.hh, a.ff.trans b.ff, b.fh, fun c o e => (b.nw c o e).elim (a.nw c o) fun z => .inr (z.elim (fun z => .inl (a.hh.free z)) .inr)⟩
theorem Grow.keep {F H F' H' : Hp} (g : Grow F H F' H') {a : Addr} {o : HO} (hF : F a = none) (hH : H a = some o) (ho : ∀ vs, o ≠ .tup vs := by intro vs h; cases h) : F' a = none ∧ H' a = some o := by
  refine ⟨?_, g.hh _ _ hH⟩
  cases e : F' a with
  | none => rfl
  | some u =>
    rcases g.nw a u e with z | z | ⟨vs, z⟩
    · rw [hF] at z; cases z
    · rw [hH] at z; cases z
    · have h1 := g.fh a u e
      rw [g.hh _ _ hH] at h1
      cases h1
      exact absurd z (ho vs)
theorem Grow.new {F H : Hp} (h : Same F H) {a : Addr} (ha : H a = none) (o : HO) : Grow F H (upd F a o) (upd H a o) := by
  have hFa : F a = none := h.free ha
  refine ⟨same_new ha o, same_new hFa o, fun b u e => ?_, fun b u e => ?_⟩
  · by_cases hb : b = a
    · subst hb; rw [upd_same] at e ⊢; exact e
    · rw [upd_ne hb] at e ⊢; exact h b u e
  · by_cases hb : b = a
    · subst hb; exact .inr (.inl ha)
    · rw [upd_ne hb] at e; exact .inl e
theorem Grow.newO {F H : Hp} (h : Same F H) {a : Addr} (ha : H a = none) (o : HO) : Grow F H F (upd H a o) := ⟨same_new ha o, Same.refl _, h.trans (same_new ha o), fun b u e => .inl e⟩
theorem Grow.freeze {F H F' H' : Hp} (g : Grow F H F' H') {a : Addr} {o : HO} (h0 : H a = none) (hF : F' a = none) (hH : H' a = some o) : Grow F H (upd F' a o) H' := by
  refine ⟨g.hh, g.ff.trans (same_new hF o), fun b u e => ?_, fun b u e => ?_⟩
  · by_cases hb : b = a
    · subst hb; rw [upd_same] at e; rw [hH]; exact e
    · rw [upd_ne hb] at e; exact g.fh b u e
  · by_cases hb : b = a
    · subst hb; exact .inr (.inl h0)
    · rw [upd_ne hb] at e; exact g.nw b u e
inductive Sl where
  | val (p : PV) | own (ps : List PV) | dic (ks : List Key) (ps : List PV)
noncomputable abbrev PSt := List (Option Sl)
inductive RdV (K : PySem.W.Frag) (F H : Hp) : PV → V → Prop where
  | frz {p : PV} {v : V} : Rep K F p v → RdV K F H p v
  | own {ps : List PV} {a : Addr} {vs : List V} : H a = some (.lst vs) → F a = none → Reps K F ps vs → RdV K F H (.lst ps) (.ref a)
  | dic {ks : List Key} {ps : List PV} {a : Addr} {kvs : List (Key × V)} : H a = some (.dK kvs) → F a = none → kvs.map (·.1) = ks → Reps K F ps (kvs.map (·.2)) → RdV K F H (.dct ks ps) (.ref a)
theorem RdV.grow {K : PySem.W.Frag} {F H F' H' : Hp} {p : PV} {v : V} (g : Grow F H F' H') (h : RdV K F H p v) : RdV K F' H' p v := by
  cases h with
  | frz h => exact .frz (h.mono g.ff)
  | own h1 h2 h3 => exact .own (g.keep h2 h1).2 (g.keep h2 h1).1 (h3.mono g.ff)
  | dic h1 h2 h3 h4 => exact .dic (g.keep h2 h1).2 (g.keep h2 h1).1 h3 (h4.mono g.ff)
noncomputable def slV : Sl → PV
  | .val p => p
  | .own ps => .lst ps
  | .dic ks ps => .dct ks ps
noncomputable def SlR (K : PySem.W.Frag) (F H : Hp) : Option V → Option Sl → Prop
  | _, none => True
  | some v, some (.val p) => Rep K F p v
  | some v, some (.own ps) => ∃ a vs, v = .ref a ∧ H a = some (.lst vs) ∧ F a = none ∧ Reps K F ps vs
  | some v, some (.dic ks ps) => ∃ a kvs, v = .ref a ∧ H a = some (.dK kvs) ∧ F a = none ∧ kvs.map (·.1) = ks ∧ Reps K F ps (kvs.map (·.2))
  | none, some _ => False
theorem SlR.rd {K : PySem.W.Frag} {F H : Hp} {o : Option V} {s : Sl} (h : SlR K F H o (some s)) : ∃ v, o = some v ∧ RdV K F H (slV s) v := by
  cases o with
  | none => cases s <;> exact h.elim
  | some v =>
    refine ⟨v, rfl, ?_⟩
    cases s with
    | val p => exact .frz h
    | own ps => obtain ⟨a, vs, rfl, h1, h2, h3⟩ := h; exact .own h1 h2 h3
    | dic ks ps => obtain ⟨a, vs, rfl, h1, h2, h3, h4⟩ := h; exact .dic h1 h2 h3 h4
theorem SlR.grow {K : PySem.W.Frag} {F H F' H' : Hp} (g : Grow F H F' H') : ∀ {o : Option V} {s : Option Sl}, SlR K F H o s → SlR K F' H' o s
  | _, none, _ => by unfold SlR; trivial
  | none, some s, h => by cases s <;> exact h.elim
  | some v, some (.val p), h => Rep.mono g.ff h
  | some v, some (.own ps), ⟨a, vs, e, h1, h2, h3⟩ => ⟨a, vs, e, (g.keep h2 h1).2, (g.keep h2 h1).1, h3.mono g.ff⟩
  | some v, some (.dic ks ps), ⟨a, vs, e, h1, h2, h3, h4⟩ => ⟨a, vs, e, (g.keep h2 h1).2, (g.keep h2 h1).1, h3, h4.mono g.ff⟩
structure ER (K : PySem.W.Frag) (F H : Hp) (σ : St) (ρ : PSt) : Prop where
  fz : Same F H
  len : σ.length = ρ.length
  sl : ∀ (i : Nat) (s : Sl), ρ[i]? = some (some s) → SlR K F H ((σ[i]?).join) (some s)
theorem ER.grow {K : PySem.W.Frag} {F H F' H' : Hp} {σ : St} {ρ : PSt} (g : Grow F H F' H') (h : ER K F H σ ρ) : ER K F' H' σ ρ := ⟨g.fh, h.len, fun i s e => (h.sl i s e).grow g⟩
theorem ER.rd {K : PySem.W.Frag} {F H : Hp} {σ : St} {ρ : PSt} (h : ER K F H σ ρ) {i : Nat} {s : Sl} (e : ρ[i]? = some (some s)) : ∃ v, σ[i]? = some (some v) ∧ RdV K F H (slV s) v := by
  obtain ⟨v, e1, r⟩ := (h.sl i s e).rd
  refine ⟨v, ?_, r⟩
  cases q : σ[i]? with
  | none => rw [q] at e1; cases e1
  | some o => rw [q] at e1; rw [show o = some v from e1]
noncomputable abbrev PTE := PSt → (PV → Prop) → Prop
noncomputable abbrev PTN := PSt → (List PV → Prop) → Prop
noncomputable abbrev PTB := PSt → (Bool → Prop) → Prop
noncomputable abbrev PTA := PSt → (List PV → Prop) → Prop
noncomputable def lE (K : PySem.W.Frag) (te : PTE) : TE := fun σ H Q => ∃ F ρ, ∃ Qp : PV → Prop, ER K F H σ ρ ∧ te ρ Qp ∧ ∀ p v F' H', Qp p → Grow F H F' H' → Rep K F' p v → Q v H'
noncomputable def lT (K : PySem.W.Frag) (te : PTE) : TE := fun σ H Q => ∃ F ρ, ∃ Qp : PV → Prop, ER K F H σ ρ ∧ te ρ Qp ∧ ∀ p v F' H', Qp p → Grow F H F' H' → RdV K F' H' p v → Q v H'
noncomputable def lN (K : PySem.W.Frag) (te : PTN) : TE := fun σ H Q => ∃ F ρ, ∃ Qp : List PV → Prop, ER K F H σ ρ ∧ te ρ Qp ∧ ∀ ps a vs F' H', Qp ps → Grow F H F' H' → H a = none → F' a = none → H' a = some (.lst vs) → Reps K F' ps vs → Q (.ref a) H'
noncomputable def lB (K : PySem.W.Frag) (te : PTB) : TT := fun σ H Q => ∃ F ρ, ∃ Qp : Bool → Prop, ER K F H σ ρ ∧ te ρ Qp ∧ ∀ b F' H', Qp b → Grow F H F' H' → Q b H'
noncomputable def lA (K : PySem.W.Frag) (te : PTA) : TA := fun σ H Q => ∃ F ρ, ∃ Qp : List PV → Prop, ER K F H σ ρ ∧ te ρ Qp ∧ ∀ ps vs F' H', Qp ps → Grow F H F' H' → Reps K F' ps vs → Q vs H'
theorem lE.elim {K : PySem.W.Frag} {te : PTE} {σ : St} {H : Hp} {Q : VK} {C : Prop} (h : lE K te σ H Q) (k : ∀ F ρ (Qp : PV → Prop), ER K F H σ ρ → te ρ Qp → (∀ p v F' H', Qp p → Grow F H F' H' → Rep K F' p v → Q v H') → C) : C := by obtain ⟨F, ρ, Qp, a, b, c⟩ := h; exact k F ρ Qp a b c
theorem lT.elim {K : PySem.W.Frag} {te : PTE} {σ : St} {H : Hp} {Q : VK} {C : Prop} (h : lT K te σ H Q) (k : ∀ F ρ (Qp : PV → Prop), ER K F H σ ρ → te ρ Qp → (∀ p v F' H', Qp p → Grow F H F' H' → RdV K F' H' p v → Q v H') → C) : C := by obtain ⟨F, ρ, Qp, a, b, c⟩ := h; exact k F ρ Qp a b c
theorem lN.elim {K : PySem.W.Frag} {te : PTN} {σ : St} {H : Hp} {Q : VK} {C : Prop} (h : lN K te σ H Q) (k : ∀ F ρ (Qp : List PV → Prop), ER K F H σ ρ → te ρ Qp → (∀ ps a vs F' H', Qp ps → Grow F H F' H' → H a = none → F' a = none → H' a = some (.lst vs) → Reps K F' ps vs → Q (.ref a) H') → C) : C := by obtain ⟨F, ρ, Qp, a, b, c⟩ := h; exact k F ρ Qp a b c
theorem lB.elim {K : PySem.W.Frag} {te : PTB} {σ : St} {H : Hp} {Q : Bool → Hp → Prop} {C : Prop} (h : lB K te σ H Q) (k : ∀ F ρ (Qp : Bool → Prop), ER K F H σ ρ → te ρ Qp → (∀ b F' H', Qp b → Grow F H F' H' → Q b H') → C) : C := by obtain ⟨F, ρ, Qp, a, b, c⟩ := h; exact k F ρ Qp a b c
theorem lA.elim {K : PySem.W.Frag} {te : PTA} {σ : St} {H : Hp} {Q : List V → Hp → Prop} {C : Prop} (h : lA K te σ H Q) (k : ∀ F ρ (Qp : List PV → Prop), ER K F H σ ρ → te ρ Qp → (∀ ps vs F' H', Qp ps → Grow F H F' H' → Reps K F' ps vs → Q vs H') → C) : C := by obtain ⟨F, ρ, Qp, a, b, c⟩ := h; exact k F ρ Qp a b c
noncomputable def PuE (X : Cx) (e : Expr) (te : PTE) : Prop := PE X e (lE X.K te)
noncomputable def PuT (X : Cx) (e : Expr) (te : PTE) : Prop := PE X e (lT X.K te)
noncomputable def PuN (X : Cx) (e : Expr) (te : PTN) : Prop := PE X e (lN X.K te)
noncomputable def PuB (X : Cx) (e : Expr) (te : PTB) : Prop := PT X e (lB X.K te)
noncomputable def PuW (X : Cx) (e : Expr) (te : PTB) : Prop := PW X e (lB X.K te)
noncomputable def PuA (X : Cx) (es : List Expr) (te : PTA) : Prop := PA X es (lA X.K te)
theorem PE.weak {X : Cx} {e : Expr} {t t' : TE} (h : PE X e t) (w : ∀ σ H Q, t' σ H Q → t σ H Q) : PE X e t' := fun pins s σ H Q I q => h pins s σ H Q I (w σ H Q q)
theorem PT.weak {X : Cx} {e : Expr} {t t' : TT} (h : PT X e t) (w : ∀ σ H Q, t' σ H Q → t σ H Q) : PT X e t' := fun pins s σ H Q I q => h pins s σ H Q I (w σ H Q q)
theorem PW.weak {X : Cx} {e : Expr} {t t' : TT} (h : PW X e t) (w : ∀ σ H Q, t' σ H Q → t σ H Q) : PW X e t' := fun wh pins s σ H Q I q => h wh pins s σ H Q I (w σ H Q q)
theorem PA.weak {X : Cx} {e : List Expr} {t t' : TA} (h : PA X e t) (w : ∀ σ H Q, t' σ H Q → t σ H Q) : PA X e t' := fun pos pins s σ H Q I q => h pos pins s σ H Q I (w σ H Q q)
theorem PS.weak {X : Cx} {e : Stmt} {t t' : TS} (h : PS X e t) (w : ∀ D σ H, t' D σ H → t D σ H) : PS X e t' := fun pins s σ H D I q => h pins s σ H D I (w D σ H q)
theorem PSs.weak {X : Cx} {e : List Stmt} {t t' : TS} (h : PSs X e t) (w : ∀ D σ H, t' D σ H → t D σ H) : PSs X e t' := fun pins s σ H D I q => h pins s σ H D I (w D σ H q)
theorem PI.weak {X : Cx} {tg e : Expr} {t t' : TI} (h : PI X tg e t) (w : ∀ σ H Q, t' σ H Q → t σ H Q) : PI X tg e t' := fun pins s σ H Q I q => h pins s σ H Q I (w σ H Q q)
section
variable {X : Cx} {e a b c : Expr} {pos : Pos} {te ta tb : PTE}
noncomputable def gr (ρ : PSt) (i : Nat) (Q : PV → Prop) : Prop := match ρ[i]? with
  | some (some s) => Q (slV s)
  | _ => False
noncomputable def pC (p : PV) : PTE := fun _ Q => Q p
noncomputable def flat : PV → V
  | .non => .non
  | .bl b => .bl b
  | .int i => .int i
  | .str x => .str x
  | .ty n => .ty n
  | .fn a => .ref a
  | _ => .non
noncomputable def isFlat : PV → Bool
  | .tup _ => false
  | .lst _ => false
  | .dct _ _ => false
  | .src _ => false
  | .ktu _ => false
  | .rng _ _ => false
  | _ => true
theorem rep_flat {K : PySem.W.Frag} {F : Hp} {p : PV} (h : isFlat p = true) : Rep K F p (flat p) := by
  cases p <;> first | rfl | exact absurd h Bool.false_ne_true
theorem pu_c {p : PV} (h : PE X e (tC (flat p))) (hp : isFlat p = true := by rfl) : PuE X e (pC p) := PE.weak h fun σ H Q hh_ => hh_.elim fun F ρ Qp er q k => k p _ F H q (.refl er.fz) (rep_flat hp)
theorem pu_int {i : Int} {j} : PuE X (.Constant (.int i) j pos) (pC (.int i)) := pu_c pe_int
theorem pu_bl {i : Bool} {j} : PuE X (.Constant (.bool i) j pos) (pC (.bl i)) := pu_c pe_bl
theorem pu_non {j} : PuE X (.Constant .none j pos) (pC .non) := pu_c pe_non
theorem pu_str {x : Str} {j} : PuE X (.Constant (.str x) j pos) (pC (.str x)) := pu_c pe_str
noncomputable abbrev PG2 := PV → PV → (PV → Prop) → Prop
noncomputable def pOp (g : PG2) (ta tb : PTE) : PTE := fun ρ Q => ta ρ fun x => tb ρ fun y => g x y Q
noncomputable def Ref2 (K : PySem.W.Frag) (r : R2) (g : PG2) : Prop := ∀ F H x y p q (Qp : PV → Prop) (Q : VK), Same F H → RdV K F H p x → RdV K F H q y → g p q Qp → (∀ z v F' H', Qp z → Grow F H F' H' → Rep K F' z v → Q v H') → r x y H Q
theorem op_lift {r : R2} {g : PG2} (hg : Ref2 X.K r g) : ∀ σ H Q, lE X.K (pOp g ta tb) σ H Q → tOp r (lT X.K ta) (lT X.K tb) σ H Q := fun σ H Q hh_ => hh_.elim fun F ρ Qp er q k =>
  ⟨F, ρ, _, er, q, fun p v F1 H1 q1 g1 r1 => ⟨F1, ρ, _, er.grow g1, q1, fun p2 v2 F2 H2 q2 g2 r2 =>
    hg F2 H2 v v2 p p2 Qp Q g2.fh (r1.grow g2) r2 q2 fun z u F3 H3 qz g3 r3 => k z u F3 H3 qz ((g1.trans g2).trans g3) r3⟩⟩
theorem pu_op {op : Operator} {r : R2} {g : PG2} (ho : OpR X (binaryOp op) r) (hg : Ref2 X.K r g) (ha : PuT X a ta) (hb : PuT X b tb) : PuE X (.BinOp a op b pos) (pOp g ta tb) := PE.weak (pe_op ho ha hb) (op_lift hg)
theorem pu_cmp {op : CmpOp} {r : R2} {g : PG2} (ho : OpR X (compareOp op) r) (hg : Ref2 X.K r g) (ha : PuT X a ta) (hb : PuT X b tb) (hm : behindInMarks op b = false) : PuE X (.Compare a [op] [b] pos) (pOp g ta tb) := PE.weak (pe_cmpR ho ha hb hm) (op_lift hg)
noncomputable def OkB : PV → (Bool → Prop) → Prop
  | .bl b, Q => Q b
  | _, _ => False
noncomputable def OkI : PV → (Int → Prop) → Prop
  | .int i, Q => Q i
  | _, _ => False
theorem OkB.rd {K : PySem.W.Frag} {F H : Hp} {p : PV} {v : V} {Q : Bool → Prop} (h : OkB p Q) (r : RdV K F H p v) : ∃ b, p = .bl b ∧ v = .bl b ∧ Q b := by
  cases p <;> first | exact h.elim | skip
  cases r with
  | frz r => exact ⟨_, rfl, r, h⟩
theorem OkI.rd {K : PySem.W.Frag} {F H : Hp} {p : PV} {v : V} {Q : Int → Prop} (h : OkI p Q) (r : RdV K F H p v) : ∃ b, p = .int b ∧ v = .int b ∧ Q b := by
  cases p <;> first | exact h.elim | skip
  cases r with
  | frz r => exact ⟨_, rfl, r, h⟩
noncomputable def pTest (te : PTE) : PTB := fun ρ Q => te ρ fun x => OkB x Q
theorem pub_cmp {op : CmpOp} {r : R2} {g : PG2} (ho : OpR X (compareOp op) r) (hg : Ref2 X.K r g) (ha : PuT X a ta) (hb : PuT X b tb) (hm : behindInMarks op b = false) : PuB X (.Compare a [op] [b] pos) (pTest (pOp g ta tb)) :=
  PT.weak (pt_cmpR ho ha hb hm) fun σ H Q hh_ => hh_.elim fun F ρ Qp er q k => op_lift hg σ H _ ⟨F, ρ, _, er, q, fun p v F' H' hp g r => by
    obtain ⟨b, rfl, rfl, q⟩ := hp.rd (H := H') (.frz r)
    exact ⟨b, rfl, k b F' H' q g⟩⟩
noncomputable def gI (C : Int → Int → Prop) (f : Int → Int → PV) : PG2 := fun x y Q => OkI x fun i => OkI y fun j => C i j ∧ Q (f i j)
noncomputable def gI0 (f : Int → Int → PV) : PG2 := fun x y Q => OkI x fun i => OkI y fun j => Q (f i j)
theorem ref_rI {K : PySem.W.Frag} {C : Int → Int → Prop} {f : Int → Int → PV} (hf : ∀ i j, isFlat (f i j) = true := by intros; rfl) : Ref2 K (rI C fun i j => flat (f i j)) (gI C f) := fun F H x y p q Qp Q s rx ry h k => by
  obtain ⟨i, rfl, rfl, h⟩ := OkI.rd h rx
  obtain ⟨j, rfl, rfl, h⟩ := OkI.rd h ry
  exact ⟨i, j, rfl, rfl, h.1, k _ _ F H h.2 (.refl s) (rep_flat (hf i j))⟩
theorem ref_rI0 {K : PySem.W.Frag} {f : Int → Int → PV} (hf : ∀ i j, isFlat (f i j) = true := by intros; rfl) : Ref2 K (rI0 fun i j => flat (f i j)) (gI0 f) := fun F H x y p q Qp Q s rx ry h k => by
  obtain ⟨i, rfl, rfl, h⟩ := OkI.rd h rx
  obtain ⟨j, rfl, rfl, h⟩ := OkI.rd h ry
  exact ⟨i, j, rfl, rfl, k _ _ F H h (.refl s) (rep_flat (hf i j))⟩
noncomputable def gAdd : PG2 := gI0 fun i j => .int (i + j)
noncomputable def gSub : PG2 := gI0 fun i j => .int (i - j)
noncomputable def gMul : PG2 := gI CMul fun i j => .int (i * j)
noncomputable def gDiv : PG2 := gI CDiv fun i j => .int (i / j)
noncomputable def gMod : PG2 := gI (fun _ j => 0 < j) fun i j => .int (i % j)
noncomputable def gPow : PG2 := gI CPow fun i j => .int (i ^ j.toNat)
noncomputable def gLt : PG2 := gI0 fun i j => .bl (decide (i < j))
noncomputable def gLe : PG2 := gI0 fun i j => .bl (decide (i ≤ j))
noncomputable def gGt : PG2 := gI0 fun i j => .bl (decide (j < i))
noncomputable def gGe : PG2 := gI0 fun i j => .bl (decide (j ≤ i))
theorem pu_add (ha : PuT X a ta) (hb : PuT X b tb) : PuE X (.BinOp a .Add b pos) (pOp gAdd ta tb) := pu_op op_add (ref_rI0 (f := fun i j => .int (i + j))) ha hb
theorem pu_sub (ha : PuT X a ta) (hb : PuT X b tb) : PuE X (.BinOp a .Sub b pos) (pOp gSub ta tb) := pu_op op_sub (ref_rI0 (f := fun i j => .int (i - j))) ha hb
theorem pu_mul (ha : PuT X a ta) (hb : PuT X b tb) : PuE X (.BinOp a .Mult b pos) (pOp gMul ta tb) := pu_op op_mul (ref_rI (f := fun i j => .int (i * j))) ha hb
theorem pu_div (ha : PuT X a ta) (hb : PuT X b tb) : PuE X (.BinOp a .FloorDiv b pos) (pOp gDiv ta tb) := pu_op op_fdiv (ref_rI (f := fun i j => .int (i / j))) ha hb
theorem pu_mod (ha : PuT X a ta) (hb : PuT X b tb) : PuE X (.BinOp a .Mod b pos) (pOp gMod ta tb) := pu_op op_mod (ref_rI (f := fun i j => .int (i % j))) ha hb
theorem pu_pow (ha : PuT X a ta) (hb : PuT X b tb) : PuE X (.BinOp a .Pow b pos) (pOp gPow ta tb) := pu_op op_pow (ref_rI (f := fun i j => .int (i ^ j.toNat))) ha hb
theorem rf_lt : Ref2 X.K (rI0 fun i j => .bl (decide (i < j))) gLt := ref_rI0 (f := fun i j => .bl (decide (i < j)))
theorem rf_le : Ref2 X.K (rI0 fun i j => .bl (decide (i ≤ j))) gLe := ref_rI0 (f := fun i j => .bl (decide (i ≤ j)))
theorem rf_gt : Ref2 X.K (rI0 fun i j => .bl (decide (j < i))) gGt := ref_rI0 (f := fun i j => .bl (decide (j < i)))
theorem rf_ge : Ref2 X.K (rI0 fun i j => .bl (decide (j ≤ i))) gGe := ref_rI0 (f := fun i j => .bl (decide (j ≤ i)))
noncomputable def isNon : PV → Bool
  | .non => true
  | _ => false
noncomputable def gIsN : PG2 := fun x y Q => match y with
  | .non => Q (.bl (isNon x))
  | _ => False
noncomputable def gNotN : PG2 := fun x y Q => match y with
  | .non => Q (.bl (!isNon x))
  | _ => False
theorem rdNon {K : PySem.W.Frag} {F H : Hp} {p : PV} {v : V} (r : RdV K F H p v) : decide (v = .non) = isNon p := by
  cases r with
  | frz r =>
    cases p with
    | non => rw [show v = _ from r]; rfl
    | bl _ => rw [show v = _ from r]; rfl
    | int _ => rw [show v = _ from r]; rfl
    | str _ => rw [show v = _ from r]; rfl
    | ty _ => rw [show v = _ from r]; rfl
    | fn _ => rw [show v = _ from r]; rfl
    | tup _ => obtain ⟨a, vs, rfl, _⟩ := r; rfl
    | lst _ => obtain ⟨a, vs, rfl, _⟩ := r; rfl
    | dct _ _ => obtain ⟨a, vs, rfl, _⟩ := r; rfl
    | src _ => obtain ⟨a, vs, rfl, _⟩ := r; rfl
    | ktu _ => obtain ⟨a, vs, rfl, _⟩ := r; rfl
    | rng _ _ => obtain ⟨a, rfl, _⟩ := r; rfl
  | own => rfl
  | dic => rfl
theorem rdIsNon {K : PySem.W.Frag} {F H : Hp} {v : V} (r : RdV K F H .non v) : v = .non := by
  cases r with
  | frz r => exact r
theorem rf_isN : Ref2 X.K (fun x y H Q => y = .non ∧ Q (.bl (decide (x = .non))) H) gIsN := fun F H x y p q Qp Q s rx ry h k => by
  cases q <;> first | exact h.elim | skip
  refine ⟨rdIsNon ry, k _ _ F H h (.refl s) ?_⟩
  rw [rdNon rx]; rfl
theorem rf_notN : Ref2 X.K (fun x y H Q => y = .non ∧ Q (.bl (!decide (x = .non))) H) gNotN := fun F H x y p q Qp Q s rx ry h k => by
  cases q <;> first | exact h.elim | skip
  refine ⟨rdIsNon ry, k _ _ F H h (.refl s) ?_⟩
  rw [rdNon rx]; rfl
end
end Pu
end
section
namespace Pu
open PySem PySem.Spec L2
section
variable {X : Cx} {e a b c : Expr} {pos : Pos} {te ta tb tc : PTE} {tA tB' : PTB} {rest : List Expr}
noncomputable def pNotV (ta : PTE) : PTE := fun ρ Q => ta ρ fun x => OkB x fun b => Q (.bl (!b))
noncomputable def pAndV (ta tb : PTE) : PTE := fun ρ Q => ta ρ fun x => OkB x fun b => if b = true then tb ρ Q else Q (.bl false)
noncomputable def pBAnd (t u : PTB) : PTB := fun ρ Q => t ρ fun b => if b = true then u ρ Q else Q false
noncomputable def pBOr (t u : PTB) : PTB := fun ρ Q => t ρ fun b => if b = true then Q true else u ρ Q
noncomputable def pBNot (t : PTB) : PTB := fun ρ Q => t ρ fun b => Q (!b)
noncomputable def pIfE (t : PTB) (ta tb : PTE) : PTE := fun ρ Q => t ρ fun b => if b = true then ta ρ Q else tb ρ Q
theorem pu_not (ha : PuE X a ta) : PuE X (.UnaryOp .Not a pos) (pNotV ta) := PE.weak (pe_not ha) fun σ H Q hh_ => hh_.elim fun F ρ Qp er q k => ⟨F, ρ, _, er, q, fun p v F1 H1 h1 g1 r1 => by
  obtain ⟨b, rfl, rfl, h⟩ := h1.rd (H := H1) (.frz r1)
  exact ⟨b, rfl, k _ _ F1 H1 h g1 rfl⟩⟩
theorem pu_and (ha : PuE X a ta) (hb : PuE X (.BoolOp .And (b :: rest) pos) tb) : PuE X (.BoolOp .And (a :: b :: rest) pos) (pAndV ta tb) := PE.weak (pe_and ha hb) fun σ H Q hh_ => hh_.elim fun F ρ Qp er q k => ⟨F, ρ, _, er, q, fun p v F1 H1 h1 g1 r1 => by
  obtain ⟨b, rfl, rfl, h⟩ := h1.rd (H := H1) (.frz r1)
  refine ⟨b, rfl, ?_⟩
  cases b with
  | true => exact ⟨F1, ρ, Qp, er.grow g1, by simpa using h, fun p v F' H' hp g r => k p v F' H' hp (g1.trans g) r⟩
  | false => exact k (.bl false) _ F1 H1 (by simpa using h) g1 rfl⟩
theorem pu_one {op} (h : PuE X a te) : PuE X (.BoolOp op [a] pos) te := pe_one h
theorem pub_val (h : PT X e (tB (lE X.K te))) : PuB X e (pTest te) := PT.weak h fun σ H Q hh_ => hh_.elim fun F ρ Qp er q k => ⟨F, ρ, _, er, q, fun p v F1 H1 h1 g1 r1 => by
  obtain ⟨b, rfl, rfl, h⟩ := h1.rd (H := H1) (.frz r1)
  exact ⟨b, rfl, k _ F1 H1 h g1⟩⟩
theorem puw_and1 (ha : PuB X a tA) : PuW X (.BoolOp .And [a] pos) tA := pw_and1 ha
theorem puw_or1 (ha : PuB X a tA) : PuW X (.BoolOp .Or [a] pos) tA := pw_or1 ha
theorem puw_and (ha : PuB X a tA) (hb : PuW X (.BoolOp .And (b :: rest) pos) tB') : PuW X (.BoolOp .And (a :: b :: rest) pos) (pBAnd tA tB') := PW.weak (pw_and ha hb) fun σ H Q hh_ => hh_.elim fun F ρ Qp er q k => ⟨F, ρ, _, er, q, fun b F1 H1 h1 g1 => by
  cases b with
  | true => exact ⟨F1, ρ, Qp, er.grow g1, by simpa using h1, fun b F' H' hp g => k b F' H' hp (g1.trans g)⟩
  | false => exact k _ F1 H1 (by simpa using h1) g1⟩
theorem puw_or (ha : PuB X a tA) (hb : PuW X (.BoolOp .Or (b :: rest) pos) tB') : PuW X (.BoolOp .Or (a :: b :: rest) pos) (pBOr tA tB') := PW.weak (pw_or ha hb) fun σ H Q hh_ => hh_.elim fun F ρ Qp er q k => ⟨F, ρ, _, er, q, fun b F1 H1 h1 g1 => by
  cases b with
  | false => exact ⟨F1, ρ, Qp, er.grow g1, by simpa using h1, fun b F' H' hp g => k b F' H' hp (g1.trans g)⟩
  | true => exact k _ F1 H1 (by simpa using h1) g1⟩
theorem puw_b (h : PuW X e tA) : PuB X e tA := PW.pt h
theorem pub_not (ha : PuB X a tA) : PuB X (.UnaryOp .Not a pos) (pBNot tA) := PT.weak (pt_not ha) fun σ H Q hh_ => hh_.elim fun F ρ Qp er q k => ⟨F, ρ, _, er, q, fun b F1 H1 h1 g1 => k _ F1 H1 h1 g1⟩
theorem pu_ifE (hc : PuB X c tA) (ha : PuE X a ta) (hb : PuE X b tb) : PuE X (.IfExp c a b pos) (pIfE tA ta tb) := PE.weak (pe_ifExp hc ha hb) fun σ H Q hh_ => hh_.elim fun F ρ Qp er q k => ⟨F, ρ, _, er, q, fun b F1 H1 h1 g1 => by
  cases b with
  | true => exact ⟨F1, ρ, Qp, er.grow g1, by simpa using h1, fun p v F' H' hp g r => k p v F' H' hp (g1.trans g) r⟩
  | false => exact ⟨F1, ρ, Qp, er.grow g1, by simpa using h1, fun p v F' H' hp g r => k p v F' H' hp (g1.trans g) r⟩⟩
noncomputable def pChain (g g' : PG2) (ta tb tc : PTE) : PTE := fun ρ Q => ta ρ fun x => tb ρ fun y => g x y fun z => OkB z fun k => if k = true then tc ρ fun w => g' y w Q else Q (.bl false)
theorem chain_lift {r r' : R2} {g g' : PG2} (hg : Ref2 X.K r g) (hg' : Ref2 X.K r' g') : ∀ σ H Q, lE X.K (pChain g g' ta tb tc) σ H Q → tChain r r' (lT X.K ta) (lT X.K tb) (lT X.K tc) σ H Q := fun σ H Q hh_ => hh_.elim fun F ρ Qp er q k =>
  ⟨F, ρ, _, er, q, fun p v F1 H1 q1 g1 r1 => ⟨F1, ρ, _, er.grow g1, q1, fun p2 v2 F2 H2 q2 g2 r2 =>
    hg F2 H2 v v2 p p2 _ _ g2.fh (r1.grow g2) r2 q2 fun z u F3 H3 qz g3 r3 => by
      obtain ⟨b, rfl, rfl, h⟩ := OkB.rd (H := H3) qz (.frz r3)
      refine ⟨b, rfl, ?_⟩
      have gg := (g1.trans g2).trans g3
      cases b with
      | true => exact ⟨F3, ρ, _, er.grow gg, by simpa using h, fun p4 v4 F4 H4 q4 g4 r4 => hg' F4 H4 v2 v4 p2 p4 Qp Q g4.fh (r2.grow (g3.trans g4)) r4 q4 fun z u F5 H5 qz g5 r5 => k z u F5 H5 qz ((gg.trans g4).trans g5) r5⟩
      | false => exact k (.bl false) _ F3 H3 (by simpa using h) gg rfl⟩⟩
theorem pu_chain {op op' : CmpOp} {r r' : R2} {g g' : PG2} (ho : OpR X (compareOp op) r) (hg : Ref2 X.K r g) (ho' : OpR X (compareOp op') r') (hg' : Ref2 X.K r' g') (ha : PuT X a ta) (hb : PuT X b tb) (hc : PuT X c tc)
    (hm : lastMarks [op, op'] [b, c] = false := by with_unfolding_all rfl) : PuE X (.Compare a [op, op'] [b, c] pos) (pChain g g' ta tb tc) := PE.weak (pe_chain ho ho' ha hb hc hm) (chain_lift hg hg')
noncomputable def pNeg (ta : PTE) : PTE := fun ρ Q => ta ρ fun x => OkI x fun i => Q (.int (-i))
theorem pu_neg (ha : PuE X a ta) : PuE X (.UnaryOp .USub a pos) (pNeg ta) := PE.weak (pe_un un_neg ha) fun σ H Q hh_ => hh_.elim fun F ρ Qp er q k => ⟨F, ρ, _, er, q, fun p v F1 H1 h1 g1 r1 => by
  obtain ⟨i, rfl, rfl, h⟩ := h1.rd (H := H1) (.frz r1)
  exact ⟨i, rfl, k _ _ F1 H1 h g1 rfl⟩⟩
inductive RdVs (K : PySem.W.Frag) (F H : Hp) : List PV → List V → Prop where
  | nil : RdVs K F H [] []
  | cons {p : PV} {v : V} {ps : List PV} {vs : List V} : RdV K F H p v → RdVs K F H ps vs → RdVs K F H (p :: ps) (v :: vs)
noncomputable def lAT (K : PySem.W.Frag) (te : PTA) : TA := fun σ H Q => ∃ F ρ, ∃ Qp : List PV → Prop, ER K F H σ ρ ∧ te ρ Qp ∧ ∀ ps vs F' H', Qp ps → Grow F H F' H' → RdVs K F' H' ps vs → Q vs H'
theorem lAT.elim {K : PySem.W.Frag} {te : PTA} {σ : St} {H : Hp} {Q : List V → Hp → Prop} {C : Prop} (h : lAT K te σ H Q) (k : ∀ F ρ (Qp : List PV → Prop), ER K F H σ ρ → te ρ Qp → (∀ ps vs F' H', Qp ps → Grow F H F' H' → RdVs K F' H' ps vs → Q vs H') → C) : C := by obtain ⟨F, ρ, Qp, a, b, c⟩ := h; exact k F ρ Qp a b c
noncomputable def PuAT (X : Cx) (es : List Expr) (te : PTA) : Prop := PA X es (lAT X.K te)
noncomputable def pNil : PTA := fun _ Q => Q []
noncomputable def pCons (te : PTE) (t : PTA) : PTA := fun ρ Q => te ρ fun p => t ρ fun ps => Q (p :: ps)
variable {es : List Expr} {t : PTA}
theorem pua_nil : PuA X [] pNil := PA.weak pa_nil fun σ H Q hh_ => hh_.elim fun F ρ Qp er q k => k _ _ F H q (.refl er.fz) rfl
theorem pua_cons (hn : NS e) (he : PuE X e te) (ht : PuA X es t) : PuA X (e :: es) (pCons te t) := PA.weak (pa_consN hn he ht) fun σ H Q hh_ => hh_.elim fun F ρ Qp er q k => ⟨F, ρ, _, er, q, fun p v F1 H1 h1 g1 r1 =>
  ⟨F1, ρ, _, er.grow g1, h1, fun ps vs F2 H2 h2 g2 r2 => k _ _ F2 H2 h2 (g1.trans g2) ⟨v, vs, rfl, r1.mono g2.ff, r2⟩⟩⟩
theorem puat_nil : PuAT X [] pNil := PA.weak pa_nil fun σ H Q hh_ => hh_.elim fun F ρ Qp er q k => k _ _ F H q (.refl er.fz) .nil
theorem puat_cons (hn : NS e) (he : PuT X e te) (ht : PuAT X es t) : PuAT X (e :: es) (pCons te t) := PA.weak (pa_consN hn he ht) fun σ H Q hh_ => hh_.elim fun F ρ Qp er q k => ⟨F, ρ, _, er, q, fun p v F1 H1 h1 g1 r1 =>
  ⟨F1, ρ, _, er.grow g1, h1, fun ps vs F2 H2 h2 g2 r2 => k _ _ F2 H2 h2 (g1.trans g2) (.cons (r1.grow g2) r2)⟩⟩
noncomputable def pTup (t : PTA) : PTE := fun ρ Q => t ρ fun ps => ps.length ≤ sizeLine ∧ Q (.tup ps)
noncomputable def pLst (t : PTA) : PTN := fun ρ Q => t ρ fun ps => ps.length ≤ sizeLine ∧ Q ps
theorem pu_tup {x1} (h : PuA X es t) : PuE X (.Tuple es x1 pos) (pTup t) := PE.weak (pe_tup h) fun σ H Q hh_ => hh_.elim fun F ρ Qp er q k => ⟨F, ρ, _, er, q, fun ps vs F1 H1 h1 g1 r1 => ⟨by rw [r1.length]; exact h1.1, fun p hp =>
  k (.tup ps) (.ref p) _ _ h1.2 (g1.trans (.new g1.fh hp _)) ⟨p, vs, rfl, upd_same, r1.mono (same_new (g1.fh.free hp) _)⟩⟩⟩
theorem pu_lst (h : PuA X es t) : PuN X (.List es pos) (pLst t) := PE.weak (pe_lst h) fun σ H Q hh_ => hh_.elim fun F ρ Qp er q k => ⟨F, ρ, _, er, q, fun ps vs F1 H1 h1 g1 r1 => ⟨by rw [r1.length]; exact h1.1, fun p hp =>
  k ps p vs F1 _ h1.2 (g1.trans (.newO g1.fh hp _)) (g1.hh.free hp) (g1.fh.free hp) upd_same r1⟩⟩
noncomputable def items : PV → Option (List PV)
  | .tup ps => some ps
  | .lst ps => some ps
  | .src ps => some ps
  | .ktu ps => some ps
  | _ => none
noncomputable def OkS (p : PV) (Q : List PV → Prop) : Prop := match items p with
  | some ps => Q ps
  | none => False
noncomputable def OkO {α : Type} (o : Option α) (Q : α → Prop) : Prop := match o with
  | some x => Q x
  | none => False
theorem OkO.ex {α : Type} {o : Option α} {Q : α → Prop} (h : OkO o Q) : ∃ x, o = some x ∧ Q x := by
  cases o with
  | none => exact h.elim
  | some x => exact ⟨x, rfl, h⟩
theorem OkS.rd {K : PySem.W.Frag} {F H : Hp} {p : PV} {v : V} {Q : List PV → Prop} (h : OkS p Q) (s : Same F H) (r : RdV K F H p v) : ∃ a vs ps, v = .ref a ∧ (SqL K H a vs ∨ SqT K H a vs) ∧ items p = some ps ∧ Reps K F ps vs ∧ Q ps := by
  unfold OkS at h
  cases r with
  | frz r =>
    cases p <;> first | exact h.elim | skip
    · obtain ⟨a, vs, rfl, e, r⟩ := r; exact ⟨a, vs, _, rfl, .inr (SqT.of (s _ _ e)), rfl, r, h⟩
    · obtain ⟨a, vs, rfl, e, r⟩ := r; exact ⟨a, vs, _, rfl, .inl (SqL.of (s _ _ e)), rfl, r, h⟩
    · obtain ⟨a, vs, rfl, e, r⟩ := r; exact ⟨a, vs, _, rfl, .inl (s.seq e), rfl, r, h⟩
    · obtain ⟨a, vs, rfl, e, r⟩ := r; exact ⟨a, vs, _, rfl, .inr (SqTm s e), rfl, r, h⟩
  | own h1 h2 h3 => exact ⟨_, _, _, rfl, .inl (SqL.of h1), rfl, h3, h⟩
  | dic => exact h.elim
theorem Reps.atI {K : PySem.W.Frag} {F : Hp} {ps : List PV} {vs : List V} {i : Int} {p : PV} (h : Reps K F ps vs) (e : L2.atI ps i = some p) : ∃ v, L2.atI vs i = some v ∧ Rep K F p v := by
  unfold L2.atI at e ⊢
  rw [h.length]
  cases q : ixN ps.length i with
  | none => rw [q] at e; cases e
  | some j => rw [q] at e; exact h.get e
noncomputable def gIx : PG2 := fun x y Q => OkI y fun i => match x with
  | .str z => z.length ≤ sizeLine ∧ OkO (L2.atI z.cps.toList i) fun c => Q (.str ⟨#[c]⟩)
  | p => OkS p fun ps => OkO (L2.atI ps i) Q
theorem rf_ix : Ref2 X.K (rIx X.K) gIx := fun F H x y p q Qp Q s rx ry h k => by
  obtain ⟨i, rfl, rfl, h⟩ := OkI.rd h ry
  by_cases hz : ∃ z, p = .str z
  · obtain ⟨z, rfl⟩ := hz
    obtain ⟨h1, h2⟩ := h
    obtain ⟨c, e, h2⟩ := h2.ex
    cases rx with
    | frz r => exact .inr (.inr ⟨z, i, c, r, rfl, h1, e, k _ _ F H h2 (.refl s) rfl⟩)
  · have h' : OkS p fun ps => OkO (L2.atI ps i) Qp := by
      cases p <;> first | exact h | exact absurd ⟨_, rfl⟩ hz
    obtain ⟨a, vs, ps, rfl, hs, _, r, h⟩ := h'.rd s rx
    obtain ⟨z, e, h⟩ := h.ex
    obtain ⟨v, e', r'⟩ := r.atI e
    rcases hs with hs | hs
    · exact .inl ⟨a, vs, i, v, rfl, rfl, hs, e', k z v F H h (.refl s) r'⟩
    · exact .inr (.inl ⟨a, vs, i, v, rfl, rfl, hs, e', k z v F H h (.refl s) r'⟩)
theorem pu_ix (ha : PuT X a ta) (hb : PuT X b tb) (hs : PlainIx b) : PuE X (.Subscript a b pos) (pOp gIx ta tb) := PE.weak (pe_ix ix_seq ha hb hs) (op_lift rf_ix)
noncomputable abbrev PTO := PSt → (Option Int → Prop) → Prop
noncomputable def lO (K : PySem.W.Frag) (te : PTO) : TO := fun σ H Q => ∃ F ρ, ∃ Qp : Option Int → Prop, ER K F H σ ρ ∧ te ρ Qp ∧ ∀ b F' H', Qp b → Grow F H F' H' → Q b H'
theorem lO.elim {K : PySem.W.Frag} {te : PTO} {σ : St} {H : Hp} {Q : Option Int → Hp → Prop} {C : Prop} (h : lO K te σ H Q) (k : ∀ F ρ (Qp : Option Int → Prop), ER K F H σ ρ → te ρ Qp → (∀ b F' H', Qp b → Grow F H F' H' → Q b H') → C) : C := by obtain ⟨F, ρ, Qp, a, b, c⟩ := h; exact k F ρ Qp a b c
noncomputable def PuO (X : Cx) (e : Option Expr) (te : PTO) : Prop := PO X e (lO X.K te)
theorem PO.weak {X : Cx} {e : Option Expr} {t t' : TO} (h : PO X e t) (w : ∀ σ H Q, t' σ H Q → t σ H Q) : PO X e t' := fun pins s σ H Q I q => h pins s σ H _ I (w σ H _ q)
noncomputable def pNoPart : PTO := fun _ Q => Q none
noncomputable def pPart (te : PTE) : PTO := fun ρ Q => te ρ fun x => OkI x fun i => Q (some i)
theorem puo_none : PuO X none pNoPart := PO.weak po_none fun σ H Q hh_ => hh_.elim fun F ρ Qp er q k => k _ F H q (.refl er.fz)
theorem puo_some (h : PuE X e te) : PuO X (some e) (pPart te) := PO.weak (po_some h) fun σ H Q hh_ => hh_.elim fun F ρ Qp er q k => ⟨F, ρ, _, er, q, fun p v F1 H1 h1 g1 r1 => by
  obtain ⟨i, rfl, rfl, h⟩ := h1.rd (H := H1) (.frz r1)
  exact ⟨i, rfl, k _ F1 H1 h g1⟩⟩
noncomputable def cut {α : Type} (xs : List α) (lo hi : Option Int) : List α := (xs.drop (HT.sIx xs.length 0 lo)).take (HT.sIx xs.length xs.length hi - HT.sIx xs.length 0 lo)
theorem Reps.cut {K : PySem.W.Frag} {F : Hp} {ps : List PV} {vs : List V} {lo hi : Option Int} (h : Reps K F ps vs) : Reps K F (cut ps lo hi) (cutV vs lo hi) := by
  unfold Pu.cut cutV
  rw [h.length]
  exact (h.drop _).take _
noncomputable def OkL : PV → (List PV → Prop) → Prop
  | .lst ps, Q => Q ps
  | .src ps, Q => Q ps
  | _, _ => False
theorem OkL.rd {K : PySem.W.Frag} {F H : Hp} {p : PV} {v : V} {Q : List PV → Prop} (h : OkL p Q) (s : Same F H) (r : RdV K F H p v) : ∃ a vs ps, v = .ref a ∧ SqL K H a vs ∧ Reps K F ps vs ∧ Q ps := by
  cases r with
  | frz r =>
    cases p <;> first | exact h.elim | skip
    · obtain ⟨a, vs, rfl, e, r⟩ := r; exact ⟨a, vs, _, rfl, SqL.of (s _ _ e), r, h⟩
    · obtain ⟨a, vs, rfl, e, r⟩ := r; exact ⟨a, vs, _, rfl, s.seq e, r, h⟩
  | own h1 h2 h3 => exact ⟨_, _, _, rfl, SqL.of h1, h3, h⟩
  | dic => exact h.elim
noncomputable def OkT : PV → (List PV → Prop) → Prop
  | .tup ps, Q => Q ps
  | _, _ => False
theorem OkT.rd {K : PySem.W.Frag} {F H : Hp} {p : PV} {v : V} {Q : List PV → Prop} (h : OkT p Q) (r : RdV K F H p v) : ∃ a vs ps, p = .tup ps ∧ v = .ref a ∧ F a = some (.tup vs) ∧ Reps K F ps vs ∧ Q ps := by
  cases p <;> first | exact h.elim | skip
  cases r with
  | frz r => obtain ⟨a, vs, rfl, e, r⟩ := r; exact ⟨a, vs, _, rfl, rfl, e, r, h⟩
noncomputable def pSlL (te : PTE) (tl th : PTO) : PTN := fun ρ Q => te ρ fun x => tl ρ fun l => th ρ fun h => OkL x fun ps => Q (cut ps l h)
theorem pu_slL {lo hi : Option Expr} {tl th : PTO} {p2 : Pos} (he : PuT X e te) (hl : PuO X lo tl) (hh : PuO X hi th) : PuN X (.Subscript e (.Slice lo hi none p2) pos) (pSlL te tl th) := PE.weak (pe_slice sl_list he hl hh) fun σ H Q hh_ => hh_.elim fun F ρ Qp er q k => ⟨F, ρ, _, er, q, fun p v F1 H1 h1 g1 r1 =>
  ⟨F1, ρ, _, er.grow g1, h1, fun l F2 H2 h2 g2 => ⟨F2, ρ, _, (er.grow g1).grow g2, h2, fun h F3 H3 h3 g3 => by
    have gg := (g1.trans g2).trans g3
    obtain ⟨a, vs, ps, rfl, hs, r, q⟩ := h3.rd gg.fh (r1.grow (g2.trans g3))
    refine ⟨a, vs, rfl, hs, fun p hp => k _ p _ F3 _ q (gg.trans (.newO gg.fh hp _)) (gg.hh.free hp) (gg.fh.free hp) upd_same r.cut⟩⟩⟩⟩
end
end Pu
end
section
namespace Pu
open PySem PySem.Spec L2 PySem.SeqAt
mutual
noncomputable def plain : PV → Bool
  | .non => true
  | .bl _ => true
  | .int _ => true
  | .str _ => true
  | .tup ps => plains ps
  | .lst ps => plains ps
  | _ => false
noncomputable def plains : List PV → Bool
  | [] => true
  | p :: ps => plain p && plains ps
end
mutual
noncomputable def dep : PV → Nat
  | .tup ps => deps ps + 1
  | .lst ps => deps ps + 1
  | _ => 0
noncomputable def deps : List PV → Nat
  | [] => 0
  | p :: ps => max (dep p) (deps ps)
end
mutual
noncomputable def peq : PV → PV → Bool
  | .tup ps, q => match q with
    | .tup qs => peqs ps qs
    | _ => false
  | .lst ps, q => match q with
    | .lst qs => peqs ps qs
    | _ => false
  | p, q => isFlat q && eqV (flat p) (flat q)
noncomputable def peqs : List PV → List PV → Bool
  | [], qs => match qs with
    | [] => true
    | _ :: _ => false
  | p :: ps, qs => match qs with
    | [] => false
    | q :: qs => peq p q && peqs ps qs
end
theorem peqs_range : ∀ (ps qs : List PV), ((List.range (min ps.length qs.length)).all (fun j => peq (ps.getD j .non) (qs.getD j .non)) && ps.length == qs.length) = peqs ps qs
  | [], [] => by simp [peqs]
  | [], _ :: _ => by simp [peqs]
  | _ :: _, [] => by simp [peqs]
  | p :: ps, q :: qs => by
    have ih := peqs_range ps qs
    rw [peqs, ← ih]
    rw [show min (p :: ps).length (q :: qs).length = min ps.length qs.length + 1 by simp only [List.length_cons]; omega, List.range_succ_eq_map, List.all_cons, List.all_map]
    simp [Bool.and_assoc, Function.comp_def]
theorem peqs_range' {ps qs : List PV} (h : ps.length = qs.length) : (List.range ps.length).all (fun j => peq (ps.getD j .non) (qs.getD j .non)) = peqs ps qs := by
  rw [← peqs_range, ← h, Nat.min_self]; simp
theorem peqs_len {ps qs : List PV} (h : ps.length ≠ qs.length) : peqs ps qs = false := by
  rw [← peqs_range, (show (ps.length == qs.length) = false by simpa using h), Bool.and_false]
mutual
noncomputable def Dv (s : Shared) : PV → Value → Prop
  | .tup ps, u => ∃ a its, u = .ref a ∧ s.heap.IsTuple a its.toArray ∧ Dvs s ps its
  | .lst ps, u => ∃ a its, u = .ref a ∧ s.heap.IsList a its.toArray ∧ Dvs s ps its
  | p, u => RelV (flat p) u
noncomputable def Dvs (s : Shared) : List PV → List Value → Prop
  | [], us => us = []
  | p :: ps, us => ∃ u r, us = u :: r ∧ Dv s p u ∧ Dvs s ps r
end
theorem Dvs.length {s : Shared} : ∀ {ps : List PV} {us : List Value}, Dvs s ps us → us.length = ps.length
  | [], _, h => by rw [show _ = [] from h]; rfl
  | _ :: _, _, ⟨u, r, e, _, t⟩ => by rw [e, List.length_cons, List.length_cons, t.length]
section
variable {X : Cx} {pins : List (Addr × Obj)} {σ : L2.St} {F H : Hp} {s : Shared}
mutual
theorem dv_of (I : L2.Inv X pins σ H s) (sf : Same F H) : ∀ {p : PV} {v : V} {u : Value}, plain p = true → Rep X.K F p v → RelV v u → Dv s p u
  | .non, _, _, _, h, r => by rw [show _ = _ from h] at r; exact r
  | .bl _, _, _, _, h, r => by rw [show _ = _ from h] at r; exact r
  | .int _, _, _, _, h, r => by rw [show _ = _ from h] at r; exact r
  | .str _, _, _, _, h, r => by rw [show _ = _ from h] at r; exact r
  | .tup ps, _, _, hp, ⟨a, vs, e, hF, rs⟩, r => by
    subst e
    obtain ⟨its, rv, pl, hz⟩ := I.tuple (SqT.of (sf _ _ hF))
    exact ⟨a, its, r, pl, dvs_of I sf hp rs rv⟩
  | .lst ps, _, _, hp, ⟨a, vs, e, hF, rs⟩, r => by
    subst e
    obtain ⟨its, rv, pl, hz⟩ := I.list (SqL.of (sf _ _ hF))
    exact ⟨a, its, r, pl.isList, dvs_of I sf hp rs rv⟩
  | .ty _, _, _, hp, _, _ => absurd hp Bool.false_ne_true
  | .fn _, _, _, hp, _, _ => absurd hp Bool.false_ne_true
  | .dct _ _, _, _, hp, _, _ => absurd hp Bool.false_ne_true
  | .src _, _, _, hp, _, _ => absurd hp Bool.false_ne_true
  | .ktu _, _, _, hp, _, _ => absurd hp Bool.false_ne_true
  | .rng _ _, _, _, hp, _, _ => absurd hp Bool.false_ne_true
theorem dvs_of (I : L2.Inv X pins σ H s) (sf : Same F H) : ∀ {ps : List PV} {vs : List V} {us : List Value}, plains ps = true → Reps X.K F ps vs → Vals vs us → Dvs s ps us
  | [], _, _, _, h, r => by rw [show _ = [] from h] at r; cases r; rfl
  | p :: ps, _, _, hp, ⟨v, t, e, h1, h2⟩, r => by
    subst e
    cases r with
    | cons r1 r2 =>
      rw [plains, Bool.and_eq_true] at hp
      exact ⟨_, _, rfl, dv_of I sf hp.1 h1 r1, dvs_of I sf hp.2 h2 r2⟩
end
theorem dv_rd (I : L2.Inv X pins σ H s) (sf : Same F H) {p : PV} {v : V} {u : Value} (hp : plain p = true) (h : RdV X.K F H p v) (r : RelV v u) : Dv s p u := by
  cases h with
  | frz h => exact dv_of I sf hp h r
  | own h1 h2 h3 =>
    obtain ⟨its, rv, pl, hz⟩ := I.list (SqL.of h1)
    exact ⟨_, its, r, pl.isList, dvs_of I sf hp h3 rv⟩
  | dic => exact absurd hp Bool.false_ne_true
end
theorem flatV_of {p : PV} (h1 : isFlat p = true) (h2 : plain p = true) : flatV (flat p) = true := by
  cases p <;> first | rfl | exact absurd h1 Bool.false_ne_true | exact absurd h2 Bool.false_ne_true
theorem rc_flat {A : Around} {s : Shared} {y x : V} {u v : Value} (ry : RelV y u) (rx : RelV x v) (fy : flatV y = true) (fx : flatV x = true) : RcAt A s u v (eqV y x) := by
  cases y with
  | non =>
    cases ry
    cases x with
    | non => cases rx; exact RcAt.none_none
    | bl b => cases rx; exact RcAt.none_bool b
    | int b => obtain ⟨t, rfl⟩ := rx; exact RcAt.none_int b t
    | str b => obtain ⟨t, rfl⟩ := rx; exact RcAt.none_str b t
    | _ => exact absurd (show false = true from fx) Bool.false_ne_true
  | bl a =>
    cases ry
    cases x with
    | non => cases rx; exact RcAt.bool_none a
    | bl b => cases rx; exact RcAt.bool_bool a b
    | int b => obtain ⟨t, rfl⟩ := rx; exact RcAt.bool_int a b t
    | str b => obtain ⟨t, rfl⟩ := rx; exact RcAt.bool_str a b t
    | _ => exact absurd (show false = true from fx) Bool.false_ne_true
  | int a =>
    obtain ⟨t', rfl⟩ := ry
    cases x with
    | non => cases rx; exact RcAt.int_none a t'
    | bl b => cases rx; exact RcAt.int_bool a t' b
    | int b => obtain ⟨t, rfl⟩ := rx; exact RcAt.int_int a t' b t
    | str b => obtain ⟨t, rfl⟩ := rx; exact RcAt.int_str a t' b t
    | _ => exact absurd (show false = true from fx) Bool.false_ne_true
  | str a =>
    obtain ⟨t', rfl⟩ := ry
    cases x with
    | non => cases rx; exact RcAt.str_none a t'
    | bl b => cases rx; exact RcAt.str_bool a t' b
    | int b => obtain ⟨t, rfl⟩ := rx; exact RcAt.str_int a t' b t
    | str b => obtain ⟨t, rfl⟩ := rx; exact RcAt.str_str a t' b t
    | _ => exact absurd (show false = true from fx) Bool.false_ne_true
  | _ => exact absurd (show false = true from fy) Bool.false_ne_true
theorem rn_flat {A : Around} {s : Shared} {y x : V} {u v : Value} (ry : RelV y u) (rx : RelV x v) (fy : flatV y = true) (fx : flatV x = true) : RcNeAt A s u v (!eqV y x) := by
  cases y with
  | non =>
    cases ry
    cases x with
    | non => cases rx; exact RcNeAt.none_none
    | bl b => cases rx; exact RcNeAt.none_bool b
    | int b => obtain ⟨t, rfl⟩ := rx; exact RcNeAt.none_int b t
    | str b => obtain ⟨t, rfl⟩ := rx; exact RcNeAt.none_str b t
    | _ => exact absurd (show false = true from fx) Bool.false_ne_true
  | bl a =>
    cases ry
    cases x with
    | non => cases rx; exact RcNeAt.bool_none a
    | bl b => cases rx; exact RcNeAt.bool_bool a b
    | int b => obtain ⟨t, rfl⟩ := rx; exact RcNeAt.bool_int a b t
    | str b => obtain ⟨t, rfl⟩ := rx; exact RcNeAt.bool_str a b t
    | _ => exact absurd (show false = true from fx) Bool.false_ne_true
  | int a =>
    obtain ⟨t', rfl⟩ := ry
    cases x with
    | non => cases rx; exact RcNeAt.int_none a t'
    | bl b => cases rx; exact RcNeAt.int_bool a t' b
    | int b => obtain ⟨t, rfl⟩ := rx; exact RcNeAt.int_int a t' b t
    | str b => obtain ⟨t, rfl⟩ := rx; exact RcNeAt.int_str a t' b t
    | _ => exact absurd (show false = true from fx) Bool.false_ne_true
  | str a =>
    obtain ⟨t', rfl⟩ := ry
    cases x with
    | non => cases rx; exact RcNeAt.str_none a t'
    | bl b => cases rx; exact RcNeAt.str_bool a t' b
    | int b => obtain ⟨t, rfl⟩ := rx; exact RcNeAt.str_int a t' b t
    | str b => obtain ⟨t, rfl⟩ := rx; exact RcNeAt.str_str a t' b t
    | _ => exact absurd (show false = true from fx) Bool.false_ne_true
  | _ => exact absurd (show false = true from fy) Bool.false_ne_true
theorem peq_flat {p q : PV} (hp : isFlat p = true) : peq p q = (isFlat q && eqV (flat p) (flat q)) := by
  cases p <;> first | rfl | exact absurd hp Bool.false_ne_true
mutual
theorem peq_self : ∀ {p : PV}, plain p = true → peq p p = true
  | .non, _ => rfl
  | .bl b, _ => by simp [peq, isFlat, flat, eqV]
  | .int b, _ => by simp [peq, isFlat, flat, eqV]
  | .str b, _ => by simp [peq, isFlat, flat, eqV]
  | .tup ps, h => peqs_self (ps := ps) h
  | .lst ps, h => peqs_self (ps := ps) h
  | .ty _, h => absurd h Bool.false_ne_true
  | .fn _, h => absurd h Bool.false_ne_true
  | .dct _ _, h => absurd h Bool.false_ne_true
  | .src _, h => absurd h Bool.false_ne_true
  | .ktu _, h => absurd h Bool.false_ne_true
  | .rng _ _, h => absurd h Bool.false_ne_true
theorem peqs_self : ∀ {ps : List PV}, plains ps = true → peqs ps ps = true
  | [], _ => rfl
  | p :: ps, h => by
    rw [plains, Bool.and_eq_true] at h
    rw [peqs, peq_self h.1, peqs_self h.2]; rfl
end
theorem tup_inj {h : Heap} {a : Addr} {x y : List Value} (h1 : h.IsTuple a x.toArray) (h2 : h.IsTuple a y.toArray) : x = y := by
  obtain ⟨o, e, _, n, d⟩ := h1
  obtain ⟨o', e', _, n', d'⟩ := h2
  rw [e] at e'; cases e'
  rw [d] at d'
  injection d' with d1 _
  simpa using congrArg Array.toList d1
theorem lst_inj {h : Heap} {a : Addr} {x y : List Value} (h1 : h.IsList a x.toArray) (h2 : h.IsList a y.toArray) : x = y := by
  obtain ⟨o, e, _, n, d⟩ := h1
  obtain ⟨o', e', _, n', d'⟩ := h2
  rw [e] at e'; cases e'
  rw [d] at d'
  injection d' with d1 _
  simpa using congrArg Array.toList d1
mutual
theorem Dv.inj {s : Shared} : ∀ {p q : PV} {u : Value}, plain p = true → plain q = true → Dv s p u → Dv s q u → p = q
  | .tup ps, q, _, hp, hq, ⟨a, its, e, h1, h2⟩, d => by
    subst e
    cases q with
    | tup qs =>
      obtain ⟨a', its', e', h1', h2'⟩ := d
      cases e'
      have := tup_inj h1 h1'
      subst this
      rw [Dvs.inj hp hq h2 h2']
    | lst qs =>
      obtain ⟨a', its', e', h1', h2'⟩ := d
      cases e'
      exact absurd rfl (ne_of_list_tuple h1' h1)
    | non => cases (show Value.ref a = _ from d)
    | bl b => cases (show Value.ref a = _ from d)
    | int b => obtain ⟨t, e⟩ := d; cases e
    | str b => obtain ⟨t, e⟩ := d; cases e
    | _ => exact absurd hq Bool.false_ne_true
  | .lst ps, q, _, hp, hq, ⟨a, its, e, h1, h2⟩, d => by
    subst e
    cases q with
    | lst qs =>
      obtain ⟨a', its', e', h1', h2'⟩ := d
      cases e'
      have := lst_inj h1 h1'
      subst this
      rw [Dvs.inj hp hq h2 h2']
    | tup qs =>
      obtain ⟨a', its', e', h1', h2'⟩ := d
      cases e'
      exact absurd rfl (ne_of_list_tuple h1 h1')
    | non => cases (show Value.ref a = _ from d)
    | bl b => cases (show Value.ref a = _ from d)
    | int b => obtain ⟨t, e⟩ := d; cases e
    | str b => obtain ⟨t, e⟩ := d; cases e
    | _ => exact absurd hq Bool.false_ne_true
  | .non, q, _, hp, hq, d, d' => by
    cases (show _ = Value.none from d)
    cases q with
    | non => rfl
    | bl b => cases (show Value.none = _ from d')
    | int b => obtain ⟨t, e⟩ := d'; cases e
    | str b => obtain ⟨t, e⟩ := d'; cases e
    | tup qs => obtain ⟨a, its, e, _⟩ := d'; cases e
    | lst qs => obtain ⟨a, its, e, _⟩ := d'; cases e
    | _ => exact absurd hq Bool.false_ne_true
  | .bl x, q, _, hp, hq, d, d' => by
    cases (show _ = Value.bool x from d)
    cases q with
    | non => cases (show Value.bool x = _ from d')
    | bl b => cases (show Value.bool x = Value.bool b from d'); rfl
    | int b => obtain ⟨t, e⟩ := d'; cases e
    | str b => obtain ⟨t, e⟩ := d'; cases e
    | tup qs => obtain ⟨a, its, e, _⟩ := d'; cases e
    | lst qs => obtain ⟨a, its, e, _⟩ := d'; cases e
    | _ => exact absurd hq Bool.false_ne_true
  | .int x, q, _, hp, hq, ⟨t, d⟩, d' => by
    subst d
    cases q with
    | non => cases (show Value.int x t = _ from d')
    | bl b => cases (show Value.int x t = Value.bool b from d')
    | int b => obtain ⟨t, e⟩ := d'; cases e; rfl
    | str b => obtain ⟨t, e⟩ := d'; cases e
    | tup qs => obtain ⟨a, its, e, _⟩ := d'; cases e
    | lst qs => obtain ⟨a, its, e, _⟩ := d'; cases e
    | _ => exact absurd hq Bool.false_ne_true
  | .str x, q, _, hp, hq, ⟨t, d⟩, d' => by
    subst d
    cases q with
    | non => cases (show Value.str x t = _ from d')
    | bl b => cases (show Value.str x t = Value.bool b from d')
    | int b => obtain ⟨t, e⟩ := d'; cases e
    | str b => obtain ⟨t, e⟩ := d'; cases e; rfl
    | tup qs => obtain ⟨a, its, e, _⟩ := d'; cases e
    | lst qs => obtain ⟨a, its, e, _⟩ := d'; cases e
    | _ => exact absurd hq Bool.false_ne_true
  | .ty _, _, _, h, _, _, _ => absurd h Bool.false_ne_true
  | .fn _, _, _, h, _, _, _ => absurd h Bool.false_ne_true
  | .dct _ _, _, _, h, _, _, _ => absurd h Bool.false_ne_true
  | .src _, _, _, h, _, _, _ => absurd h Bool.false_ne_true
  | .ktu _, _, _, h, _, _, _ => absurd h Bool.false_ne_true
  | .rng _ _, _, _, h, _, _, _ => absurd h Bool.false_ne_true
theorem Dvs.inj {s : Shared} : ∀ {ps qs : List PV} {us : List Value}, plains ps = true → plains qs = true → Dvs s ps us → Dvs s qs us → ps = qs
  | [], qs, _, _, _, h, h' => by
    cases (show _ = [] from h)
    cases qs with
    | nil => rfl
    | cons q qs => obtain ⟨u, r, e, _⟩ := h'; cases e
  | p :: ps, qs, _, hp, hq, ⟨u, r, e, d1, d2⟩, h' => by
    subst e
    cases qs with
    | nil => cases (show _ = [] from h')
    | cons q qs =>
      obtain ⟨u', r', e', d1', d2'⟩ := h'
      cases e'
      rw [plains, Bool.and_eq_true] at hp hq
      rw [Dv.inj hp.1 hq.1 d1 d1', Dvs.inj hp.2 hq.2 d2 d2']
end
theorem Dv.flat' {s : Shared} {p : PV} {u : Value} (hf : isFlat p = true) (h : Dv s p u) : RelV (flat p) u := by
  cases p <;> first | exact h | exact absurd hf Bool.false_ne_true
theorem rc_PF {s : Shared} {p q : PV} {A : Around} {u v : Value} (hf : isFlat p = true) (hp : plain p = true) (hq : plain q = true) (hd : A.units < cLine) (d : Dv s p u) (d' : Dv s q v) : RcAt A s u v (peq p q) := by
  rw [peq_flat hf]
  cases hfq : isFlat q with
  | true =>
    rw [Bool.true_and]
    exact rc_flat (d.flat' hf) (d'.flat' hfq) (flatV_of hf hp) (flatV_of hfq hq)
  | false =>
    rw [Bool.false_and]
    have dp := d.flat' hf
    cases q with
    | tup qs =>
      obtain ⟨b, its2, e', h1', h2'⟩ := d'
      subst e'
      cases p with
      | non => cases dp; exact RcAt.none_tuple h1' hd
      | bl x => cases dp; exact RcAt.bool_tuple x h1' hd
      | int x => obtain ⟨t, rfl⟩ := dp; exact RcAt.int_tuple x t h1' hd
      | str x => obtain ⟨t, rfl⟩ := dp; exact RcAt.str_tuple x t h1' hd
      | _ => first | exact absurd hf Bool.false_ne_true | exact absurd hp Bool.false_ne_true
    | lst qs =>
      obtain ⟨b, its2, e', h1', h2'⟩ := d'
      subst e'
      cases p with
      | non => cases dp; exact RcAt.none_list h1' hd
      | bl x => cases dp; exact RcAt.bool_list x h1' hd
      | int x => obtain ⟨t, rfl⟩ := dp; exact RcAt.int_list x t h1' hd
      | str x => obtain ⟨t, rfl⟩ := dp; exact RcAt.str_list x t h1' hd
      | _ => first | exact absurd hf Bool.false_ne_true | exact absurd hp Bool.false_ne_true
    | _ => first | exact absurd hfq.symm Bool.false_ne_true | exact absurd hq Bool.false_ne_true
theorem eq_of_rc {s : Shared} {p q : PV} {A : Around} {u v : Value} (hp : plain p = true) (hq : plain q = true) (d : Dv s p u) (d' : Dv s q v) (hd : A.units < cLine) (rc : RcAt A s u v (peq p q)) : EqAt A s u v (peq p q) := by
  by_cases h : u = v
  · subst h
    obtain rfl := Dv.inj hp hq d d'
    rw [peq_self hp]
    exact EqAt.same _
  · intro prog w E Q hQ
    unfold eqBool
    refine wpAny_holding ?_
    refine wpAny_ite_split (fun hab => absurd (eq_of_beq hab) h) (fun _ => ?_)
    have nf : ∀ b t, u ≠ Value.float b t := fun b t e => by
      subst e
      cases p with
      | tup ps => obtain ⟨_, _, e, _⟩ := d; cases e
      | lst ps => obtain ⟨_, _, e, _⟩ := d; cases e
      | non => cases (show _ = Value.none from d)
      | bl x => cases (show _ = Value.bool x from d)
      | int x => obtain ⟨_, e⟩ := d; cases e
      | str x => obtain ⟨_, e⟩ := d; cases e
      | _ => exact absurd hp Bool.false_ne_true
    cases u with
    | float b t => exact absurd rfl (nf b t)
    | _ => exact wpAny_bind (rc prog w E _ (wpAny_truthy_bool hQ))
mutual
theorem rc_P {s : Shared} : ∀ {p q : PV} {A : Around} {u v : Value}, plain p = true → plain q = true → A.units + dep p + 1 < cLine → Dv s p u → Dv s q v → RcAt A s u v (peq p q)
  | .tup ps, q, A, _, v, hp, hq, hd, ⟨a, its, e, h1, h2⟩, d => by
    subst e
    have l1 := h2.length
    cases q with
    | tup qs =>
      obtain ⟨b, its2, e', h1', h2'⟩ := d
      subst e'
      have l2 := h2'.length
      have := RcAt.tuples (A := A) (s := s) (e := fun j => peq (ps.getD j .non) (qs.getD j .non)) h1 h1' (by omega) (fun j k1 k2 => eqs_P (ps := ps) (qs := qs) hp hq (by rw [dep] at hd; show A.units + 1 + deps ps + 1 < cLine; omega) h2 h2' j (by simp at k1; omega) (by simp at k2; omega) (by simpa using k1) (by simpa using k2))
      rw [List.size_toArray, List.size_toArray, l1, l2, peqs_range] at this
      exact this
    | lst qs => obtain ⟨b, its2, e', h1', h2'⟩ := d; subst e'; exact RcAt.tuple_list h1 h1' (by omega)
    | non => cases (show _ = Value.none from d); exact RcAt.tuple_none h1 (by omega)
    | bl b => cases (show _ = Value.bool b from d); exact RcAt.tuple_bool b h1 (by omega)
    | int b => obtain ⟨t, rfl⟩ := d; exact RcAt.tuple_int b t h1 (by omega)
    | str b => obtain ⟨t, rfl⟩ := d; exact RcAt.tuple_str b t h1 (by omega)
    | _ => exact absurd hq Bool.false_ne_true
  | .lst ps, q, A, _, v, hp, hq, hd, ⟨a, its, e, h1, h2⟩, d => by
    subst e
    have l1 := h2.length
    cases q with
    | lst qs =>
      obtain ⟨b, its2, e', h1', h2'⟩ := d
      subst e'
      have l2 := h2'.length
      by_cases hl : ps.length = qs.length
      · have := RcAt.lists (A := A) (s := s) (e := fun j => peq (ps.getD j .non) (qs.getD j .non)) h1 h1' (by simp; omega) (by omega) (fun j k1 k2 => eqs_P (ps := ps) (qs := qs) hp hq (by rw [dep] at hd; show A.units + 1 + deps ps + 1 < cLine; omega) h2 h2' j (by simp at k1; omega) (by simp at k2; omega) (by simpa using k1) (by simpa using k2))
        rw [List.size_toArray, l1, peqs_range' hl] at this
        exact this
      · have := RcAt.lists_lengths (A := A) (s := s) h1 h1' (by simp; omega) (by omega)
        rw [← peqs_len hl] at this
        exact this
    | tup qs => obtain ⟨b, its2, e', h1', h2'⟩ := d; subst e'; exact RcAt.list_tuple h1 h1' (by omega)
    | non => cases (show _ = Value.none from d); exact RcAt.list_none h1 (by omega)
    | bl b => cases (show _ = Value.bool b from d); exact RcAt.list_bool b h1 (by omega)
    | int b => obtain ⟨t, rfl⟩ := d; exact RcAt.list_int b t h1 (by omega)
    | str b => obtain ⟨t, rfl⟩ := d; exact RcAt.list_str b t h1 (by omega)
    | _ => exact absurd hq Bool.false_ne_true
  | .non, q, A, u, v, hp, hq, hd, d, d' => rc_PF (p := .non) rfl hp hq (by omega) d d'
  | .bl x, q, A, u, v, hp, hq, hd, d, d' => rc_PF (p := .bl x) rfl hp hq (by omega) d d'
  | .int x, q, A, u, v, hp, hq, hd, d, d' => rc_PF (p := .int x) rfl hp hq (by omega) d d'
  | .str x, q, A, u, v, hp, hq, hd, d, d' => rc_PF (p := .str x) rfl hp hq (by omega) d d'
  | .ty _, _, _, _, _, h, _, _, _, _ => absurd h Bool.false_ne_true
  | .fn _, _, _, _, _, h, _, _, _, _ => absurd h Bool.false_ne_true
  | .dct _ _, _, _, _, _, h, _, _, _, _ => absurd h Bool.false_ne_true
  | .src _, _, _, _, _, h, _, _, _, _ => absurd h Bool.false_ne_true
  | .ktu _, _, _, _, _, h, _, _, _, _ => absurd h Bool.false_ne_true
  | .rng _ _, _, _, _, _, h, _, _, _, _ => absurd h Bool.false_ne_true
theorem eqs_P {s : Shared} : ∀ {ps qs : List PV} {A : Around} {us vs : List Value}, plains ps = true → plains qs = true → A.units + deps ps + 1 < cLine → Dvs s ps us → Dvs s qs vs →
    ∀ (j : Nat), j < ps.length → j < qs.length → (h1 : j < us.length) → (h2 : j < vs.length) → EqAt A s us[j] vs[j] (peq (ps.getD j .non) (qs.getD j .non))
  | [], _, _, _, _, _, _, _, _, _, _, h, _, _, _ => absurd h (Nat.not_lt_zero _)
  | p :: ps, qs, A, _, _, hp, hq, hd, ⟨u, r, e, d1, d2⟩, d', j, k1, k2, h1, h2 => by
    subst e
    cases qs with
    | nil => exact absurd k2 (Nat.not_lt_zero _)
    | cons q qs =>
      obtain ⟨v, r', e', d1', d2'⟩ := d'
      subst e'
      rw [plains, Bool.and_eq_true] at hp hq
      rw [deps] at hd
      cases j with
      | zero =>
        show EqAt A s u v (peq p q)
        have rc := rc_P (p := p) (q := q) (A := A) hp.1 hq.1 (by omega) d1 d1'
        exact eq_of_rc hp.1 hq.1 d1 d1' (by omega) rc
      | succ j =>
        simp only [List.length_cons] at k1 k2 h1 h2
        have := eqs_P (ps := ps) (qs := qs) (A := A) hp.2 hq.2 (by omega) d2 d2' j (by omega) (by omega) (by omega) (by omega)
        simpa using this
end
end Pu
end
section
namespace Pu
open PySem PySem.Spec L2 PySem.SeqAt
theorem rn_P {s : Shared} {p q : PV} {A : Around} {u v : Value} (hp : plain p = true) (hq : plain q = true) (hd : A.units + dep p + 1 < cLine) (d : Dv s p u) (d' : Dv s q v) : RcNeAt A s u v (!peq p q) := by
  have hu : A.units < cLine := by omega
  by_cases hf : isFlat p = true
  · rw [peq_flat hf]
    have dp := d.flat' hf
    cases hfq : isFlat q with
    | true => rw [Bool.true_and]; exact rn_flat dp (d'.flat' hfq) (flatV_of hf hp) (flatV_of hfq hq)
    | false =>
      rw [Bool.false_and]
      cases q with
      | tup qs =>
        obtain ⟨b, its2, e', h1', h2'⟩ := d'
        subst e'
        cases p with
        | non => cases dp; exact RcNeAt.none_tuple h1' hu
        | bl x => cases dp; exact RcNeAt.bool_tuple x h1' hu
        | int x => obtain ⟨t, rfl⟩ := dp; exact RcNeAt.int_tuple x t h1' hu
        | str x => obtain ⟨t, rfl⟩ := dp; exact RcNeAt.str_tuple x t h1' hu
        | _ => first | exact absurd hf Bool.false_ne_true | exact absurd hp Bool.false_ne_true
      | lst qs =>
        obtain ⟨b, its2, e', h1', h2'⟩ := d'
        subst e'
        cases p with
        | non => cases dp; exact RcNeAt.none_list h1' hu
        | bl x => cases dp; exact RcNeAt.bool_list x h1' hu
        | int x => obtain ⟨t, rfl⟩ := dp; exact RcNeAt.int_list x t h1' hu
        | str x => obtain ⟨t, rfl⟩ := dp; exact RcNeAt.str_list x t h1' hu
        | _ => first | exact absurd hf Bool.false_ne_true | exact absurd hp Bool.false_ne_true
      | _ => first | exact absurd hfq.symm Bool.false_ne_true | exact absurd hq Bool.false_ne_true
  · cases p with
    | tup ps =>
      obtain ⟨a, its, e, h1, h2⟩ := d
      subst e
      have l1 := h2.length
      cases q with
      | tup qs =>
        obtain ⟨b, its2, e', h1', h2'⟩ := d'
        subst e'
        have l2 := h2'.length
        have := RcNeAt.tuples (A := A) (s := s) (e := fun j => peq (ps.getD j .non) (qs.getD j .non)) h1 h1' (by omega) (fun j k1 k2 => eqs_P (ps := ps) (qs := qs) hp hq (by rw [dep] at hd; show A.units + 1 + deps ps + 1 < cLine; omega) h2 h2' j (by simp at k1; omega) (by simp at k2; omega) (by simpa using k1) (by simpa using k2))
        rw [List.size_toArray, List.size_toArray, l1, l2, peqs_range] at this
        exact this
      | lst qs => obtain ⟨b, its2, e', h1', h2'⟩ := d'; subst e'; exact RcNeAt.tuple_list h1 h1' hu
      | non => cases (show _ = Value.none from d'); exact RcNeAt.tuple_none h1 hu
      | bl b => cases (show _ = Value.bool b from d'); exact RcNeAt.tuple_bool b h1 hu
      | int b => obtain ⟨t, rfl⟩ := d'; exact RcNeAt.tuple_int b t h1 hu
      | str b => obtain ⟨t, rfl⟩ := d'; exact RcNeAt.tuple_str b t h1 hu
      | _ => exact absurd hq Bool.false_ne_true
    | lst ps =>
      obtain ⟨a, its, e, h1, h2⟩ := d
      subst e
      have l1 := h2.length
      cases q with
      | lst qs =>
        obtain ⟨b, its2, e', h1', h2'⟩ := d'
        subst e'
        have l2 := h2'.length
        by_cases hl : ps.length = qs.length
        · have := RcNeAt.lists (A := A) (s := s) (e := fun j => peq (ps.getD j .non) (qs.getD j .non)) h1 h1' (by simp; omega) (by omega) (fun j k1 k2 => eqs_P (ps := ps) (qs := qs) hp hq (by rw [dep] at hd; show A.units + 1 + deps ps + 1 < cLine; omega) h2 h2' j (by simp at k1; omega) (by simp at k2; omega) (by simpa using k1) (by simpa using k2))
          rw [List.size_toArray, l1, peqs_range' hl] at this
          exact this
        · have := RcNeAt.lists_lengths (A := A) (s := s) h1 h1' (by simp; omega) (by omega)
          rw [show true = !peqs ps qs by rw [peqs_len hl]; rfl] at this
          exact this
      | tup qs => obtain ⟨b, its2, e', h1', h2'⟩ := d'; subst e'; exact RcNeAt.list_tuple h1 h1' hu
      | non => cases (show _ = Value.none from d'); exact RcNeAt.list_none h1 hu
      | bl b => cases (show _ = Value.bool b from d'); exact RcNeAt.list_bool b h1 hu
      | int b => obtain ⟨t, rfl⟩ := d'; exact RcNeAt.list_int b t h1 hu
      | str b => obtain ⟨t, rfl⟩ := d'; exact RcNeAt.list_str b t h1 hu
      | _ => exact absurd hq Bool.false_ne_true
    | _ => first | exact absurd rfl hf | exact absurd hp Bool.false_ne_true
section
variable {X : Cx} {a b c e : Expr} {pos : Pos} {ta tb te : PTE}
noncomputable def rEqP (K : PySem.W.Frag) (f : Bool → Bool) : R2 := fun x y H Q => ∃ F p q, Same F H ∧ RdV K F H p x ∧ RdV K F H q y ∧ plain p = true ∧ plain q = true ∧ dep p ≤ 50 ∧ Q (.bl (f (peq p q))) H
theorem op_eqP (hu : X.A.units + 64 < cLine) : OpR X (compareOp .Eq) (rEqP X.K id) := by
  intro pins s σ H x y v u Q I rx ry ⟨F, p, q, sf, r1, r2, hp, hq, hd, k⟩
  exact rc_P (A := X.A) hp hq (by omega) (dv_rd I sf hp r1 rx) (dv_rd I sf hq r2 ry) _ _ _ _ ⟨.bl _, H, I, rfl, k⟩
theorem op_neP (hu : X.A.units + 64 < cLine) : OpR X (compareOp .NotEq) (rEqP X.K (!·)) := by
  intro pins s σ H x y v u Q I rx ry ⟨F, p, q, sf, r1, r2, hp, hq, hd, k⟩
  exact rn_P (A := X.A) hp hq (by omega) (dv_rd I sf hp r1 rx) (dv_rd I sf hq r2 ry) _ _ _ _ ⟨.bl _, H, I, rfl, k⟩
noncomputable def gEq : PG2 := fun x y Q => plain x = true ∧ plain y = true ∧ dep x ≤ 50 ∧ Q (.bl (peq x y))
noncomputable def gNe : PG2 := fun x y Q => plain x = true ∧ plain y = true ∧ dep x ≤ 50 ∧ Q (.bl (!peq x y))
theorem rf_eq : Ref2 X.K (rEqP X.K id) gEq := fun F H x y p q Qp Q s rx ry h k => ⟨F, p, q, s, rx, ry, h.1, h.2.1, h.2.2.1, k _ _ F H h.2.2.2 (.refl s) rfl⟩
theorem rf_ne : Ref2 X.K (rEqP X.K (!·)) gNe := fun F H x y p q Qp Q s rx ry h k => ⟨F, p, q, s, rx, ry, h.1, h.2.1, h.2.2.1, k _ _ F H h.2.2.2 (.refl s) rfl⟩
open Classical in
noncomputable def eAt (s : Shared) (q : PV) (u : Value) : Bool := if h : ∃ p, plain p = true ∧ Dv s p u then peq h.choose q else false
theorem eAt_of {s : Shared} {q p : PV} {u : Value} (hp : plain p = true) (d : Dv s p u) : eAt s q u = peq p q := by
  have h : ∃ p, plain p = true ∧ Dv s p u := ⟨p, hp, d⟩
  unfold eAt
  rw [dif_pos h, Dv.inj h.choose_spec.1 hp h.choose_spec.2 d]
theorem any_eAt {s : Shared} {q : PV} : ∀ {ps : List PV} {us : List Value}, plains ps = true → Dvs s ps us → us.any (eAt s q) = ps.any fun p => peq p q
  | [], _, _, h => by rw [show _ = [] from h]; rfl
  | p :: ps, _, hp, ⟨u, r, e, d1, d2⟩ => by
    subst e
    rw [plains, Bool.and_eq_true] at hp
    rw [List.any_cons, List.any_cons, eAt_of hp.1 d1, any_eAt hp.2 d2]
theorem mem_eAt {s : Shared} {A : Around} {q : PV} {v : Value} (hq : plain q = true) (dq : Dv s q v) : ∀ {ps : List PV} {us : List Value}, plains ps = true → A.units + deps ps + 1 < cLine → Dvs s ps us → ∀ u ∈ us, EqAt A s u v (eAt s q u)
  | [], _, _, _, h, u, hu => by rw [show _ = [] from h] at hu; cases hu
  | p :: ps, _, hp, hd, ⟨u', r, e, d1, d2⟩, u, hu => by
    subst e
    rw [plains, Bool.and_eq_true] at hp
    rw [deps] at hd
    rcases List.mem_cons.mp hu with rfl | hu
    · rw [eAt_of hp.1 d1]
      exact eq_of_rc hp.1 hq d1 dq (by omega) (rc_P hp.1 hq (by omega) d1 dq)
    · exact mem_eAt hq dq hp.2 (by omega) d2 u hu
noncomputable def pin (x : PV) (ps : List PV) : Bool := ps.any fun p => peq p x
noncomputable def rInP (K : PySem.W.Frag) (f : Bool → Bool) : R2 := fun x y H Q => ∃ F q a vs ps, y = .ref a ∧ Same F H ∧ RdV K F H q x ∧ (SqL K H a vs ∨ SqT K H a vs) ∧ Reps K F ps vs ∧ plain q = true ∧ plains ps = true ∧ deps ps ≤ 50 ∧ Q (.bl (f (pin q ps))) H
theorem op_inP (hu : X.A.units + 64 < cLine) : OpR X (compareOp .In) (rInP X.K id) := by
  intro pins s σ H x y v u Q I rx ry ⟨F, q, a, vs, ps, ey, sf, rq, hs, rs, hq, hp, hd, k⟩
  subst ey
  cases ry
  have dq := dv_rd I sf hq rq rx
  rcases hs with hs | hs
  · obtain ⟨its, rv, pl, hz⟩ := I.list hs
    have ds := dvs_of I sf hp rs rv
    refine in_listAt (eAt s q) pl.isList (fun y hy => mem_eAt hq dq hp (by show X.A.units + 1 + deps ps + 1 < cLine; omega) ds y (by simpa using hy)) ?_
    rw [List.any_toArray, any_eAt hp ds]
    exact ⟨.bl _, H, I, rfl, k⟩
  · obtain ⟨its, rv, pl, hz⟩ := I.tuple hs
    have ds := dvs_of I sf hp rs rv
    refine in_tupleAt (eAt s q) pl (fun y hy => mem_eAt hq dq hp (by show X.A.units + 1 + deps ps + 1 < cLine; omega) ds y (by simpa using hy)) ?_
    rw [List.any_toArray, any_eAt hp ds]
    exact ⟨.bl _, H, I, rfl, k⟩
noncomputable def gIn : PG2 := fun x y Q => OkS y fun ps => plain x = true ∧ plains ps = true ∧ deps ps ≤ 50 ∧ Q (.bl (pin x ps))
theorem rf_in : Ref2 X.K (rInP X.K id) gIn := fun F H x y p q Qp Q s rx ry h k => by
  obtain ⟨a, vs, ps, rfl, hs, _, rs, h⟩ := OkS.rd h s ry
  exact ⟨F, p, a, vs, ps, rfl, s, rx, hs, rs, h.1, h.2.1, h.2.2.1, k _ _ F H h.2.2.2 (.refl s) rfl⟩
end
end Pu
end
section
namespace Pu
open PySem PySem.Spec L2
section
variable {X : Cx} {a b c e : Expr} {pos : Pos} {ta tb te : PTE} {t : PTA}
noncomputable abbrev PGC := List PV → (PV → Prop) → Prop
noncomputable abbrev PGN := List PV → (List PV → Prop) → Prop
noncomputable def RefC (K : PySem.W.Frag) (r : List V → Hp → VK → Prop) (g : PGC) : Prop := ∀ F H xs ps (Qp : PV → Prop) (Q : VK), Same F H → RdVs K F H ps xs → g ps Qp → (∀ z v F' H', Qp z → Grow F H F' H' → Rep K F' z v → Q v H') → r xs H Q
noncomputable def RefN (K : PySem.W.Frag) (r : List V → Hp → VK → Prop) (g : PGN) : Prop := ∀ F H xs ps (Qp : List PV → Prop) (Q : VK), Same F H → RdVs K F H ps xs → g ps Qp → (∀ zs a vs F' H', Qp zs → Grow F H F' H' → H a = none → F' a = none → H' a = some (.lst vs) → Reps K F' zs vs → Q (.ref a) H') → r xs H Q
noncomputable def pCB (g : PGC) (t : PTA) : PTE := fun ρ Q => t ρ fun ps => g ps Q
noncomputable def pCN (g : PGN) (t : PTA) : PTN := fun ρ Q => t ρ fun ps => g ps Q
theorem pu_cb {r : List V → Hp → VK → Prop} {g : PGC} (hr : RefC X.K r g) (h : PE X e (tCB r (lAT X.K t))) : PuE X e (pCB g t) := PE.weak h fun σ H Q hh_ => hh_.elim fun F ρ Qp er q k => ⟨F, ρ, _, er, q, fun ps vs F1 H1 h1 g1 r1 =>
  hr F1 H1 vs ps Qp Q g1.fh r1 h1 fun z v F2 H2 h2 g2 r2 => k z v F2 H2 h2 (g1.trans g2) r2⟩
theorem pu_cn {r : List V → Hp → VK → Prop} {g : PGN} (hr : RefN X.K r g) (h : PE X e (tCB r (lAT X.K t))) : PuN X e (pCN g t) := PE.weak h fun σ H Q hh_ => hh_.elim fun F ρ Qp er q k => ⟨F, ρ, _, er, q, fun ps vs F1 H1 h1 g1 r1 =>
  hr F1 H1 vs ps Qp Q g1.fh r1 h1 fun zs a vs F2 H2 h2 g2 h0 hF hH r2 => k zs a vs F2 H2 h2 (g1.trans g2) (g1.hh.free h0) hF hH r2⟩
noncomputable def One (ps : List PV) (Q : PV → Prop) : Prop := match ps with
  | [p] => Q p
  | _ => False
noncomputable def Two (ps : List PV) (Q : PV → PV → Prop) : Prop := match ps with
  | [p, q] => Q p q
  | _ => False
theorem One.rd {K : PySem.W.Frag} {F H : Hp} {ps : List PV} {xs : List V} {Q : PV → Prop} (h : One ps Q) (r : RdVs K F H ps xs) : ∃ p v, ps = [p] ∧ xs = [v] ∧ RdV K F H p v ∧ Q p := by
  unfold One at h
  split at h
  · cases r with
    | cons r1 r2 => cases r2; exact ⟨_, _, rfl, rfl, r1, h⟩
  · exact h.elim
theorem Two.rd {K : PySem.W.Frag} {F H : Hp} {ps : List PV} {xs : List V} {Q : PV → PV → Prop} (h : Two ps Q) (r : RdVs K F H ps xs) : ∃ p v p2 v2, ps = [p, p2] ∧ xs = [v, v2] ∧ RdV K F H p v ∧ RdV K F H p2 v2 ∧ Q p p2 := by
  unfold Two at h
  split at h
  · cases r with
    | cons r1 r2 => cases r2 with
      | cons r2 r3 => cases r3; exact ⟨_, _, _, _, rfl, rfl, r1, r2, h⟩
  · exact h.elim
noncomputable def cLen : PGC := fun ps Q => One ps fun p => match p with
  | .str z => z.length ≤ sizeLine ∧ Q (.int z.length)
  | p => OkS p fun ps => Q (.int ps.length)
theorem rc_len : RefC X.K (fun xs H Q => ∃ x n, xs = [x] ∧ LenV X.K x H n ∧ Q (.int n) H) cLen := fun F H xs ps Qp Q s r h k => by
  obtain ⟨p, v, rfl, rfl, r, h⟩ := h.rd r
  by_cases hz : ∃ z, p = .str z
  · obtain ⟨z, rfl⟩ := hz
    cases r with
    | frz r => cases (show v = .str z from r); exact ⟨_, z.length, rfl, ⟨h.1, rfl⟩, k _ _ F H h.2 (.refl s) rfl⟩
  · have h' : OkS p fun ps => Qp (.int ps.length) := by
      cases p <;> first | exact h | exact absurd ⟨_, rfl⟩ hz
    obtain ⟨a, vs, ps, rfl, hs, _, rs, h⟩ := h'.rd s r
    refine ⟨_, vs.length, rfl, ?_, k _ _ F H h (.refl s) (by rw [rs.length]; rfl)⟩
    rcases hs with hs | hs
    · exact .inl ⟨vs, hs, rfl⟩
    · exact .inr ⟨vs, hs, rfl⟩
noncomputable def cAbs : PGC := fun ps Q => One ps fun p => OkI p fun i => Q (.int (if i < 0 then -i else i))
theorem rc_abs : RefC X.K (fun xs H Q => ∃ i, xs = [.int i] ∧ Q (.int (if i < 0 then -i else i)) H) cAbs := fun F H xs ps Qp Q s r h k => by
  obtain ⟨p, v, rfl, rfl, r, h⟩ := h.rd r
  obtain ⟨i, rfl, rfl, h⟩ := h.rd r
  exact ⟨i, rfl, k _ _ F H h (.refl s) rfl⟩
noncomputable def cMin2 : PGC := fun ps Q => Two ps fun p q => OkI p fun i => OkI q fun j => Q (.int (if j < i then j else i))
theorem rc_min2 : RefC X.K (fun xs H Q => ∃ i j, xs = [.int i, .int j] ∧ Q (.int (if j < i then j else i)) H) cMin2 := fun F H xs ps Qp Q s r h k => by
  obtain ⟨p, v, p2, v2, rfl, rfl, r, r2, h⟩ := h.rd r
  obtain ⟨i, rfl, rfl, h⟩ := h.rd r
  obtain ⟨j, rfl, rfl, h⟩ := h.rd r2
  exact ⟨i, j, rfl, k _ _ F H h (.refl s) rfl⟩
noncomputable def cInt : PGC := fun ps Q => One ps fun p => match p with
  | .bl k => Q (.int (if k then 1 else 0))
  | p => OkI p fun i => Q (.int i)
theorem rc_int : RefC X.K (fun xs H Q => (∃ i, xs = [.int i] ∧ Q (.int i) H) ∨ ∃ k, xs = [.bl k] ∧ Q (.int (if k then 1 else 0)) H) cInt := fun F H xs ps Qp Q s r h k => by
  obtain ⟨p, v, rfl, rfl, r, h⟩ := h.rd r
  by_cases hz : ∃ z, p = .bl z
  · obtain ⟨z, rfl⟩ := hz
    obtain ⟨b, e, rfl, h⟩ := OkB.rd (p := .bl z) (Q := fun z => Qp (.int (if z then 1 else 0))) h r
    exact .inr ⟨b, rfl, k _ _ F H h (.refl s) rfl⟩
  · have h' : OkI p fun i => Qp (.int i) := by
      cases p <;> first | exact h | exact absurd ⟨_, rfl⟩ hz
    obtain ⟨i, rfl, rfl, h⟩ := h'.rd r
    exact .inl ⟨i, rfl, k _ _ F H h (.refl s) rfl⟩
noncomputable def OkBs : List PV → (List Bool → Prop) → Prop
  | [], Q => Q []
  | p :: ps, Q => OkB p fun b => OkBs ps fun bs => Q (b :: bs)
theorem OkBs_map (bs : List Bool) (Q : List Bool → Prop) : OkBs (bs.map PV.bl) Q = Q bs := by
  induction bs generalizing Q with
  | nil => rfl
  | cons b r ih =>
    show OkBs (r.map PV.bl) (fun bs => Q (b :: bs)) = _
    rw [ih]
theorem OkBs.rd {K : PySem.W.Frag} {F : Hp} : ∀ {ps : List PV} {vs : List V} {Q : List Bool → Prop}, OkBs ps Q → Reps K F ps vs → ∃ bs, vs = bs.map V.bl ∧ ps = bs.map PV.bl ∧ Q bs
  | [], _, _, h, r => ⟨[], r, rfl, h⟩
  | p :: ps, _, Q, h, ⟨v, t, e, r1, r2⟩ => by
    subst e
    obtain ⟨b, rfl, rfl, h⟩ := OkB.rd (H := F) h (.frz r1)
    obtain ⟨bs, rfl, rfl, h'⟩ := OkBs.rd h r2
    exact ⟨b :: bs, rfl, rfl, h'⟩
noncomputable def cAll : PGC := fun ps Q => One ps fun p => OkL p fun ps => OkBs ps fun bs => Q (.bl (bs.all id))
theorem rc_all : RefC X.K (fun xs H Q => ∃ (p : Addr) (bs : List Bool), xs = [.ref p] ∧ SqL X.K H p (bs.map V.bl) ∧ Q (.bl (bs.all id)) H) cAll := fun F H xs ps Qp Q s r h k => by
  obtain ⟨p, v, rfl, rfl, r, h⟩ := h.rd r
  obtain ⟨a, vs, ps, rfl, hs, rs, h⟩ := h.rd s r
  obtain ⟨bs, rfl, rfl, h'⟩ := h.rd rs
  exact ⟨a, bs, rfl, hs, k (.bl _) _ F H h' (.refl s) rfl⟩
noncomputable def cAny : PGC := fun ps Q => One ps fun p => OkL p fun ps => OkBs ps fun bs => Q (.bl (bs.any id))
theorem rc_any : RefC X.K (fun xs H Q => ∃ (p : Addr) (bs : List Bool), xs = [.ref p] ∧ SqL X.K H p (bs.map V.bl) ∧ Q (.bl (bs.any id)) H) cAny := fun F H xs ps Qp Q s r h k => by
  obtain ⟨p, v, rfl, rfl, r, h⟩ := h.rd r
  obtain ⟨a, vs, ps, rfl, hs, rs, h⟩ := h.rd s r
  obtain ⟨bs, rfl, rfl, h'⟩ := h.rd rs
  exact ⟨a, bs, rfl, hs, k (.bl _) _ F H h' (.refl s) rfl⟩
noncomputable def cTup : PGC := fun ps Q => One ps fun p => match p with
  | .tup ps => Q (.tup ps)
  | p => OkL p fun ps => Q (.tup ps)
theorem rc_tup : RefC X.K (fun xs H Q => ∃ p ys, xs = [.ref p] ∧ ((SqL X.K H p ys ∧ ∀ l, H l = none → Q (.ref l) (upd H l (.tup ys))) ∨ (SqT X.K H p ys ∧ Q (.ref p) H))) cTup := fun F H xs ps Qp Q s r h k => by
  obtain ⟨p, v, rfl, rfl, r, h⟩ := h.rd r
  by_cases hz : ∃ z, p = .tup z
  · obtain ⟨z, rfl⟩ := hz
    cases r with
    | frz r =>
      obtain ⟨a, vs, rfl, e, rs⟩ := r
      exact ⟨a, vs, rfl, .inr ⟨SqT.of (s _ _ e), k _ _ F H h (.refl s) ⟨a, vs, rfl, e, rs⟩⟩⟩
  · have h' : OkL p fun ps => Qp (.tup ps) := by
      cases p <;> first | exact h | exact absurd ⟨_, rfl⟩ hz
    obtain ⟨a, vs, ps, rfl, hs, rs, h⟩ := h'.rd s r
    exact ⟨a, vs, rfl, .inl ⟨hs, fun l hl => k _ _ _ _ h (.new s hl _) ⟨l, vs, rfl, upd_same, rs.mono (same_new (s.free hl) _)⟩⟩⟩
noncomputable def cLst : PGN := fun ps Q => One ps fun p => OkS p Q
theorem rc_lst : RefN X.K (fun xs H Q => ∃ p ys, xs = [.ref p] ∧ (SqL X.K H p ys ∨ SqT X.K H p ys) ∧ ∀ l, H l = none → Q (.ref l) (upd H l (.lst ys))) cLst := fun F H xs ps Qp Q s r h k => by
  obtain ⟨p, v, rfl, rfl, r, h⟩ := h.rd r
  obtain ⟨a, vs, ps, rfl, hs, _, rs, h⟩ := h.rd s r
  exact ⟨a, vs, rfl, hs, fun l hl => k ps l vs F _ h (.newO s hl _) hl (s.free hl) upd_same rs⟩
noncomputable def ups (lo : Int) (n : Nat) : List PV := (List.range n).map fun i : Nat => PV.int (lo + i)
theorem reps_upTo {K : PySem.W.Frag} {F : Hp} : ∀ (l : List Nat), Reps K F (l.map fun i : Nat => PV.int (0 + i)) (l.map fun i : Nat => V.int (i : Int))
  | [] => rfl
  | x :: l => ⟨_, _, rfl, by show Rep K F (PV.int (0 + (x : Int))) (V.int x); rw [Int.zero_add]; rfl, reps_upTo l⟩
noncomputable def cRng : PGC := fun ps Q => One ps fun p => OkI p fun j => -(2 ^ 62) ≤ j ∧ j < 2 ^ 62 ∧ Q (.rng 0 j)
theorem rc_rng : RefC X.K rRng1 cRng := fun F H xs ps Qp Q s r h k => by
  obtain ⟨p, v, rfl, rfl, r, h⟩ := h.rd r
  obtain ⟨j, rfl, rfl, h1, h2, h⟩ := h.rd r
  exact ⟨j, rfl, h1, h2, fun p hp => k _ _ _ _ h (.new s hp _) ⟨p, rfl, upd_same⟩⟩
noncomputable def OkR : PV → (Int → Prop) → Prop
  | .rng lo j, Q => lo = 0 ∧ Q j
  | _, _ => False
noncomputable def cLstR : PGN := fun ps Q => One ps fun p => OkR p fun j => 0 ≤ j ∧ j ≤ 1000000 ∧ Q (ups 0 j.toNat)
theorem rc_lstR : RefN X.K (fun xs H Q => ∃ p j, xs = [.ref p] ∧ H p = some (.rng 0 j) ∧ 0 ≤ j ∧ j ≤ 1000000 ∧ ∀ l, H l = none → Q (.ref l) (upd H l (.lst (upTo j.toNat)))) cLstR := fun F H xs ps Qp Q s r h k => by
  obtain ⟨p, v, rfl, rfl, r, h⟩ := h.rd r
  cases p <;> first | exact h.elim | skip
  obtain ⟨rfl, h1, h2, h⟩ := h
  cases r with
  | frz r =>
    obtain ⟨a, rfl, e⟩ := r
    exact ⟨a, _, rfl, s _ _ e, h1, h2, fun l hl => k _ l _ F _ h (.newO s hl _) hl (s.free hl) upd_same (reps_upTo _)⟩
noncomputable def isI (n : String) : PV → Option Bool
  | .non => some false
  | .bl _ => some (n == "bool" || n == "int")
  | .int _ => some (n == "int")
  | .str _ => some (n == "str")
  | .tup _ => some (n == "tuple")
  | .lst _ => some (n == "list")
  | .dct _ _ => some (n == "dict")
  | _ => none
noncomputable def OkTy : PV → (String → Prop) → Prop
  | .ty n, Q => Q n
  | _, _ => False
noncomputable def cIsI : PGC := fun ps Q => Two ps fun p q => OkTy q fun n => (n = "int" ∨ n = "bool" ∨ n = "str" ∨ n = "tuple" ∨ n = "list" ∨ n = "dict") ∧ OkO (isI n p) fun b => Q (.bl b)
theorem rc_isI : RefC X.K (fun xs H Q => ∃ x n t b, xs = [x, .ty n] ∧ TyOf X.K H x t ∧ PySem.W.kitOne X.K t (.type n) = some b ∧ Q (.bl b) H) cIsI := fun F H xs ps Qp Q s r h k => by
  obtain ⟨p, v, p2, v2, rfl, rfl, r1, r2, h⟩ := h.rd r
  clear r
  obtain ⟨n, rfl, hn, h⟩ : ∃ n, p2 = .ty n ∧ (n = "int" ∨ n = "bool" ∨ n = "str" ∨ n = "tuple" ∨ n = "list" ∨ n = "dict") ∧ OkO (isI n p) fun b => Qp (.bl b) := by
    cases p2 with
    | ty n => exact ⟨n, rfl, h⟩
    | _ => exact h.elim
  obtain ⟨b, e, h⟩ := h.ex
  cases r2 with
  | frz r2 =>
    cases (show v2 = .ty n from r2)
    have fin : ∀ t, TyOf X.K H v t → PySem.W.kitOne X.K t (.type n) = some b → ∃ x n' t b, [v, V.ty n] = [x, .ty n'] ∧ TyOf X.K H x t ∧ PySem.W.kitOne X.K t (.type n') = some b ∧ Q (.bl b) H := fun t h1 h2 => ⟨v, n, t, b, rfl, h1, h2, k _ _ F H h (.refl s) rfl⟩
    cases r1 with
    | frz r =>
      cases p with
      | non => cases (show v = _ from r); refine fin _ .non ?_; rcases hn with rfl | rfl | rfl | rfl | rfl | rfl <;> exact e
      | bl x => cases (show v = _ from r); refine fin _ (.bl x) ?_; rcases hn with rfl | rfl | rfl | rfl | rfl | rfl <;> exact e
      | int x => cases (show v = _ from r); refine fin _ (.int x) ?_; rcases hn with rfl | rfl | rfl | rfl | rfl | rfl <;> exact e
      | str x => cases (show v = _ from r); refine fin _ (.str x) ?_; rcases hn with rfl | rfl | rfl | rfl | rfl | rfl <;> exact e
      | tup x => obtain ⟨a, vs, rfl, e', _⟩ := r; refine fin _ (.tup (s _ _ e')) ?_; rcases hn with rfl | rfl | rfl | rfl | rfl | rfl <;> exact e
      | lst x => obtain ⟨a, vs, rfl, e', _⟩ := r; refine fin _ (.lst (s _ _ e')) ?_; rcases hn with rfl | rfl | rfl | rfl | rfl | rfl <;> exact e
      | dct x y => obtain ⟨a, vs, rfl, e', _⟩ := r; refine fin _ (.dK (s _ _ e')) ?_; rcases hn with rfl | rfl | rfl | rfl | rfl | rfl <;> exact e
      | _ => cases e
    | own h1 h2 h3 => refine fin _ (.lst h1) ?_; rcases hn with rfl | rfl | rfl | rfl | rfl | rfl <;> exact e
    | dic h1 h2 h3 h4 => refine fin _ (.dK h1) ?_; rcases hn with rfl | rfl | rfl | rfl | rfl | rfl <;> exact e
end
end Pu
end
section
namespace Pu
open PySem PySem.Spec L2
noncomputable abbrev PTG := PV → PSt → (PSt → Prop) → Prop
noncomputable abbrev PTGs := List PV → PSt → (PSt → Prop) → Prop
inductive VUpd (K : PySem.W.Frag) (F : Hp) : L2.St → PSt → L2.St → PSt → Prop where
  | refl {σ : L2.St} {ρ : PSt} : VUpd K F σ ρ σ ρ
  | step {σ σ1 : L2.St} {ρ ρ1 : PSt} {i : Nat} {p : PV} {v : V} : VUpd K F σ ρ σ1 ρ1 → Rep K F p v → VUpd K F σ ρ (σ1.set i (some v)) (ρ1.set i (some (.val p)))
theorem VUpd.trans {K : PySem.W.Frag} {F : Hp} {σ σ1 σ2 : L2.St} {ρ ρ1 ρ2 : PSt} (a : VUpd K F σ ρ σ1 ρ1) (b : VUpd K F σ1 ρ1 σ2 ρ2) : VUpd K F σ ρ σ2 ρ2 := by
  induction b with
  | refl => exact a
  | step _ r ih => exact .step (ih a) r
theorem ER.set {K : PySem.W.Frag} {F H : Hp} {σ : L2.St} {ρ : PSt} (h : ER K F H σ ρ) {i : Nat} {v : V} {s : Sl} (r : SlR K F H (some v) (some s)) : ER K F H (σ.set i (some v)) (ρ.set i (some s)) := by
  refine ⟨h.fz, by rw [List.length_set, List.length_set]; exact h.len, fun j s' e => ?_⟩
  by_cases hij : i = j
  · subst hij
    have hi : i < ρ.length := by
      have := (List.getElem?_eq_some_iff.mp e).1
      rwa [List.length_set] at this
    rw [List.getElem?_set_self hi] at e
    rw [List.getElem?_set_self (by rw [h.len]; exact hi)]
    cases e
    exact r
  · rw [List.getElem?_set_ne hij] at e ⊢
    exact h.sl j s' e
theorem ER.upd {K : PySem.W.Frag} {F H : Hp} {σ σ' : L2.St} {ρ ρ' : PSt} (h : ER K F H σ ρ) (u : VUpd K F σ ρ σ' ρ') : ER K F H σ' ρ' := by
  induction u with
  | refl => exact h
  | step _ r ih => exact (ih h).set r
noncomputable def GRef (K : PySem.W.Frag) (g0 : TG) (g : PTG) : Prop := ∀ F H σ ρ p v (Qp : PSt → Prop) (Q : L2.St → Hp → Prop), Same F H → Rep K F p v → g p ρ Qp → (∀ σ' ρ', Qp ρ' → VUpd K F σ ρ σ' ρ' → Q σ' H) → g0 v σ H Q
noncomputable def GRefs (K : PySem.W.Frag) (g0 : TGs) (g : PTGs) : Prop := ∀ F H σ ρ ps vs (Qp : PSt → Prop) (Q : L2.St → Hp → Prop), Same F H → Reps K F ps vs → g ps ρ Qp → (∀ σ' ρ', Qp ρ' → VUpd K F σ ρ σ' ρ' → Q σ' H) → g0 vs σ H Q
noncomputable def qName (i : Nat) : PTG := fun p ρ Q => Q (ρ.set i (some (.val p)))
noncomputable def qNil : PTGs := fun ps ρ Q => match ps with
  | [] => Q ρ
  | _ => False
noncomputable def qCons (g : PTG) (gs : PTGs) : PTGs := fun ps ρ Q => match ps with
  | p :: ps => g p ρ fun ρ' => gs ps ρ' Q
  | [] => False
noncomputable def qTup (n : Nat) (gs : PTGs) : PTG := fun p ρ Q => OkT p fun ps => ps.length = n ∧ gs ps ρ Q
theorem gr_name {K : PySem.W.Frag} {i : Nat} : GRef K (gName i) (qName i) := fun F H σ ρ p v Qp Q s r h k => k _ _ h (.step .refl r)
theorem gr_nil {K : PySem.W.Frag} : GRefs K gNil qNil := fun F H σ ρ ps vs Qp Q s r h k => by
  cases ps with
  | nil => exact ⟨r, k _ _ h .refl⟩
  | cons p ps => exact h.elim
theorem gr_cons {K : PySem.W.Frag} {g0 : TG} {g : PTG} {gs0 : TGs} {gs : PTGs} (h1 : GRef K g0 g) (h2 : GRefs K gs0 gs) : GRefs K (gCons g0 gs0) (qCons g gs) := fun F H σ ρ ps vs Qp Q s r h k => by
  cases ps with
  | nil => exact h.elim
  | cons p ps =>
    obtain ⟨v, t, rfl, r1, r2⟩ := r
    exact ⟨v, t, rfl, h1 F H σ ρ p v _ _ s r1 h fun σ' ρ' q u => h2 F H σ' ρ' ps t Qp Q s r2 q fun σ2 ρ2 q2 u2 => k σ2 ρ2 q2 (u.trans u2)⟩
theorem gr_tup {K : PySem.W.Frag} {n : Nat} {gs0 : TGs} {gs : PTGs} (h : GRefs K gs0 gs) : GRef K (gTup K n gs0) (qTup n gs) := fun F H σ ρ p v Qp Q s r hq k => by
  obtain ⟨a, vs, ps, rfl, rfl, e, rs, hn, hq⟩ := OkT.rd (H := H) hq (.frz r)
  exact ⟨a, vs, rfl, SqT.of (s _ _ e), by rw [rs.length]; exact hn, h F H σ ρ ps vs Qp Q s rs hq k⟩
noncomputable abbrev PTI := PSt → (List PV → Prop) → Prop
noncomputable def ItOk (K : PySem.W.Frag) (F : Hp) (J : It) (its : List PV) : Prop := ∀ F1 H1 (i : Nat), Same F F1 → Same F1 H1 →
  (∀ p, its[i]? = some p → J.go i H1 ∧ ∀ x H2, J.yld i H1 x H2 → ∃ F2, Grow F1 H1 F2 H2 ∧ Rep K F2 p x) ∧ (its.length ≤ i → J.stop i H1)
noncomputable def lI (K : PySem.W.Frag) (ti : PTI) : TI := fun σ H R => ∃ F ρ, ∃ Qp : List PV → Prop, ER K F H σ ρ ∧ ti ρ Qp ∧ ∀ its J F' H', Qp its → Grow F H F' H' → ItOk K F' J its → R J H'
theorem lI.elim {K : PySem.W.Frag} {ti : PTI} {σ : St} {H : Hp} {R} {C : Prop} (h : lI K ti σ H R) (k : ∀ F ρ (Qp : List PV → Prop), ER K F H σ ρ → ti ρ Qp → (∀ its J F' H', Qp its → Grow F H F' H' → ItOk K F' J its → R J H') → C) : C := by obtain ⟨F, ρ, Qp, a, b, c⟩ := h; exact k F ρ Qp a b c
noncomputable def PuI (X : Cx) (tg iter : Expr) (ti : PTI) : Prop := PI X tg iter (lI X.K ti)
section
variable {X : Cx} {a b c e l tg iter elt : Expr} {pos : Pos} {ta tb te tl : PTE} {t : PTA}
noncomputable def pItL (tl : PTE) : PTI := fun ρ Q => tl ρ fun p => OkL p Q
noncomputable def OkTK (p : PV) (Q : List PV → Prop) : Prop := match p with
  | .tup ps => Q ps
  | .ktu ps => Q ps
  | _ => False
noncomputable def pItT (tl : PTE) : PTI := fun ρ Q => tl ρ fun p => OkTK p Q
theorem pui_list (hl : PuE X l tl) : PuI X tg l (pItL tl) := PI.weak (pi_list hl) fun σ H R hh_ => hh_.elim fun F ρ Qp er q k => ⟨F, ρ, _, er, q, fun p v F1 H1 h1 g1 r1 => by
  obtain ⟨a, vs, ps, rfl, hs, rs, h⟩ : ∃ a vs ps, v = .ref a ∧ SqL X.K F1 a vs ∧ Reps X.K F1 ps vs ∧ Qp ps := by
    cases p with
    | lst ps => obtain ⟨a, vs, rfl, e, rs⟩ := r1; exact ⟨a, vs, ps, rfl, SqL.of e, rs, h1⟩
    | src ps => obtain ⟨a, vs, rfl, e, rs⟩ := r1; exact ⟨a, vs, ps, rfl, e, rs, h1⟩
    | _ => exact h1.elim
  refine ⟨a, rfl, ⟨vs, g1.fh.seq hs⟩, k ps _ F1 H1 h g1 fun F2 H2 i s1 s2 => ?_⟩
  have h2 := (s1.trans s2).seq hs
  refine ⟨fun p e => ?_, fun hl => ⟨vs, h2, by rw [rs.length]; exact hl⟩⟩
  obtain ⟨v, ev, rv⟩ := rs.get e
  refine ⟨⟨vs, v, h2, ev⟩, fun x H3 ⟨e2, y⟩ => ?_⟩
  subst e2
  have := y vs h2
  rw [ev] at this
  cases this
  exact ⟨F2, .refl s2, rv.mono s1⟩⟩
theorem pui_tup (hl : PuE X l tl) : PuI X tg l (pItT tl) := PI.weak (pi_tup hl) fun σ H R hh_ => hh_.elim fun F ρ Qp er q k => ⟨F, ρ, _, er, q, fun p v F1 H1 h1 g1 r1 => by
  obtain ⟨a, vs, ps, rfl, hs, rs, h⟩ : ∃ a vs ps, v = .ref a ∧ SqT X.K F1 a vs ∧ Reps X.K F1 ps vs ∧ Qp ps := by
    cases p with
    | tup ps => obtain ⟨a, vs, rfl, e, rs⟩ := r1; exact ⟨a, vs, ps, rfl, SqT.of e, rs, h1⟩
    | ktu ps => obtain ⟨a, vs, rfl, e, rs⟩ := r1; exact ⟨a, vs, ps, rfl, e, rs, h1⟩
    | _ => exact h1.elim
  refine ⟨a, rfl, ⟨vs, SqTm g1.fh hs⟩, k ps _ F1 H1 h g1 fun F2 H2 i s1 s2 => ?_⟩
  have h2 := SqTm (s1.trans s2) hs
  refine ⟨fun p e => ?_, fun hl => ⟨vs, h2, by rw [rs.length]; exact hl⟩⟩
  obtain ⟨v, ev, rv⟩ := rs.get e
  refine ⟨⟨vs, v, h2, ev⟩, fun x H3 ⟨e2, y⟩ => ?_⟩
  subst e2
  have := y vs h2
  rw [ev] at this
  cases this
  exact ⟨F2, .refl s2, rv.mono s1⟩⟩
theorem itok_rng {K : PySem.W.Frag} {F : Hp} {lo : Int} {n : Nat} : ItOk K F (Itr lo n) (ups lo n) := fun F1 H1 i s1 s2 => by
  refine ⟨fun p e => ?_, fun hl => by show n ≤ i; simpa [ups] using hl⟩
  unfold ups at e
  rw [List.getElem?_map] at e
  obtain ⟨k, ek, rfl⟩ := Option.map_eq_some_iff.mp e
  obtain ⟨hk, rfl⟩ := List.getElem?_eq_some_iff.mp ek
  refine ⟨by show i < n; simpa using hk, fun x H2 ⟨e2, y⟩ => ?_⟩
  subst e2 y
  exact ⟨F1, .refl s2, by rw [List.getElem_range]; rfl⟩
noncomputable def pRng1 (t : PTA) : PTI := fun ρ Q => t ρ fun ps => One ps fun p => OkI p fun j => -(2 ^ 62) ≤ j ∧ j < 2 ^ 62 ∧ Q (ups 0 j.toNat)
theorem pui_rng1 (h : PI X tg iter (iRng1 (lAT X.K t))) : PuI X tg iter (pRng1 t) := PI.weak h fun σ H R hh_ => hh_.elim fun F ρ Qp er q k => ⟨F, ρ, _, er, q, fun ps vs F1 H1 h1 g1 r1 => by
  obtain ⟨p, v, rfl, rfl, r, h⟩ := h1.rd r1
  obtain ⟨j, rfl, rfl, h1, h2, h⟩ := h.rd r
  exact ⟨j, rfl, h1, h2, k _ _ F1 H1 h g1 itok_rng⟩⟩
noncomputable def subρ (fm : List (Option Nat)) (ρ : PSt) : PSt := fm.map fun o => o.bind fun j => (ρ[j]?).join
theorem ER.sub {K : PySem.W.Frag} {F H : Hp} {σ : L2.St} {ρ : PSt} (h : ER K F H σ ρ) (fm : List (Option Nat)) : ER K F H (subσ fm σ) (subρ fm ρ) := by
  refine ⟨h.fz, by unfold subσ subρ; rw [List.length_map, List.length_map], fun i s e => ?_⟩
  unfold subρ at e
  rw [List.getElem?_map] at e
  obtain ⟨o, eo, e⟩ := Option.map_eq_some_iff.mp e
  cases o with
  | none => cases e
  | some j =>
    have e' : (ρ[j]?).join = some s := e
    have e2 : ρ[j]? = some (some s) := by
      cases q : ρ[j]? with
      | none => rw [q] at e'; cases e'
      | some z => rw [q] at e'; rw [show z = some s from e']
    have := h.sl j s e2
    unfold subσ
    rw [List.getElem?_map, eo]
    exact this
noncomputable def pGo (g : PTG) (tc : PTB) (te : PTE) (ρ : PSt) : List PV → List PV → (List PV → Prop) → Prop
  | [], acc, Q => Q acc
  | v :: vs, acc, Q => g v ρ fun ρ2 => tc ρ2 fun b => if b = true then te ρ2 fun y => pGo g tc te ρ vs (acc ++ [y]) Q else pGo g tc te ρ vs acc Q
noncomputable def pComp (fm : List (Option Nat)) (ti : PTI) (g : PTG) (tc : PTB) (te : PTE) : PTN := fun ρ Q => ti ρ fun its => its.length < 1000 ∧ pGo g tc te (subρ fm ρ) its [] Q
noncomputable def pYes : PTB := fun _ Q => Q true
theorem yes_lift {K : PySem.W.Frag} : ∀ σ H Q, lB K pYes σ H Q → tYes σ H Q := fun σ H Q hh_ => hh_.elim fun F ρ Qp er q k => k _ F H q (.refl er.fz)
theorem PIf.weak {X : Cx} {ifs : List Expr} {t t' : TT} (h : PIf X ifs t) (w : ∀ σ H Q, t' σ H Q → t σ H Q) : PIf X ifs t' := fun pins s σ H Q I q => h pins s σ H Q I (w σ H Q q)
noncomputable def PuIf (X : Cx) (ifs : List Expr) (tc : PTB) : Prop := PIf X ifs (lB X.K tc)
theorem puif_nil : PuIf X [] pYes := PIf.weak pif_nil yes_lift
theorem comp_lift {K : PySem.W.Frag} {fm : List (Option Nat)} {ti : PTI} {g0 : TG} {g : PTG} {tc : PTB} (hg : GRef K g0 g) : ∀ σ H Q, lN K (pComp fm ti g tc te) σ H Q → tComp fm (lI K ti) g0 (lB K tc) (lE K te) σ H Q := fun σ H Q hh_ => hh_.elim fun F ρ Qp er q k =>
  ⟨F, ρ, _, er, q, fun its J F1 H1 ⟨hlen, h1⟩ g1 it => by
    refine ⟨fun i ys H' => ∃ F' acc, Grow F1 H1 F' H' ∧ Reps K F' acc ys ∧ i ≤ its.length ∧ acc.length ≤ i ∧ pGo g tc te (subρ fm ρ) (its.drop i) acc Qp, its.length, ⟨F1, [], .refl g1.fh, rfl, Nat.zero_le _, Nat.le_refl _, h1⟩, ?_, ?_⟩
    · rintro i ys H' ⟨F', acc, g2, rs, hi, ha, _⟩
      refine ⟨hi, small1000 ?_⟩
      rw [rs.length]; omega
    · rintro i ys H' ⟨F', acc, g2, rs, hi, ha, h2⟩
      obtain ⟨it1, it2⟩ := it F' H' i g2.ff g2.fh
      by_cases hl : i < its.length
      · obtain ⟨go, yl⟩ := it1 _ (List.getElem?_eq_getElem hl)
        refine .inr ⟨go, fun x H2 hy => ?_⟩
        obtain ⟨F2, g3, rx⟩ := yl x H2 hy
        rw [List.drop_eq_getElem_cons hl] at h2
        have er2 : ER K F2 H2 (subσ fm σ) (subρ fm ρ) := (er.grow ((g1.trans g2).trans g3)).sub fm
        refine hg F2 H2 (subσ fm σ) (subρ fm ρ) _ x _ _ g3.fh rx h2 fun σ2 ρ2 h3 u => ?_
        refine ⟨F2, ρ2, _, er2.upd u, h3, fun b F3 H3 h4 g4 => ?_⟩
        cases b with
        | true =>
          rw [if_pos rfl] at h4 ⊢
          refine ⟨F3, ρ2, _, (er2.upd u).grow g4, h4, fun y v F4 H4 h5 g5 ry => ?_⟩
          have gg := ((g2.trans g3).trans g4).trans g5
          exact ⟨F4, acc ++ [y], gg, (rs.mono ((g3.ff.trans g4.ff).trans g5.ff)).app (.one ry), hl, by rw [List.length_append]; simp; omega, h5⟩
        | false =>
          rw [if_neg Bool.false_ne_true] at h4 ⊢
          exact ⟨F3, acc, (g2.trans g3).trans g4, rs.mono (g3.ff.trans g4.ff), hl, by omega, h4⟩
      · have e : its.drop i = [] := List.drop_eq_nil_of_le (by omega)
        rw [e] at h2
        exact .inl ⟨it2 (by omega), fun l hl => k acc l ys F' _ h2 ((g1.trans g2).trans (.newO g2.fh hl _)) ((g1.trans g2).hh.free hl) (g2.fh.free hl) upd_same rs⟩⟩
theorem pu_comp {K : PySem.W.Frag} {fm : List (Option Nat)} {ti : PTI} {g0 : TG} {g : PTG} {tc : PTB} (hg : GRef X.K g0 g) (h : PE X e (tComp fm (lI X.K ti) g0 (lB X.K tc) (lE X.K te))) : PuN X e (pComp fm ti g tc te) := PE.weak h (comp_lift hg)
end
end Pu
end
section
namespace Pu
open PySem PySem.Spec L2
noncomputable def isOwn : Sl → Bool
  | .val _ => false
  | _ => true
noncomputable def OwnAt (σ : L2.St) (ρ : PSt) (i : Nat) (a : Addr) : Prop := (∃ s, ρ[i]? = some (some s) ∧ isOwn s = true) ∧ σ[i]? = some (some (.ref a))
structure BR (K : PySem.W.Frag) (F0 H0 F H : Hp) (σ : L2.St) (ρ : PSt) : Prop where
  er : ER K F H σ ρ
  gr : Grow F0 H0 F H
  ow : ∀ i a, OwnAt σ ρ i a → H0 a = none
  dj : ∀ i j a, OwnAt σ ρ i a → OwnAt σ ρ j a → i = j
section
variable {K : PySem.W.Frag} {F0 H0 F H F' H' : Hp} {σ σ' : L2.St} {ρ ρ' : PSt}
theorem BR.grow (h : BR K F0 H0 F H σ ρ) (g : Grow F H F' H') : BR K F0 H0 F' H' σ ρ := ⟨h.er.grow g, h.gr.trans g, h.ow, h.dj⟩
theorem own_set {i j : Nat} {v : V} {s : Sl} {a : Addr} (h : OwnAt (σ.set i (some v)) (ρ.set i (some s)) j a) : (i = j ∧ isOwn s = true ∧ v = .ref a) ∨ (i ≠ j ∧ OwnAt σ ρ j a) := by
  obtain ⟨⟨s', e, hs⟩, e2⟩ := h
  by_cases hij : i = j
  · subst hij
    have hi : i < ρ.length := by
      have := (List.getElem?_eq_some_iff.mp e).1
      rwa [List.length_set] at this
    have hi2 : i < σ.length := by
      have := (List.getElem?_eq_some_iff.mp e2).1
      rwa [List.length_set] at this
    rw [List.getElem?_set_self hi] at e
    rw [List.getElem?_set_self hi2] at e2
    cases e
    cases e2
    exact .inl ⟨rfl, hs, rfl⟩
  · rw [List.getElem?_set_ne hij] at e e2
    exact .inr ⟨hij, ⟨s', e, hs⟩, e2⟩
theorem BR.setV (h : BR K F0 H0 F H σ ρ) {i : Nat} {p : PV} {v : V} (r : Rep K F p v) : BR K F0 H0 F H (σ.set i (some v)) (ρ.set i (some (.val p))) := by
  refine ⟨h.er.set r, h.gr, fun j a o => ?_, fun j k a o o' => ?_⟩
  · rcases own_set o with ⟨_, z, _⟩ | ⟨_, o⟩
    · exact absurd z Bool.false_ne_true
    · exact h.ow j a o
  · rcases own_set o with ⟨_, z, _⟩ | ⟨_, o⟩
    · exact absurd z Bool.false_ne_true
    · rcases own_set o' with ⟨_, z, _⟩ | ⟨_, o'⟩
      · exact absurd z Bool.false_ne_true
      · exact h.dj j k a o o'
theorem BR.upd (h : BR K F0 H0 F H σ ρ) (u : VUpd K F σ ρ σ' ρ') : BR K F0 H0 F H σ' ρ' := by
  induction u with
  | refl => exact h
  | step _ r ih => exact (ih h).setV r
theorem ER.live (h : ER K F H σ ρ) {i : Nat} {a : Addr} (o : OwnAt σ ρ i a) : F a = none ∧ ∃ u, H a = some u := by
  obtain ⟨⟨s, e, hs⟩, e2⟩ := o
  have := h.sl i s e
  rw [e2] at this
  cases s with
  | val p => exact absurd hs Bool.false_ne_true
  | own ps => obtain ⟨a', vs, e', h1, h2, _⟩ := this; cases e'; exact ⟨h2, _, h1⟩
  | dic ks ps => obtain ⟨a', vs, e', h1, h2, _⟩ := this; cases e'; exact ⟨h2, _, h1⟩
theorem BR.setN (h : BR K F0 H0 F H σ ρ) (g : Grow F H F' H') {i : Nat} {a : Addr} {vs : List V} {ps : List PV} (h0 : H a = none) (hF : F' a = none) (hH : H' a = some (.lst vs)) (r : Reps K F' ps vs) :
    BR K F0 H0 F' H' (σ.set i (some (.ref a))) (ρ.set i (some (.own ps))) := by
  have h' := h.grow g
  refine ⟨h'.er.set ⟨a, vs, rfl, hH, hF, r⟩, h'.gr, fun j b o => ?_, fun j k b o o' => ?_⟩
  · rcases own_set o with ⟨_, _, z⟩ | ⟨_, o⟩
    · cases z; exact h.gr.hh.free h0
    · exact h.ow j b o
  · have ne : ∀ {m : Nat}, OwnAt σ ρ m b → b ≠ a := fun {m} o e => by
      obtain ⟨_, u, hu⟩ := h.er.live o
      subst e
      rw [h0] at hu; cases hu
    rcases own_set o with ⟨e1, _, z⟩ | ⟨_, o⟩
    · rcases own_set o' with ⟨e2, _, _⟩ | ⟨_, o'⟩
      · exact e1.symm.trans e2
      · cases z; exact absurd rfl (ne o')
    · rcases own_set o' with ⟨e2, _, z⟩ | ⟨_, o'⟩
      · cases z; exact absurd rfl (ne o)
      · exact h.dj j k b o o'
theorem set_id {i : Nat} {v : V} (e : σ[i]? = some (some v)) : σ.set i (some v) = σ := by
  apply List.ext_getElem?
  intro j
  by_cases hij : i = j
  · subst hij
    rw [List.getElem?_set_self (List.getElem?_eq_some_iff.mp e).1, e]
  · rw [List.getElem?_set_ne hij]
theorem BR.mut (h : BR K F0 H0 F H σ ρ) {i : Nat} {a : Addr} {u : HO} {s : Sl} (o : OwnAt σ ρ i a) (hs : isOwn s = true) (r : SlR K F (L2.upd H a u) (some (.ref a)) (some s)) : BR K F0 H0 F (L2.upd H a u) σ (ρ.set i (some s)) := by
  obtain ⟨hF, u0, hu⟩ := h.er.live o
  have h0 : H0 a = none := h.ow i a o
  have e2 := o.2
  refine ⟨⟨fun b w e => ?_, by rw [List.length_set]; exact h.er.len, fun j s' e => ?_⟩, ⟨fun b w e => ?_, h.gr.ff, fun b w e => ?_, h.gr.nw⟩, fun j b o' => ?_, fun j k b o' o'' => ?_⟩
  · have : b ≠ a := fun z => by subst z; rw [hF] at e; cases e
    rw [upd_ne this]; exact h.er.fz b w e
  · by_cases hij : i = j
    · subst hij
      have hi : i < ρ.length := by
        have := (List.getElem?_eq_some_iff.mp e).1
        rwa [List.length_set] at this
      rw [List.getElem?_set_self hi] at e
      cases e
      rw [e2]
      exact r
    · rw [List.getElem?_set_ne hij] at e
      have old := h.er.sl j s' e
      obtain ⟨v, ev, _⟩ := h.er.rd e
      rw [ev] at old ⊢
      have ne : ∀ b, isOwn s' = true → v = .ref b → b ≠ a := fun b hb hv z => by
        subst hv z
        exact hij (h.dj i j b o ⟨⟨s', e, hb⟩, ev⟩)
      cases s' with
      | val p => exact old
      | own ps => obtain ⟨b, vs, e', h1, h2, h3⟩ := old; cases e'; exact ⟨b, vs, rfl, by rw [upd_ne (ne b rfl rfl)]; exact h1, h2, h3⟩
      | dic ks ps => obtain ⟨b, vs, e', h1, h2, h3, h4⟩ := old; cases e'; exact ⟨b, vs, rfl, by rw [upd_ne (ne b rfl rfl)]; exact h1, h2, h3, h4⟩
  · have : b ≠ a := fun z => by subst z; rw [h0] at e; cases e
    rw [upd_ne this]; exact h.gr.hh b w e
  · have : b ≠ a := fun z => by subst z; rw [hF] at e; cases e
    rw [upd_ne this]; exact h.gr.fh b w e
  · rw [← set_id e2] at o'
    rcases own_set o' with ⟨_, _, z⟩ | ⟨_, o'⟩
    · cases z; exact h0
    · exact h.ow j b o'
  · rw [← set_id e2] at o' o''
    rcases own_set o' with ⟨e1, _, z⟩ | ⟨_, o'⟩
    · rcases own_set o'' with ⟨e3, _, _⟩ | ⟨n, o''⟩
      · exact e1.symm.trans e3
      · cases z; exact absurd (h.dj i k a o o'') n
    · rcases own_set o'' with ⟨e3, _, z⟩ | ⟨_, o''⟩
      · cases z; rw [← e3]; exact h.dj j i a o' o
      · exact h.dj j k b o' o''
end
noncomputable def mix (F H0 : Hp) : Hp := fun b => match F b with
  | some o => some o
  | none => H0 b
section
variable {K : PySem.W.Frag} {F0 H0 F H F' H' : Hp} {σ σ' : L2.St} {ρ ρ' : PSt}
theorem mix_none {b : Addr} (h : mix F H0 b = none) : F b = none ∧ H0 b = none := by
  unfold mix at h
  split at h
  · cases h
  · exact ⟨by assumption, h⟩
theorem mix_of {b : Addr} (hF : F b = none) (h0 : H0 b = none) : mix F H0 b = none := by unfold mix; rw [hF]; exact h0
theorem BR.base (h : BR K F0 H0 F H σ ρ) : BR K F (mix F H0) F H σ ρ := by
  refine ⟨h.er, ⟨fun b o e => ?_, Same.refl _, h.er.fz, fun b o e => .inl e⟩, fun i a o => mix_of (h.er.live o).1 (h.ow i a o), h.dj⟩
  unfold mix at e
  split at e
  · next q => cases e; exact h.er.fz b _ q
  · exact h.gr.hh b o e
theorem Grow.unbase (g : Grow F0 H0 F H) (g' : Grow F (mix F H0) F' H') : Grow F0 H0 F' H' := by
  refine ⟨fun b o e => ?_, g.ff.trans g'.ff, g'.fh, fun b o e => ?_⟩
  · refine g'.hh b o ?_
    unfold mix
    split
    · next u q => rw [← g.fh b u q]; exact g.hh b o e
    · exact e
  · rcases g'.nw b o e with z | z | z
    · exact g.nw b o z
    · exact .inr (.inl (mix_none z).2)
    · exact .inr (.inr z)
theorem BR.unbase (h : BR K F (mix F H0) F' H' σ' ρ') (g : Grow F0 H0 F H) : BR K F0 H0 F' H' σ' ρ' := ⟨h.er, g.unbase h.gr, fun i a o => (mix_none (h.ow i a o)).2, h.dj⟩
end
structure PEnds where
  nx : PSt → Prop
  rt : PV → Prop
  rn : List PV → Prop
  bk : PSt → Prop := fun _ => False
  ct : PSt → Prop := fun _ => False
noncomputable abbrev PTS := PEnds → PSt → Prop
structure Fit (K : PySem.W.Frag) (F0 H0 : Hp) (Dp : PEnds) (D : Ends) : Prop where
  nx : ∀ F H σ ρ, Dp.nx ρ → BR K F0 H0 F H σ ρ → D.nx σ H
  bk : ∀ F H σ ρ, Dp.bk ρ → BR K F0 H0 F H σ ρ → D.bk σ H
  ct : ∀ F H σ ρ, Dp.ct ρ → BR K F0 H0 F H σ ρ → D.ct σ H
  rt : ∀ p v F H, Dp.rt p → Grow F0 H0 F H → Rep K F p v → D.rt v H
  rn : ∀ ps a vs F H, Dp.rn ps → Grow F0 H0 F H → H0 a = none → F a = none → H a = some (.lst vs) → Reps K F ps vs → D.rt (.ref a) H
noncomputable def lS (K : PySem.W.Frag) (ts : PTS) : TS := fun D σ H => ∃ F0 H0 F ρ Dp, BR K F0 H0 F H σ ρ ∧ ts Dp ρ ∧ Fit K F0 H0 Dp D
theorem lS.elim {K : PySem.W.Frag} {ts : PTS} {D : Ends} {σ : St} {H : Hp} {C : Prop} (h : lS K ts D σ H) (k : ∀ F0 H0 F ρ Dp, BR K F0 H0 F H σ ρ → ts Dp ρ → Fit K F0 H0 Dp D → C) : C := by obtain ⟨F0, H0, F, ρ, Dp, a, b, c⟩ := h; exact k F0 H0 F ρ Dp a b c
noncomputable def PuS (X : Cx) (st : Stmt) (ts : PTS) : Prop := PS X st (lS X.K ts)
noncomputable def PuSs (X : Cx) (st : List Stmt) (ts : PTS) : Prop := PSs X st (lS X.K ts)
noncomputable def pNext : PTS := fun D ρ => D.nx ρ
noncomputable def pSeq (t u : PTS) : PTS := fun D ρ => t { D with nx := u D } ρ
noncomputable def pNever : PTS := fun _ _ => False
noncomputable def pDrop (te : PTE) : PTS := fun D ρ => te ρ fun _ => D.nx ρ
noncomputable def pRet (te : PTE) : PTS := fun D ρ => te ρ D.rt
noncomputable def pRetN (tn : PTN) : PTS := fun D ρ => tn ρ D.rn
noncomputable def go (ρ : PSt) (i : Nat) (Q : List PV → Prop) : Prop := match ρ[i]? with
  | some (some (.own ps)) => Q ps
  | _ => False
theorem go.ex {ρ : PSt} {i : Nat} {Q : List PV → Prop} (h : go ρ i Q) : ∃ ps, ρ[i]? = some (some (.own ps)) ∧ Q ps := by
  unfold go at h
  split at h
  · exact ⟨_, by assumption, h⟩
  · exact h.elim
noncomputable def pRetO (i : Nat) : PTS := fun D ρ => go ρ i D.rn
noncomputable def pIf (c : PTB) (t u : PTS) : PTS := fun D ρ => c ρ fun b => if b = true then t D ρ else u D ρ
noncomputable def pSet (i : Nat) (te : PTE) : PTS := fun D ρ => te ρ fun p => D.nx (ρ.set i (some (.val p)))
noncomputable def pSetN (i : Nat) (tn : PTN) : PTS := fun D ρ => tn ρ fun ps => D.nx (ρ.set i (some (.own ps)))
noncomputable def pAsg (te : PTE) (g : PTG) : PTS := fun D ρ => te ρ fun p => g p ρ D.nx
noncomputable def frz (i : Nat) (ρ : PSt) : PSt := match ρ[i]? with
  | some (some (.own ps)) => ρ.set i (some (.val (.lst ps)))
  | _ => ρ
section
variable {X : Cx} {st : Stmt} {rest : List Stmt} {t u : PTS} {te : PTE} {tn : PTN} {e : Expr} {pos : Pos} {i : Nat}
theorem puss_nil : PuSs X [] pNext := PSs.weak pss_nil fun D σ H hh_ => hh_.elim fun F0 H0 F ρ Dp br h ft => ft.nx F H σ ρ h br
theorem puss_cons (h1 : PuS X st t) (h2 : PuSs X rest u) : PuSs X (st :: rest) (pSeq t u) := PSs.weak (pss_cons h1 h2) fun D σ H hh_ => hh_.elim fun F0 H0 F ρ Dp br h ft =>
  ⟨F0, H0, F, ρ, _, br, h, ⟨fun F' H' σ' ρ' h' br' => ⟨F0, H0, F', ρ', Dp, br', h', ft⟩, ft.bk, ft.ct, ft.rt, ft.rn⟩⟩
theorem puss_one (h1 : PuS X st t) : PuSs X [st] t := pss_one h1
theorem pus_never : PuS X st pNever := PS.weak ps_never fun D σ H hh_ => hh_.elim fun F0 H0 F ρ Dp br h ft => h
theorem pus_expr (h : PS X st (tDrop (lE X.K te))) : PuS X st (pDrop te) := PS.weak h fun D σ H hh_ => hh_.elim fun F0 H0 F ρ Dp br h ft => ⟨F, ρ, _, br.er, h, fun p v F1 H1 h1 g1 r1 => ft.nx F1 H1 σ ρ h1 (br.grow g1)⟩
theorem pus_ret (he : PuE X e te) : PuS X (.Return (some e) pos) (pRet te) := PS.weak (ps_ret he) fun D σ H hh_ => hh_.elim fun F0 H0 F ρ Dp br h ft => ⟨F, ρ, _, br.er, h, fun p v F1 H1 h1 g1 r1 => ft.rt p v F1 H1 h1 (br.gr.trans g1) r1⟩
theorem pus_retN (he : PuN X e tn) : PuS X (.Return (some e) pos) (pRetN tn) := PS.weak (ps_ret he) fun D σ H hh_ => hh_.elim fun F0 H0 F ρ Dp br h ft => ⟨F, ρ, _, br.er, h, fun ps a vs F1 H1 h1 g1 h0 hF hH r1 => ft.rn ps a vs F1 H1 h1 (br.gr.trans g1) (br.gr.hh.free h0) hF hH r1⟩
theorem pus_retO (he : PE X e (tVar i)) : PuS X (.Return (some e) pos) (pRetO i) := PS.weak (ps_ret he) fun D σ H hh_ => hh_.elim fun F0 H0 F ρ Dp br h ft => by
  obtain ⟨ps, e, h⟩ := h.ex
  obtain ⟨v, ev, _⟩ := br.er.rd e
  have sl := br.er.sl i _ e
  rw [ev] at sl
  obtain ⟨a, vs, e', h1, h2, h3⟩ := sl
  cases e'
  exact ⟨_, ev, ft.rn ps a vs F H h br.gr (br.ow i a ⟨⟨_, e, rfl⟩, ev⟩) h2 h1 h3⟩
theorem pus_if {c : Expr} {a b : List Stmt} {tc : PTB} (hc : PuB X c tc) (ha : PuSs X a t) (hb : PuSs X b u) : PuS X (.If c a b pos) (pIf tc t u) := PS.weak (ps_if hc ha hb) fun D σ H hh_ => hh_.elim fun F0 H0 F ρ Dp br h ft => ⟨F, ρ, _, br.er, h, fun b F1 H1 h1 g1 => by
  cases b with
  | true => exact ⟨F0, H0, F1, ρ, Dp, br.grow g1, by simpa using h1, ft⟩
  | false => exact ⟨F0, H0, F1, ρ, Dp, br.grow g1, by simpa using h1, ft⟩⟩
theorem pus_set (h : PS X st (tAsg (lE X.K te) (gName i))) : PuS X st (pSet i te) := PS.weak h fun D σ H hh_ => hh_.elim fun F0 H0 F ρ Dp br h ft => ⟨F, ρ, _, br.er, h, fun p v F1 H1 h1 g1 r1 => ft.nx F1 H1 _ _ h1 ((br.grow g1).setV r1)⟩
theorem pus_setN (h : PS X st (tAsg (lN X.K tn) (gName i))) : PuS X st (pSetN i tn) := PS.weak h fun D σ H hh_ => hh_.elim fun F0 H0 F ρ Dp br h ft => ⟨F, ρ, _, br.er, h, fun ps a vs F1 H1 h1 g1 h0 hF hH r1 => ft.nx F1 H1 _ _ h1 (br.setN g1 h0 hF hH r1)⟩
theorem pus_asg {g0 : TG} {g : PTG} (hg : GRef X.K g0 g) (h : PS X st (tAsg (lE X.K te) g0)) : PuS X st (pAsg te g) := PS.weak h fun D σ H hh_ => hh_.elim fun F0 H0 F ρ Dp br h ft => ⟨F, ρ, _, br.er, h, fun p v F1 H1 h1 g1 r1 =>
  hg F1 H1 σ ρ p v _ _ g1.fh r1 h1 fun σ' ρ' q u => ft.nx F1 H1 σ' ρ' q ((br.grow g1).upd u)⟩
theorem BR.ownAt {K : PySem.W.Frag} {F0 H0 F H : Hp} {σ : L2.St} {ρ : PSt} (br : BR K F0 H0 F H σ ρ) {ps : List PV} (e : ρ[i]? = some (some (.own ps))) : ∃ a vs, σ[i]? = some (some (.ref a)) ∧ OwnAt σ ρ i a ∧ H a = some (.lst vs) ∧ F a = none ∧ Reps K F ps vs := by
  obtain ⟨v, ev, _⟩ := br.er.rd e
  have sl := br.er.sl i _ e
  rw [ev] at sl
  obtain ⟨a, vs, e', h1, h2, h3⟩ := sl
  cases e'
  exact ⟨a, vs, ev, ⟨⟨_, e, rfl⟩, ev⟩, h1, h2, h3⟩
noncomputable def pApp (i : Nat) (t : PTA) : PTS := fun D ρ => go ρ i fun ps => t ρ fun qs => One qs fun q => ps.length < sizeLine ∧ D.nx (ρ.set i (some (.own (ps ++ [q]))))
theorem pus_app {t : PTA} (h : PS X st (tDrop (tBM X.K "list" rAppend (tVar i) (lA X.K t)))) : PuS X st (pApp i t) := PS.weak h fun D σ H hh_ => hh_.elim fun F0 H0 F ρ Dp br h ft => by
  obtain ⟨ps, e, h⟩ := h.ex
  obtain ⟨a, vs, ev, o, h1, h2, h3⟩ := br.ownAt e
  refine ⟨_, ev, .inl ⟨rfl, vs, SqL.of h1⟩, F, ρ, _, br.er, h, fun qs us F1 H1 k1 g1 r1 => ?_⟩
  unfold One at k1
  split at k1
  · next q =>
    obtain ⟨v, r, rfl, r1, er⟩ := r1
    cases (show r = [] from er)
    have k := g1.keep h2 h1
    exact ⟨a, vs, v, rfl, rfl, k.2, by rw [h3.length]; exact k1.1, ft.nx F1 _ σ _ k1.2 ((br.grow g1).mut (s := .own _) o rfl ⟨a, _, rfl, upd_same, k.1, (h3.mono g1.ff).app (.one r1)⟩)⟩
  · exact k1.elim
noncomputable def pSetIx (j : Nat) (ti te : PTE) : PTS := fun D ρ => te ρ fun v => go ρ j fun ps => ti ρ fun k => OkI k fun k => OkO (ixN ps.length k) fun n => D.nx (ρ.set j (some (.own (ps.set n v))))
theorem pus_setIx {j : Nat} {ti : PTE} (h : PS X st (tAsg (lE X.K te) (L2.gSub (tVar j) (lE X.K ti) rSetL))) : PuS X st (pSetIx j ti te) := PS.weak h fun D σ H hh_ => hh_.elim fun F0 H0 F ρ Dp br h ft => ⟨F, ρ, _, br.er, h, fun p v F1 H1 h1 g1 r1 => by
  obtain ⟨ps, e, h⟩ := h1.ex
  have br1 := br.grow g1
  obtain ⟨a, vs, ev, o, k1, k2, k3⟩ := br1.ownAt e
  refine ⟨_, ev, F1, ρ, _, br1.er, h, fun q w F2 H2 h2 g2 r2 => ?_⟩
  obtain ⟨k, rfl, rfl, h2⟩ := OkI.rd (H := H2) h2 (.frz r2)
  obtain ⟨n, en, h2⟩ := h2.ex
  have kk := g2.keep k2 k1
  exact ⟨a, vs, k, n, rfl, rfl, kk.2, by rw [k3.length]; exact en, ft.nx F2 _ σ _ h2 ((br1.grow g2).mut (s := .own _) o rfl ⟨a, _, rfl, upd_same, kk.1, (k3.mono g2.ff).set (r1.mono g2.ff) n⟩)⟩⟩
noncomputable def pLoop (g : PTG) (tb : PTS) (D : PEnds) : List PV → PSt → Prop
  | [], ρ => D.nx ρ
  | v :: vs, ρ => g v ρ fun ρ2 => tb { D with nx := pLoop g tb D vs, ct := pLoop g tb D vs, bk := D.nx } ρ2
noncomputable def pFor (ti : PTI) (g : PTG) (tb : PTS) : PTS := fun D ρ => ti ρ fun its => pLoop g tb D its ρ
theorem pus_for {ti : PTI} {g0 : TG} {g : PTG} {tb : PTS} (hg : GRef X.K g0 g) (h : PS X st (tFor (lI X.K ti) g0 (lS X.K tb))) : PuS X st (pFor ti g tb) := PS.weak h fun D σ H hh_ => hh_.elim fun F0 H0 F ρ Dp br h ft => ⟨F, ρ, _, br.er, h, fun its J F1 H1 h1 g1 it => by
  refine ⟨fun i m σ' H' => ∃ F' ρ', BR X.K F0 H0 F' H' σ' ρ' ∧ Same F1 F' ∧ i ≤ its.length ∧ m = its.length - i ∧ pLoop g tb Dp (its.drop i) ρ', ⟨its.length, F1, ρ, br.grow g1, Same.refl _, Nat.zero_le _, rfl, h1⟩, ?_⟩
  rintro i m σ' H' ⟨F', ρ', br', s1, hi, rfl, h2⟩
  obtain ⟨it1, it2⟩ := it F' H' i s1 br'.er.fz
  by_cases hl : i < its.length
  · obtain ⟨go, yl⟩ := it1 _ (List.getElem?_eq_getElem hl)
    rw [List.drop_eq_getElem_cons hl] at h2
    refine .inr ⟨go, fun σ2 H2 => ∃ F2 ρ2, BR X.K F0 H0 F2 H2 σ2 ρ2 ∧ Same F1 F2 ∧ pLoop g tb Dp (its.drop (i + 1)) ρ2, fun σ2 H2 ⟨F2, ρ2, b2, s2, q2⟩ => ⟨its.length - (i + 1), by omega, F2, ρ2, b2, s2, hl, rfl, q2⟩, fun x H2 hy => ?_⟩
    obtain ⟨F2, g2, rx⟩ := yl x H2 hy
    refine hg F2 H2 σ' ρ' _ x _ _ g2.fh rx h2 fun σ3 ρ3 h3 u => ?_
    have br3 := (br'.grow g2).upd u
    refine ⟨F2, mix F2 H0, F2, ρ3, _, br3.base, h3, ⟨fun F4 H4 σ4 ρ4 h4 b4 => ?_, fun F4 H4 σ4 ρ4 h4 b4 => ?_, fun F4 H4 σ4 ρ4 h4 b4 => ?_, fun p v F4 H4 h4 g4 r4 => ft.rt p v F4 H4 h4 (br3.gr.unbase g4) r4, fun ps a vs F4 H4 h4 g4 h0 hF hH r4 => ft.rn ps a vs F4 H4 h4 (br3.gr.unbase g4) (mix_none h0).2 hF hH r4⟩⟩
    · exact ⟨F4, ρ4, b4.unbase br3.gr, (s1.trans g2.ff).trans b4.gr.ff, h4⟩
    · exact ft.nx F4 H4 σ4 ρ4 h4 (b4.unbase br3.gr)
    · exact ⟨F4, ρ4, b4.unbase br3.gr, (s1.trans g2.ff).trans b4.gr.ff, h4⟩
  · have e : its.drop i = [] := List.drop_eq_nil_of_le (by omega)
    rw [e] at h2
    exact .inl ⟨it2 (by omega), ft.nx F' H' σ' ρ' h2 br'⟩⟩
noncomputable def pWhileN (tc : PTB) (tb : PTS) (D : PEnds) : Nat → PSt → Prop
  | 0, _ => False
  | n + 1, ρ => tc ρ fun b => if b = true then tb { D with nx := pWhileN tc tb D n, ct := pWhileN tc tb D n, bk := D.nx } ρ else D.nx ρ
noncomputable def pWhile (tc : PTB) (tb : PTS) : PTS := fun D ρ => ∃ n, pWhileN tc tb D n ρ
theorem pus_while {tc : PTB} {tb : PTS} (h : PS X st (tWhile (lB X.K tc) (lS X.K tb))) : PuS X st (pWhile tc tb) := PS.weak h fun D σ H hh_ => hh_.elim fun F0 H0 F ρ Dp br ⟨n, h⟩ ft => by
  refine ⟨fun m σ' H' => ∃ F' ρ', BR X.K F0 H0 F' H' σ' ρ' ∧ pWhileN tc tb Dp m ρ', ⟨n, F, ρ, br, h⟩, ?_⟩
  rintro m σ' H' ⟨F', ρ', br', h'⟩
  cases m with
  | zero => exact h'.elim
  | succ m =>
    refine ⟨F', ρ', _, br'.er, h', fun b F1 H1 h1 g1 => ?_⟩
    cases b with
    | true =>
      rw [if_pos rfl] at h1 ⊢
      refine ⟨fun σ2 H2 => ∃ F2 ρ2, BR X.K F0 H0 F2 H2 σ2 ρ2 ∧ pWhileN tc tb Dp m ρ2, fun σ2 H2 q => ⟨m, Nat.lt_succ_self _, q⟩, F0, H0, F1, ρ', _, br'.grow g1, h1, ⟨fun F4 H4 σ4 ρ4 h4 b4 => ⟨F4, ρ4, b4, h4⟩, fun F4 H4 σ4 ρ4 h4 b4 => ft.nx F4 H4 σ4 ρ4 h4 b4, fun F4 H4 σ4 ρ4 h4 b4 => ⟨F4, ρ4, b4, h4⟩, ft.rt, ft.rn⟩⟩
    | false =>
      rw [if_neg Bool.false_ne_true] at h1 ⊢
      exact ft.nx F1 H1 σ' ρ' h1 (br'.grow g1)
inductive PR where
  | v (p : PV) | n (ps : List PV)
noncomputable def PR.pv : PR → PV
  | .v p => p
  | .n ps => .lst ps
noncomputable abbrev PSp := List PV → (PR → Prop) → Prop
noncomputable def ResR (K : PySem.W.Frag) (H F' H' : Hp) (v : V) : PR → Prop
  | .v p => Rep K F' p v
  | .n ps => ∃ a vs, v = .ref a ∧ H a = none ∧ F' a = none ∧ H' a = some (.lst vs) ∧ Reps K F' ps vs
noncomputable def spP (K : PySem.W.Frag) (φ : PSp) : Sp := fun vs H Q _ => ∃ F ps, ∃ Qp : PR → Prop, Same F H ∧ Reps K F ps vs ∧ φ ps Qp ∧ ∀ r v F' H', Qp r → Grow F H F' H' → ResR K H F' H' v r → Q v H'
noncomputable def PEnds.of (Q : PR → Prop) : PEnds := { nx := fun _ => Q (.v .non), rt := fun p => Q (.v p), rn := fun ps => Q (.n ps) }
noncomputable def pstart (N : List Str) (ps : List PV) : PSt := ps.map (fun p => some (Sl.val p)) ++ List.replicate (N.length - ps.length) none
theorem er_start {K : PySem.W.Frag} {F H : Hp} (s : Same F H) (N : List Str) : ∀ {ps : List PV} {vs : List V}, Reps K F ps vs → ER K F H (L2.start N vs) (pstart N ps) := fun {ps vs} r => by
  have hl := r.length
  refine ⟨s, by unfold L2.start pstart; simp [hl], fun i s' e => ?_⟩
  unfold pstart at e
  unfold L2.start
  rw [List.getElem?_append] at e ⊢
  rw [List.length_map] at e ⊢
  by_cases hi : i < ps.length
  · rw [if_pos hi, List.getElem?_map] at e
    rw [if_pos (by omega), List.getElem?_map]
    obtain ⟨p, ep, e⟩ := Option.map_eq_some_iff.mp e
    obtain ⟨v, ev, rv⟩ := r.get ep
    cases e
    rw [ev]
    exact rv
  · rw [if_neg hi, List.getElem?_replicate] at e
    split at e <;> cases e
theorem own_start {N : List Str} {ps : List PV} {σ : L2.St} {i : Nat} {a : Addr} (o : OwnAt σ (pstart N ps) i a) : False := by
  obtain ⟨⟨s, e, hs⟩, _⟩ := o
  unfold pstart at e
  rw [List.getElem?_append] at e
  split at e
  · rw [List.getElem?_map] at e
    obtain ⟨p, ep, e⟩ := Option.map_eq_some_iff.mp e
    cases e
    exact absurd hs Bool.false_ne_true
  · rw [List.getElem?_replicate] at e
    split at e <;> cases e
noncomputable def pCall (φ : PSp) (t : PTA) : PTE := fun ρ Q => t ρ fun ps => φ ps fun r => Q r.pv
noncomputable def OkN : PR → (List PV → Prop) → Prop
  | .n ps, Q => Q ps
  | _, _ => False
noncomputable def pCallN (φ : PSp) (t : PTA) : PTN := fun ρ Q => t ρ fun ps => φ ps fun r => OkN r Q
theorem pu_call {φ : PSp} {t : PTA} (h : PE X e (tCall (spP X.K φ) [] E0 (lA X.K t))) : PuE X e (pCall φ t) := PE.weak h fun σ H Q hh_ => hh_.elim fun F ρ Qp er q k => ⟨F, ρ, _, er, q, fun ps vs F1 H1 h1 g1 r1 => by
  show spP X.K φ (vs ++ []) H1 Q E0
  rw [List.append_nil]
  refine ⟨F1, ps, _, g1.fh, r1, h1, fun r v F2 H2 h2 g2 rr => ?_⟩
  cases r with
  | v p => exact k p v F2 H2 h2 (g1.trans g2) rr
  | n ps =>
    obtain ⟨a, vs, rfl, h0, hF, hH, rs⟩ := rr
    exact k (.lst ps) _ _ H2 h2 ((g1.trans g2).freeze (g1.hh.free h0) hF hH) ⟨a, vs, rfl, upd_same, rs.mono (same_new hF _)⟩⟩
theorem pu_callN {φ : PSp} {t : PTA} (h : PE X e (tCall (spP X.K φ) [] E0 (lA X.K t))) : PuN X e (pCallN φ t) := PE.weak h fun σ H Q hh_ => hh_.elim fun F ρ Qp er q k => ⟨F, ρ, _, er, q, fun ps vs F1 H1 h1 g1 r1 => by
  show spP X.K φ (vs ++ []) H1 Q E0
  rw [List.append_nil]
  refine ⟨F1, ps, _, g1.fh, r1, h1, fun r v F2 H2 h2 g2 rr => ?_⟩
  cases r with
  | v p => exact h2.elim
  | n ps =>
    obtain ⟨a, vs, rfl, h0, hF, hH, rs⟩ := rr
    exact k ps a vs F2 H2 h2 (g1.trans g2) (g1.hh.free h0) hF hH rs⟩
end
theorem defP {P : Program} {w : World} {K : PySem.W.Frag} {mg : Str → Option Value} {base : Heap} {x : Str} {st : Stmt} {N ps : List Str} {k : Nat} {φ : PSp} {ts : PTS} (F : FunD K mg x st ps) (S : FnScope N ps (defScope st))
    (hl : ∀ qs Q, φ qs Q → qs.length = ps.length)
    (hb : ∀ (f : Addr) (cdv : Value) (A : Around) (outer : List Env) (s : Shared) (H : Hp) (E : XK), Room k (A.deeper (PyProof.Rows.envOfC x (defScope st) s.heap.objs.size f cdv)) → PuSs (cxOf CX0 P w K mg base N x (defScope st) f cdv A outer s H E).nox (defBody st) ts)
    (hφ : ∀ qs Q, φ qs Q → ts (PEnds.of Q) (pstart N qs)) : Def P w K mg base (k + 1) x ps (spP K φ) := by
  refine F.ok S (fun vs H Q E ⟨F, qs, Qp, s, r, h, _⟩ => by rw [r.length]; exact hl qs Qp h) (fun f cdv A outer s H vs Q E hr ⟨F, qs, Qp, sm, r, h, kk⟩ => ?_)
  refine ⟨_, hb f cdv A outer s H E hr, F, H, F, pstart N qs, PEnds.of Qp, ?_, hφ qs Qp h, ?_⟩
  · exact ⟨er_start sm N r, .refl sm, fun i a o => (own_start o).elim, fun i j a o _ => (own_start o).elim⟩
  · exact ⟨fun F' H' σ' ρ' q b => kk (.v .non) .non F' H' q b.gr rfl, fun F' H' σ' ρ' q b => q.elim, fun F' H' σ' ρ' q b => q.elim, fun p v F' H' q g rr => kk (.v p) v F' H' q g rr, fun ps a vs F' H' q g h0 hF hH rs => kk (.n ps) (.ref a) F' H' q g ⟨a, vs, rfl, h0, hF, hH, rs⟩⟩
end Pu
end
section
namespace Pu
open PySem PySem.Spec L2
theorem Def.imp {P : Program} {w : World} {K : PySem.W.Frag} {mg : Str → Option Value} {base : Heap} {k : Nat} {x : Str} {ps : List Str} {sp sp' : Sp} (d : Def P w K mg base k x ps sp) (h : ∀ vs H Q E, sp' vs H Q E → sp vs H Q E) : Def P w K mg base k x ps sp' := by
  obtain ⟨f, fd, F, r⟩ := d
  exact ⟨f, fd, F.imp h, r⟩
section
variable {X : Cx} {e a b c l tg iter : Expr} {pos : Pos} {te ta tb : PTE} {t : PTA} {st : Stmt} {i j : Nat}
theorem RdV.all {K : PySem.W.Frag} {F H : Hp} {p : PV} {v : V} (s : Same F H) (r : RdV K F H p v) : Rep K H p v := by
  cases r with
  | frz r => exact r.mono s
  | own h1 h2 h3 => exact ⟨_, _, rfl, h1, h3.mono s⟩
  | dic h1 h2 h3 h4 => exact ⟨_, _, rfl, h1, h3, h4.mono s⟩
theorem RdVs.all {K : PySem.W.Frag} {F H : Hp} {ps : List PV} {vs : List V} (s : Same F H) (r : RdVs K F H ps vs) : Reps K H ps vs := by
  induction r with
  | nil => rfl
  | cons r _ ih => exact ⟨_, _, rfl, r.all s, ih⟩
noncomputable def OkLo : PV → (List PV → Prop) → Prop
  | .lst ps, Q => Q ps
  | _, _ => False
theorem OkLo.rd {K : PySem.W.Frag} {F H : Hp} {p : PV} {v : V} {Q : List PV → Prop} (h : OkLo p Q) (s : Same F H) (r : RdV K F H p v) : ∃ a vs ps, p = .lst ps ∧ v = .ref a ∧ H a = some (.lst vs) ∧ Reps K F ps vs ∧ Q ps := by
  cases r with
  | frz r =>
    cases p <;> first | exact h.elim | skip
    obtain ⟨a, vs, rfl, e, r⟩ := r; exact ⟨a, vs, _, rfl, rfl, s _ _ e, r, h⟩
  | own h1 h2 h3 => exact ⟨_, _, _, rfl, rfl, h1, h3, h⟩
  | dic => exact h.elim
noncomputable def pCat (ta tb : PTE) : PTN := fun ρ Q => ta ρ fun x => tb ρ fun y => OkLo x fun ps => OkLo y fun qs => ps.length + qs.length ≤ sizeLine ∧ Q (ps ++ qs)
theorem pu_cat (ha : PuT X a ta) (hb : PuT X b tb) : PuN X (.BinOp a .Add b pos) (pCat ta tb) := PE.weak (pe_op op_cat ha hb) fun σ H Q hh_ => hh_.elim fun F ρ Qp er q k =>
  ⟨F, ρ, _, er, q, fun p v F1 H1 q1 g1 r1 => ⟨F1, ρ, _, er.grow g1, q1, fun p2 v2 F2 H2 q2 g2 r2 => by
    obtain ⟨a, vs, ps, rfl, rfl, h1, rs, q2⟩ := q2.rd g2.fh (r1.grow g2)
    obtain ⟨b, us, qs, rfl, rfl, h2, rs2, q2⟩ := q2.rd g2.fh r2
    exact ⟨a, b, vs, us, rfl, rfl, h1, h2, by rw [rs.length, rs2.length]; exact q2.1, fun p hp => k _ p _ F2 _ q2.2 ((g1.trans g2).trans (.newO g2.fh hp _)) ((g1.trans g2).hh.free hp) (g2.fh.free hp) upd_same (rs.app rs2)⟩⟩⟩
noncomputable def pRep (ta tb : PTE) : PTN := fun ρ Q => ta ρ fun x => tb ρ fun y => OkLo x fun ps => OkI y fun k => -(2 ^ 63) ≤ k ∧ k < 2 ^ 63 ∧ ps.length * k.toNat ≤ sizeLine ∧ Q (List.replicate k.toNat ps).flatten
theorem Reps.repF {K : PySem.W.Frag} {F : Hp} {ps : List PV} {vs : List V} (h : Reps K F ps vs) : ∀ n, Reps K F (List.replicate n ps).flatten (List.replicate n vs).flatten
  | 0 => rfl
  | n + 1 => by rw [List.replicate_succ, List.replicate_succ, List.flatten_cons, List.flatten_cons]; exact h.app (Reps.repF h n)
theorem pu_rep (ha : PuT X a ta) (hb : PuT X b tb) : PuN X (.BinOp a .Mult b pos) (pRep ta tb) := PE.weak (pe_op op_rep ha hb) fun σ H Q hh_ => hh_.elim fun F ρ Qp er q k =>
  ⟨F, ρ, _, er, q, fun p v F1 H1 q1 g1 r1 => ⟨F1, ρ, _, er.grow g1, q1, fun p2 v2 F2 H2 q2 g2 r2 => by
    obtain ⟨a, vs, ps, rfl, rfl, h1, rs, q2⟩ := q2.rd g2.fh (r1.grow g2)
    obtain ⟨n, rfl, rfl, q2⟩ := q2.rd r2
    exact ⟨a, n, vs, rfl, rfl, h1, q2.1, q2.2.1, by rw [rs.length]; exact q2.2.2.1, fun p hp => k _ p _ F2 _ q2.2.2.2 ((g1.trans g2).trans (.newO g2.fh hp _)) ((g1.trans g2).hh.free hp) (g2.fh.free hp) upd_same (rs.repF _)⟩⟩⟩
noncomputable def enumP : Nat → List PV → List PV
  | _, [] => []
  | k, p :: ps => .tup [.int k, p] :: enumP (k + 1) ps
theorem enumP_len : ∀ (k : Nat) (ps : List PV), (enumP k ps).length = ps.length
  | _, [] => rfl
  | k, _ :: ps => by rw [enumP, List.length_cons, List.length_cons, enumP_len]
theorem enumP_get : ∀ (k : Nat) (ps : List PV) (i : Nat), (enumP k ps)[i]? = (ps[i]?).map fun p => .tup [.int ((k + i : Nat) : Int), p]
  | _, [], i => by simp [enumP]
  | k, p :: ps, 0 => by simp [enumP]
  | k, p :: ps, i + 1 => by
    rw [enumP, List.getElem?_cons_succ, List.getElem?_cons_succ, enumP_get, show k + 1 + i = k + (i + 1) by omega]
noncomputable def pPar (i j : Nat) (t : PTA) : PTS := fun D ρ => t ρ fun ps => Two ps fun p q => D.nx ((ρ.set i (some (.val p))).set j (some (.val q)))
theorem pus_par (h : PS X st (tPar i j (lA X.K t))) : PuS X st (pPar i j t) := PS.weak h fun D σ H hh_ => hh_.elim fun F0 H0 F ρ Dp br h ft => ⟨F, ρ, _, br.er, h, fun ps vs F1 H1 h1 g1 r1 => by
  unfold Two at h1
  split at h1
  · obtain ⟨v, r, rfl, r1, v2, r2, e2, r3, e3⟩ := r1
    subst e2
    cases (show r2 = [] from e3)
    exact ⟨v, v2, rfl, ft.nx F1 H1 _ _ h1 (((br.grow g1).setV r1).setV r3)⟩
  · exact h1.elim⟩
end
end Pu
end
section
namespace L2
open PySem PySem.Spec PyProof.Rows
noncomputable def rRepU : R2 := fun x y H Q => ∃ l k xs, x = .ref l ∧ y = .int k ∧ H l = some (.tup xs) ∧ xs ≠ [] ∧ 1 ≤ k ∧ k ≤ 1000 ∧ xs.length ≤ 1000 ∧ (k = 1 → Q (.ref l) H) ∧ (k ≠ 1 → ∀ p, H p = none → Q (.ref p) (upd H p (.tup (List.replicate k.toNat xs).flatten)))
theorem op_repU {X : Cx} : OpR X (binaryOp .Mult) rRepU := by
  intro pins s σ H x y v u Q I rx ry h
  obtain ⟨l, k, xs, rfl, rfl, hH, hx, k1, k2, k3, q⟩ := h
  cases rx
  obtain ⟨t, rfl⟩ := ry
  obtain ⟨its, r, p1, z⟩ := I.tuple (SqT.of' hH)
  obtain ⟨⟨cls, dd, data, sl⟩, e, hc, n, hd⟩ := id p1
  simp only at hc hd
  subst hc hd
  have hl := r.length
  have z1 : sizeLine ≥ 1000000 := by decide
  have hne : its ≠ [] := fun w => hx (r.nil_iff.mp w)
  have len1 : its.length * k.toNat ≤ 1000 * 1000 := Nat.mul_le_mul (by omega) (by omega)
  refine wpAny_binaryOp_repeat_ref (T := "tuple") (U := "int") (by decide) ⟨_, e, rfl⟩ (fun s' => typeIs_int s' k t) noFill_tuple_mul PySem.F.fills_int_mul PySem.F.slot_int_rmul repeat_tuple PySem.F.slot_int_index.lookup
    (call_meets PySem.F.slot_int_rmul (typeIs_int s k t) PySem.F.entry_int_rmul (PySem.F.args_int_rmul_2 _ _) (int_rmul_tuple k t l its.toArray n dd sl) ⟨e, rfl, ⟨_, e, rfl⟩, ?_⟩)
  by_cases hk : k = 1
  · subst hk
    refine call_meets PySem.F.slot_tuple_mul ⟨_, e, rfl⟩ PySem.F.entry_tuple_mul (PySem.F.args_tuple_mul_2 _ _) (tuple_mul_same l its.toArray n dd sl t) ⟨e, ?_⟩
    exact ⟨.ref l, H, I, rfl, q.1 rfl⟩
  · have hsz : ((its.toArray.size : Nat) : Int) * k = ((its.length * k.toNat : Nat) : Int) := by
      rw [List.size_toArray, Int.natCast_mul, Int.toNat_of_nonneg (by omega)]
    refine call_meets PySem.F.slot_tuple_mul ⟨_, e, rfl⟩ PySem.F.entry_tuple_mul (PySem.F.args_tuple_mul_2 _ _) (tuple_mul_new l its.toArray n dd sl k t ?a1 ?a2 ?a3 ?a4 ?a5 ?a6) ⟨e, ?_⟩
    case a1 => simp; omega
    case a2 => simp [hne]; exact hk
    case a3 => simp [hne]; omega
    case a4 => rw [hsz]; omega
    case a5 =>
      rw [hsz]
      intro hh
      have h2 := of_decide_eq_true hh
      omega
    case a6 =>
      rw [foldl_rep0, List.size_toArray, len_rep, Nat.mul_comm]
      omega
    rw [foldl_rep0]
    refine ⟨.ref s.heap.objs.size, _, I.laid (t' := s.toks) (o := .tup (List.replicate k.toNat xs).flatten) (fun b ob q => Heap.get?_push_of_some _ q) (Nat.le_refl _) ?_, rfl, q.2 hk _ (I.hok.fresh (Nat.le_refl _))⟩
    exact ⟨by rw [len_rep, Nat.mul_comm, hl]; omega, _, r.rep k.toNat, IsTup.new _ _⟩
end L2
namespace Pu
open PySem PySem.Spec L2
section
variable {X : Cx} {e a b c l tg iter : Expr} {pos : Pos} {te ta tb : PTE} {t : PTA} {st : Stmt} {i j : Nat}
noncomputable def gRep : PG2 := fun x y Q => OkT x fun ps => OkI y fun k => ps ≠ [] ∧ 1 ≤ k ∧ k ≤ 1000 ∧ ps.length ≤ 1000 ∧ Q (.tup (List.replicate k.toNat ps).flatten)
theorem rf_repT : Ref2 X.K rRepU gRep := fun F H x y p q Qp Q s rx ry h k => by
  obtain ⟨a, vs, ps, rfl, rfl, hF, rs, h⟩ := h.rd rx
  obtain ⟨n, rfl, rfl, h1, h2, h3, h4, h⟩ := h.rd ry
  have hl := rs.length
  refine ⟨a, n, vs, rfl, rfl, s _ _ hF, fun e => ?_, h2, h3, by omega, fun e => ?_, fun e p hp => ?_⟩
  · subst e
    exact h1 (List.length_eq_zero_iff.mp hl.symm)
  · subst e
    refine k _ _ F H h (.refl s) ⟨a, vs, rfl, hF, ?_⟩
    simpa using rs
  · exact k _ _ _ _ h (.new s hp _) ⟨p, _, rfl, upd_same, (rs.repF _).mono (same_new (s.free hp) _)⟩
theorem pu_repT (ha : PuT X a ta) (hb : PuT X b tb) : PuE X (.BinOp a .Mult b pos) (pOp gRep ta tb) := pu_op op_repU rf_repT ha hb
noncomputable def gCat2 : PG2 := fun x y Q => OkT x fun ps => OkT y fun qs => ps ≠ [] ∧ ps.length + qs.length ≤ sizeLine ∧ Q (.tup (ps ++ qs))
theorem rf_catT : Ref2 X.K (rCatT X.K) gCat2 := fun F H x y p q Qp Q s rx ry h k => by
  obtain ⟨a, vs, ps, rfl, rfl, hF, rs, h⟩ := h.rd rx
  obtain ⟨b, us, qs, rfl, rfl, hF2, rs2, h1, h2, h⟩ := h.rd ry
  have hl := rs.length
  have hl2 := rs2.length
  refine ⟨a, b, vs, us, rfl, rfl, SqT.of (s _ _ hF), SqT.of (s _ _ hF2), fun e => ?_, by omega, fun e => ?_, fun e p hp => ?_⟩
  · subst e
    exact h1 (List.length_eq_zero_iff.mp hl.symm)
  · subst e
    have : qs = [] := List.length_eq_zero_iff.mp hl2.symm
    subst this
    rw [List.append_nil] at h
    exact k _ _ F H h (.refl s) ⟨a, vs, rfl, hF, rs⟩
  · exact k _ _ _ _ h (.new s hp _) ⟨p, _, rfl, upd_same, (rs.app rs2).mono (same_new (s.free hp) _)⟩
theorem pu_catT (ha : PuT X a ta) (hb : PuT X b tb) : PuE X (.BinOp a .Add b pos) (pOp gCat2 ta tb) := pu_op op_catT rf_catT ha hb
noncomputable def pSl2 (te : PTE) (tl th : PTO) : PTE := fun ρ Q => te ρ fun x => tl ρ fun l => th ρ fun h => OkT x fun ps => ¬ (HT.sIx ps.length 0 l = 0 ∧ HT.sIx ps.length ps.length h = ps.length) ∧ Q (.tup (cut ps l h))
theorem pu_slT {lo hi : Option Expr} {tl th : PTO} {p2 : Pos} (he : PuT X e te) (hl : PuO X lo tl) (hh : PuO X hi th) : PuE X (.Subscript e (.Slice lo hi none p2) pos) (pSl2 te tl th) := PE.weak (pe_slice sl_tup he hl hh) fun σ H Q hh_ => hh_.elim fun F ρ Qp er q k => ⟨F, ρ, _, er, q, fun p v F1 H1 h1 g1 r1 =>
  ⟨F1, ρ, _, er.grow g1, h1, fun l F2 H2 h2 g2 => ⟨F2, ρ, _, (er.grow g1).grow g2, h2, fun h F3 H3 h3 g3 => by
    have gg := (g1.trans g2).trans g3
    obtain ⟨a, vs, ps, rfl, rfl, hF, rs, hn, q⟩ := h3.rd (r1.grow (g2.trans g3))
    refine ⟨a, vs, rfl, SqT.of (gg.fh _ _ hF), by rw [rs.length]; exact hn, fun p hp => k _ _ _ _ q (gg.trans (.new gg.fh hp _)) ⟨p, _, rfl, upd_same, rs.cut.mono (same_new (gg.fh.free hp) _)⟩⟩⟩⟩⟩
noncomputable def isPair : PV → Bool
  | .tup ps => match ps with
    | [.int _, .int _] => true
    | _ => false
  | _ => false
end
end Pu
end
section
namespace Pu
open PySem PySem.Spec L2
noncomputable def pst (n : Nat) (ps : List PV) : PSt := ps.map (fun p => some (Sl.val p)) ++ List.replicate (n - ps.length) none
noncomputable def spLaw (K : PySem.W.Frag) : Sp := fun vs H Q _ => ∃ (a : Addr) (ns : List Int), vs = [.ref a] ∧ SqL K H a (ns.map V.int) ∧ ns.length ≤ 63 ∧ ∀ H', Q (.bl true) H'
theorem reps_ints {K : PySem.W.Frag} {F : Hp} : ∀ (ns : List Int), Reps K F (ns.map PV.int) (ns.map V.int)
  | [] => rfl
  | n :: ns => ⟨_, _, rfl, rfl, reps_ints ns⟩
theorem law_start {X : Cx} {body : List Stmt} {ts : PTS} {N : List Str} {H : Hp} {vs : List V} {Q : VK} {E : XK} (hb : PuSs X body ts) (h : spLaw X.K vs H Q E)
    (hp : ∀ ns : List Int, ns.length ≤ 63 → ts (PEnds.of (fun r => r = .v (.bl true))) (pst N.length [.src (ns.map PV.int)])) : ∃ t, PSs X body t ∧ t { nx := fun _ H' => Q .non H', rt := Q } (L2.start N vs) H := by
  obtain ⟨a, ns, rfl, hS, hl, q⟩ := h
  refine ⟨_, hb, H, H, H, pst N.length [.src (ns.map PV.int)], _, ?_, hp ns hl, ?_⟩
  · have er := er_start (K := X.K) (Same.refl H) N (ps := [.src (ns.map PV.int)]) (vs := [.ref a]) ⟨_, _, rfl, ⟨a, _, rfl, hS, reps_ints ns⟩, rfl⟩
    exact ⟨er, .refl (Same.refl H), fun i a o => (own_start o).elim, fun i j a o _ => (own_start o).elim⟩
  · refine ⟨fun F' H' σ' ρ' q b => ?_, fun F' H' σ' ρ' q b => q.elim, fun F' H' σ' ρ' q b => q.elim, fun p v F' H' e g rr => ?_, fun ps a vs F' H' e g h0 hF hH rs => ?_⟩
    · have e : PR.v .non = PR.v (.bl true) := q
      cases e
    · have e' : PR.v p = PR.v (.bl true) := e
      cases e'
      cases (show v = .bl true from rr)
      exact q H'
    · have e' : PR.n ps = PR.v (.bl true) := e
      cases e'
theorem walk {l : PySem.W.OpenLaw} {q : Program} {loose : List Str} {XP : (Str → Option Value) → Heap → Prop} {YP : World → Heap → Prop} {d : DefRec} {K : Params → PySem.W.Frag} {k : Nat} (hk : k ≤ 40) (hn : l.most = some 63) (hdf : d.params.defaults = [])
    (hY : ∀ (w : World) (h : Heap), YP w h → (K w.params).In h)
    (F : ∀ (w : World) (mg : Str → Option Value) (fa : Addr) (h : Heap), (K w.params).In h → h.Ns mainGlobals mg → mg d.name = some (.ref fa) →
      ∃ fd : FuncData, (∀ (s : Shared) (u : Value), BindsTo s fd ⟨[u], []⟩ [("_law_script", u)]) ∧ ∀ base : Heap, (K w.params).In base ∧ base.Ns mainGlobals mg → FnOk l.prog w (K w.params) mg base CX0 k fa fd ["_law_script"] (spLaw (K w.params))) :
    PySem.W.WalkO q loose XP YP l.row.toRowW d [] (fun f vs => PySem.call f vs) := by
  have R : Room 40 callerA := ⟨rfl, by decide, by decide⟩
  exact L2.walk_of (n := 63) (k := k) (x := "_law_script") (CX := fun _ => CX0) (sp := fun w => spLaw (K w.params)) hn (by first | decide | omega) hdf (R.mono hk) hY (fun w mg fa h a b c => let ⟨fd, x, y⟩ := F w mg fa h a b c; ⟨fd, x, fun base p1 p2 => y base ⟨p1, p2⟩⟩)
    (fun _ _ a ns hl _ hS => ⟨a, ns, rfl, hS, hl, fun _ => rfl⟩) fun _ _ _ _ _ z => z
end Pu
end
section
namespace Fo
noncomputable abbrev up (us : List Nat) (x : Nat) : Nat := us.getD x 0
theorem up_set {us : List Nat} {x v t : Nat} (hx : x < us.length) : up (us.set x v) t = if t = x then v else up us t := by
  simp only [up, List.getD_eq_getElem?_getD, List.getElem?_set]
  by_cases h : x = t
  · subst h; simp [hx]
  · simp [h, Ne.symm h]
structure Fst (us : List Nat) : Prop where
  bnd : ∀ x, x < us.length → up us x < us.length
  rk : ∃ r : Nat → Nat, (∀ x, x < us.length → r x < us.length) ∧ ∀ x, x < us.length → up us x ≠ x → r (up us x) < r x
inductive Way (us : List Nat) : Nat → List Nat → Prop where
  | head {x : Nat} : up us x = x → Way us x [x]
  | step {x : Nat} {l : List Nat} : up us x ≠ x → Way us (up us x) l → Way us x (x :: l)
theorem Way.det {us : List Nat} {x : Nat} {l l' : List Nat} (h : Way us x l) (h' : Way us x l') : l = l' := by
  induction h generalizing l' with
  | head e => cases h' with
    | head _ => rfl
    | step n _ => exact absurd e n
  | step n _ ih => cases h' with
    | head e => exact absurd e n
    | step _ q => rw [ih q]
theorem Way.ne {us : List Nat} {x : Nat} {l : List Nat} (h : Way us x l) : l ≠ [] := by cases h <;> simp
theorem Way.pos {us : List Nat} {x : Nat} {l : List Nat} (h : Way us x l) : 1 ≤ l.length := by cases h <;> simp
theorem Way.mem_self {us : List Nat} {x : Nat} {l : List Nat} (h : Way us x l) : x ∈ l := by cases h <;> simp
noncomputable def last (l : List Nat) : Nat := l.getLastD 0
theorem last_cons {x : Nat} {l : List Nat} (h : l ≠ []) : last (x :: l) = last l := by
  cases l with
  | nil => exact absurd rfl h
  | cons y t => simp [last, List.getLastD_cons]
theorem last_mem {l : List Nat} (h : l ≠ []) : last l ∈ l := by
  induction l with
  | nil => exact absurd rfl h
  | cons y t ih =>
    cases t with
    | nil => simp [last]
    | cons z t => rw [last_cons (by simp)]; exact List.mem_cons_of_mem _ (ih (by simp))
theorem Way.head_last {us : List Nat} {x : Nat} {l : List Nat} (h : Way us x l) : up us (last l) = last l := by
  induction h with
  | head e => exact e
  | step _ w ih => rw [last_cons w.ne]; exact ih
theorem Way.lt {us : List Nat} {x : Nat} {l : List Nat} (h : Way us x l) (b : ∀ x, x < us.length → up us x < us.length) (hx : x < us.length) : ∀ y ∈ l, y < us.length := by
  induction h with
  | head e => intro y hy; rw [List.mem_singleton] at hy; subst hy; exact hx
  | step n w ih =>
    intro y hy
    rcases List.mem_cons.mp hy with rfl | hy
    · exact hx
    · exact ih (b _ hx) y hy
theorem Way.rank {us : List Nat} {x : Nat} {l : List Nat} (h : Way us x l) (b : ∀ x, x < us.length → up us x < us.length) {r : Nat → Nat} (hr : ∀ x, x < us.length → up us x ≠ x → r (up us x) < r x) (hx : x < us.length) : ∀ y ∈ l, r y ≤ r x := by
  induction h with
  | head e => intro y hy; rw [List.mem_singleton] at hy; subst hy; exact Nat.le_refl _
  | @step x l n w ih =>
    intro y hy
    rcases List.mem_cons.mp hy with rfl | hy
    · exact Nat.le_refl _
    · exact Nat.le_trans (ih (b _ hx) y hy) (Nat.le_of_lt (hr x hx n))
theorem Way.nodup {us : List Nat} {x : Nat} {l : List Nat} (h : Way us x l) (f : Fst us) (hx : x < us.length) : l.Nodup := by
  obtain ⟨b, r, hb, hr⟩ := f
  induction h with
  | head e => simp
  | @step x l n w ih =>
    refine List.nodup_cons.mpr ⟨fun hm => ?_, ih (b _ hx)⟩
    have h1 := w.rank b hr (b _ hx) x hm
    have h2 := hr x hx n
    omega
theorem Fst.way {us : List Nat} (f : Fst us) {x : Nat} (hx : x < us.length) : ∃ l, Way us x l ∧ l.length ≤ us.length := by
  obtain ⟨b, r, hb, hr⟩ := f
  suffices h : ∀ k x, x < us.length → r x ≤ k → ∃ l, Way us x l ∧ l.length ≤ k + 1 by
    obtain ⟨l, w, hl⟩ := h (r x) x hx (Nat.le_refl _)
    exact ⟨l, w, by have := hb x hx; omega⟩
  intro k
  induction k with
  | zero =>
    intro x hx h0
    by_cases e : up us x = x
    · exact ⟨_, .head e, by simp⟩
    · exact absurd (hr x hx e) (by omega)
  | succ k ih =>
    intro x hx h0
    by_cases e : up us x = x
    · exact ⟨_, .head e, by simp⟩
    · obtain ⟨l, w, hl⟩ := ih (up us x) (b x hx) (by have := hr x hx e; omega)
      exact ⟨_, .step e w, by simp; omega⟩
theorem Way.congr {us us' : List Nat} {x : Nat} {l : List Nat} (h : Way us x l) (e : ∀ y ∈ l, up us' y = up us y) : Way us' x l := by
  induction h with
  | @head x q => exact .head (by rw [e x (by simp), q])
  | @step x l n w ih =>
    have q : up us' x = up us x := e x (by simp)
    exact .step (by rw [q]; exact n) (by rw [q]; exact ih fun y hy => e y (List.mem_cons_of_mem _ hy))
theorem Way.closed {us : List Nat} {x : Nat} {l : List Nat} (h : Way us x l) : ∀ y ∈ l, up us y ∈ l := by
  induction h with
  | @head x q => intro y hy; rw [List.mem_singleton] at hy; subst hy; rw [q]; simp
  | @step x l n w ih =>
    intro y hy
    rcases List.mem_cons.mp hy with rfl | hy
    · exact List.mem_cons_of_mem _ w.mem_self
    · exact List.mem_cons_of_mem _ (ih y hy)
theorem Way.later {us : List Nat} {x : Nat} {l : List Nat} (h : Way us x l) : ∀ y ∈ l, ∃ l2, Way us y l2 ∧ last l2 = last l ∧ l2.length ≤ l.length ∧ ∀ z ∈ l2, z ∈ l := by
  induction h with
  | @head x q => intro y hy; rw [List.mem_singleton] at hy; subst hy; exact ⟨_, .head q, rfl, Nat.le_refl _, fun _ h => h⟩
  | @step x l n w ih =>
    intro y hy
    rcases List.mem_cons.mp hy with rfl | hy
    · exact ⟨_, .step n w, rfl, Nat.le_refl _, fun _ h => h⟩
    · obtain ⟨l2, a, b, c, d⟩ := ih y hy
      exact ⟨l2, a, by rw [b, last_cons w.ne], by simp; omega, fun z hz => List.mem_cons_of_mem _ (d z hz)⟩
structure Shorter (us us' : List Nat) : Prop where
  len : us'.length = us.length
  up : ∀ t, t < us.length → (up us t = t ∧ Fo.up us' t = t) ∨ (Fo.up us t ≠ t ∧ ∃ l, Way us (Fo.up us t) l ∧ Fo.up us' t ∈ l)
theorem Shorter.refl {us : List Nat} (f : Fst us) : Shorter us us := ⟨rfl, fun t ht => by
  by_cases e : Fo.up us t = t
  · exact .inl ⟨e, e⟩
  · obtain ⟨l, w, _⟩ := f.way (f.bnd t ht)
    exact .inr ⟨e, l, w, w.mem_self⟩⟩
theorem Shorter.fst {us us' : List Nat} (s : Shorter us us') (f : Fst us) : Fst us' := by
  obtain ⟨b, r, hb, hr⟩ := f
  refine ⟨fun x hx => ?_, r, fun x hx => ?_, fun x hx hn => ?_⟩
  · rw [s.len] at hx ⊢
    rcases s.up x hx with ⟨_, e⟩ | ⟨_, l, w, m⟩
    · rw [e]; exact hx
    · exact w.lt b (b x hx) _ m
  · rw [s.len] at hx ⊢; exact hb x hx
  · rw [s.len] at hx
    rcases s.up x hx with ⟨_, e⟩ | ⟨n, l, w, m⟩
    · exact absurd e hn
    · exact Nat.lt_of_le_of_lt (w.rank b hr (b x hx) _ m) (hr x hx n)
theorem Shorter.way {us us' : List Nat} (s : Shorter us us') (f : Fst us) {t : Nat} (ht : t < us.length) {l : List Nat} (w : Way us t l) : ∃ l', Way us' t l' ∧ last l' = last l ∧ l'.length ≤ l.length := by
  obtain ⟨b, r, hb, hr⟩ := f
  suffices h : ∀ k t, t < us.length → r t ≤ k → ∀ l, Way us t l → ∃ l', Way us' t l' ∧ last l' = last l ∧ l'.length ≤ l.length from h (r t) t ht (Nat.le_refl _) l w
  intro k
  induction k with
  | zero =>
    intro t ht h0 l w
    rcases s.up t ht with ⟨e, e'⟩ | ⟨n, _⟩
    · cases w with
      | head _ => exact ⟨_, .head e', rfl, Nat.le_refl _⟩
      | step n _ => exact absurd e n
    · exact absurd (hr t ht n) (by omega)
  | succ k ih =>
    intro t ht h0 l w
    rcases s.up t ht with ⟨e, e'⟩ | ⟨n, l1, w1, m⟩
    · cases w with
      | head _ => exact ⟨_, .head e', rfl, Nat.le_refl _⟩
      | step n _ => exact absurd e n
    · cases w with
      | head e => exact absurd e n
      | @step _ l0 _ w0 =>
        obtain rfl := w0.det w1
        obtain ⟨l2, w2, e2, c2, _⟩ := w0.later _ m
        have hy : Fo.up us' t < us.length := w0.lt b (b t ht) _ m
        have hry : r (Fo.up us' t) < r t := Nat.lt_of_le_of_lt (w0.rank b hr (b t ht) _ m) (hr t ht n)
        obtain ⟨l3, w3, e3, c3⟩ := ih _ hy (by omega) l2 w2
        refine ⟨t :: l3, .step (fun e => ?_) w3, ?_, ?_⟩
        · rw [e] at hry; omega
        · rw [last_cons w3.ne, e3, e2, last_cons w0.ne]
        · simp; omega
inductive Halv : List Nat → Nat → Nat → List Nat → Nat → Prop where
  | stop {us : List Nat} {x : Nat} : up us x = x → Halv us x x us 0
  | step {us : List Nat} {x h n : Nat} {us' : List Nat} : up us x ≠ x → Halv (us.set x (up us (up us x))) (up us (up us x)) h us' n → Halv us x h us' (n + 1)
inductive Splt : List Nat → Nat → Nat → List Nat → Nat → Prop where
  | stop {us : List Nat} {x : Nat} : up us x = x → Splt us x x us 0
  | step {us : List Nat} {x h n : Nat} {us' : List Nat} : up us x ≠ x → Splt (us.set x (up us (up us x))) (up us x) h us' n → Splt us x h us' (n + 1)
noncomputable def setAll (us : List Nat) (l : List Nat) (h : Nat) : List Nat := l.foldl (fun u t => u.set t h) us
theorem setAll_len (us l : List Nat) (h : Nat) : (setAll us l h).length = us.length := by
  induction l generalizing us with
  | nil => rfl
  | cons x t ih => rw [setAll, List.foldl_cons, ← setAll, ih, List.length_set]
theorem setAll_up {us l : List Nat} {h : Nat} (hl : ∀ y ∈ l, y < us.length) (t : Nat) : up (setAll us l h) t = if t ∈ l then h else up us t := by
  induction l generalizing us with
  | nil => simp [setAll]
  | cons x l ih =>
    rw [setAll, List.foldl_cons, ← setAll, ih fun y hy => by rw [List.length_set]; exact hl y (List.mem_cons_of_mem _ hy), up_set (hl x (by simp))]
    by_cases h1 : t ∈ l
    · simp [h1]
    · by_cases h2 : t = x
      · simp [h2]
      · simp [h1, h2]
theorem Way.set {us : List Nat} {x y v : Nat} {l : List Nat} (w : Way us y l) (hx : x < us.length) (h : x ∉ l) : Way (us.set x v) y l :=
  w.congr fun z hz => by rw [up_set hx, if_neg (fun e : z = x => h (e ▸ hz))]
theorem splt_of {x : Nat} {l : List Nat} : ∀ {us : List Nat}, Way us x l → l.Nodup → (∀ y ∈ l, y < us.length) → ∃ us', Splt us x (last l) us' (l.length - 1) ∧ us'.length = us.length ∧ ∀ t, up us' t = if t ∈ l then up us (up us t) else up us t := by
  induction l generalizing x with
  | nil => intro us w; exact absurd rfl w.ne
  | cons z l ih =>
    intro us w nd hl
    cases w with
    | head e => exact ⟨us, .stop e, rfl, fun t => by
        by_cases h : t ∈ [z]
        · rw [List.mem_singleton] at h; subst h; rw [if_pos (by simp), e, e]
        · rw [if_neg h]⟩
    | step n w =>
      have hz : z < us.length := hl z (by simp)
      obtain ⟨nz, nd⟩ := List.nodup_cons.mp nd
      obtain ⟨us', a, b, c⟩ := ih (w.set (v := up us (up us z)) hz nz) nd fun y hy => by rw [List.length_set]; exact hl y (List.mem_cons_of_mem _ hy)
      have pos := w.pos
      refine ⟨us', ?_, by rw [b, List.length_set], fun t => ?_⟩
      · rw [last_cons w.ne]
        have : (z :: l).length - 1 = (l.length - 1) + 1 := by simp; omega
        rw [this]
        exact .step n a
      · rw [c]
        have cl := w.closed
        by_cases h1 : t ∈ l
        · have h2 : t ≠ z := fun e => nz (e ▸ h1)
          have h3 : up us t ≠ z := fun e => nz (e ▸ cl t h1)
          rw [if_pos h1, if_pos (List.mem_cons_of_mem _ h1), up_set hz, up_set hz, if_neg h2, if_neg h3]
        · rw [if_neg h1, up_set hz]
          by_cases h2 : t = z
          · subst h2; simp
          · rw [if_neg h2, if_neg (by simp [h1, h2])]
noncomputable def evens : List Nat → List Nat
  | [] => []
  | [x] => [x]
  | x :: _ :: l => x :: evens l
theorem evens_sub : ∀ (l : List Nat) (x : Nat), x ∈ evens l → x ∈ l
  | [], _, h => h
  | [_], _, h => h
  | x :: y :: l, z, h => by
    rcases List.mem_cons.mp h with rfl | h
    · simp
    · exact List.mem_cons_of_mem _ (List.mem_cons_of_mem _ (evens_sub l z h))
theorem halv_of : ∀ (l : List Nat) {x : Nat} {us : List Nat}, Way us x l → l.Nodup → (∀ y ∈ l, y < us.length) → ∃ us', Halv us x (last l) us' (l.length / 2) ∧ us'.length = us.length ∧ ∀ t, up us' t = if t ∈ evens l then up us (up us t) else up us t
  | [], _, _, w, _, _ => absurd rfl w.ne
  | [z], _, us, w, nd, hl => by
    cases w with
    | head e => exact ⟨us, (show ([z].length / 2 = 0) from (by simp)) ▸ Halv.stop e, rfl, fun t => by
        by_cases h : t ∈ evens [z]
        · have h' : t ∈ [z] := h
          rw [List.mem_singleton] at h'; subst h'; rw [if_pos h, e, e]
        · rw [if_neg h]⟩
    | step n w => exact absurd rfl w.ne
  | z :: y :: l, _, us, w, nd, hl => by
    cases w with
    | step n w =>
      have hz : z < us.length := hl z (by simp)
      obtain ⟨nz, nd⟩ := List.nodup_cons.mp nd
      cases w with
      | head e =>
        refine ⟨us.set z (up us z), ?_, by rw [List.length_set], fun t => ?_⟩
        · have q : Halv (us.set z (up us (up us z))) (up us (up us z)) (up us z) (us.set z (up us z)) 0 := by
            rw [e]
            exact .stop (by rw [up_set hz, if_neg n, e])
          have h1 : [z, up us z].length / 2 = 0 + 1 := by simp
          rw [h1]
          exact Halv.step n q
        · rw [up_set hz]
          by_cases h : t = z
          · subst h; rw [if_pos rfl, if_pos (by simp [evens]), e]
          · rw [if_neg h, if_neg (by simp [evens, h])]
      | step n2 w =>
        have hm : z ∉ l := fun h => nz (List.mem_cons_of_mem _ h)
        obtain ⟨us', a, b, c⟩ := halv_of l (w.set (v := up us (up us z)) hz hm) (List.nodup_cons.mp nd).2 fun q hq => by rw [List.length_set]; exact hl q (List.mem_cons_of_mem _ (List.mem_cons_of_mem _ hq))
        refine ⟨us', ?_, by rw [b, List.length_set], fun t => ?_⟩
        · have e3 : last (z :: up us z :: l) = last l := by rw [last_cons (by simp), last_cons w.ne]
          have e4 : (z :: up us z :: l).length / 2 = l.length / 2 + 1 := by simp; omega
          rw [e3, e4]
          exact Halv.step n a
        · rw [c]
          have cl := w.closed
          by_cases h1 : t ∈ evens l
          · have h0 : t ∈ l := evens_sub l t h1
            have h2 : t ≠ z := fun e => hm (e ▸ h0)
            have h3 : up us t ≠ z := fun e => hm (e ▸ cl t h0)
            rw [if_pos h1, if_pos (by simp [evens, h1]), up_set hz, up_set hz, if_neg h2, if_neg h3]
          · rw [if_neg h1, up_set hz]
            by_cases h2 : t = z
            · subst h2; rw [if_pos rfl, if_pos (by simp [evens])]
            · rw [if_neg h2, if_neg (by simp [evens, h1, h2])]
end Fo
end
section
namespace Fo
open PySem
noncomputable def RNone (us : List Nat) (x h : Nat) (us' : List Nat) (n : Nat) : Prop := us' = us ∧ ∃ l, Way us x l ∧ h = last l ∧ n + 1 = l.length
noncomputable def RHalves (us : List Nat) (x h : Nat) (us' : List Nat) (n : Nat) : Prop := ∃ l, Way us x l ∧ h = last l ∧ n = l.length / 2 ∧ us'.length = us.length ∧ ∀ t, up us' t = if t ∈ evens l then up us (up us t) else up us t
noncomputable def RSplits (us : List Nat) (x h : Nat) (us' : List Nat) (n : Nat) : Prop := ∃ l, Way us x l ∧ h = last l ∧ n + 1 = l.length ∧ us'.length = us.length ∧ ∀ t, up us' t = if t ∈ l then up us (up us t) else up us t
noncomputable def ROne (us : List Nat) (x h : Nat) (us' : List Nat) (n : Nat) : Prop := us' = us.set x (up us (up us x)) ∧ ∃ l, Way us x l ∧ h = last l ∧ n + 1 = l.length
noncomputable def RWhole (us : List Nat) (x h : Nat) (us' : List Nat) (n : Nat) : Prop := ∃ l, Way us x l ∧ h = last l ∧ n + 1 = l.length ∧ us'.length = us.length ∧ ∀ t, up us' t = if t ∈ l then h else up us t
inductive RM : Str → List Nat → Nat → Nat → List Nat → Nat → Prop where
  | none {us x h us' n} : RNone us x h us' n → RM "none" us x h us' n
  | whole {us x h us' n} : RWhole us x h us' n → RM "whole" us x h us' n
  | halves {us x h us' n} : RHalves us x h us' n → RM "halves" us x h us' n
  | splits {us x h us' n} : RSplits us x h us' n → RM "splits" us x h us' n
  | one {us x h us' n} : ROne us x h us' n → RM "one" us x h us' n
noncomputable def manners : List Str := ["none", "whole", "halves", "splits", "one"]
structure Frst (us : List Nat) : Prop where
  one : 1 ≤ us.length
  most : us.length ≤ 40
  fst : Fst us
end Fo
namespace Pu
open PySem PySem.Spec L2 Fo
noncomputable def nI (n : Nat) : PV := .int n
noncomputable def nums (us : List Nat) : List PV := us.map nI
noncomputable def W_is_short : PSp := fun qs Q => ∃ y : Str, qs = [.str y] ∧ Q (.v (.bl (decide (y ∈ manners))))
noncomputable def W_find_in : PSp := fun qs Q => ∃ us y x, qs = [.tup (nums us), .str y, nI x] ∧ Frst us ∧ y ∈ manners ∧ x < us.length ∧ ∀ h us' n, RM y us x h us' n → Q (.v (.tup [nI h, .tup (nums us'), nI n]))
theorem Grow.tup {F H F' H' : Hp} (g : Grow F H F' H') {p : Addr} {vs : List V} (h : H' p = some (.tup vs)) : Grow F H (L2.upd F' p (.tup vs)) H' ∧ Same F' (L2.upd F' p (.tup vs)) := by
  have sm : Same F' (L2.upd F' p (.tup vs)) := fun b o e => by
    by_cases hb : b = p
    · subst hb; rw [upd_same, ← h]; exact (g.fh b o e)
    · rw [upd_ne hb]; exact e
  refine ⟨⟨g.hh, g.ff.trans sm, fun b o e => ?_, fun b o e => ?_⟩, sm⟩
  · by_cases hb : b = p
    · subst hb; rw [upd_same] at e; rw [h]; exact e
    · rw [upd_ne hb] at e; exact g.fh b o e
  · by_cases hb : b = p
    · subst hb; rw [upd_same] at e; cases e; exact .inr (.inr ⟨_, rfl⟩)
    · rw [upd_ne hb] at e; exact g.nw b o e
theorem reps_nums {K : PySem.W.Frag} {F : Hp} : ∀ (us : List Nat), Reps K F (nums us) (us.map fun n : Nat => V.int (n : Int))
  | [] => rfl
  | n :: us => ⟨_, _, rfl, rfl, reps_nums us⟩
theorem reps_nums_eq {K : PySem.W.Frag} {F : Hp} : ∀ {us : List Nat} {vs : List V}, Reps K F (nums us) vs → vs = us.map fun n : Nat => V.int (n : Int)
  | [], _, h => h
  | n :: us, _, ⟨v, r, e, h1, h2⟩ => by
    subst e
    cases (show v = _ from h1)
    rw [reps_nums_eq h2]; rfl
end Pu
end
section
namespace Dp
open PySem PySem.Spec L2 Pu
inductive RV where
  | fz (p : PV) | nw (ps : List PV) | ln (p : PV)
noncomputable def RV.pv : RV → PV
  | .fz p => p
  | .nw ps => .lst ps
  | .ln p => p
noncomputable def RV.fr : RV → Option PV
  | .fz p => some p
  | .nw ps => some (.lst ps)
  | .ln _ => none
noncomputable abbrev FE := PSt → Option RV
noncomputable abbrev FB := PSt → Option Bool
noncomputable abbrev FA := PSt → Option (List RV)
noncomputable abbrev FI := PSt → Option (List PV)
noncomputable def RvOk (K : PySem.W.Frag) (H F' H' : Hp) (v : V) : RV → Prop
  | .fz p => Rep K F' p v
  | .nw ps => ∃ a vs, v = .ref a ∧ H a = none ∧ F' a = none ∧ H' a = some (.lst vs) ∧ Reps K F' ps vs
  | .ln p => RdV K F' H' p v
noncomputable def lR (K : PySem.W.Frag) (f : FE) : TE := fun σ H Q => ∃ F ρ r, ER K F H σ ρ ∧ f ρ = some r ∧ ∀ v F' H', Grow F H F' H' → RvOk K H F' H' v r → Q v H'
theorem lR.elim {K : PySem.W.Frag} {f : FE} {σ : St} {H : Hp} {Q : VK} {C : Prop} (h : lR K f σ H Q) (k : ∀ F ρ r, ER K F H σ ρ → f ρ = some r → (∀ v F' H', Grow F H F' H' → RvOk K H F' H' v r → Q v H') → C) : C := by obtain ⟨F, ρ, r, a, b, c⟩ := h; exact k F ρ r a b c
noncomputable def DE (X : Cx) (e : Expr) (f : FE) : Prop := PE X e (lR X.K f)
noncomputable def tT (f : FE) : PTE := fun ρ Q => ∃ r, f ρ = some r ∧ Q r.pv
noncomputable def tF (f : FE) : PTE := fun ρ Q => ∃ r p, f ρ = some r ∧ r.fr = some p ∧ Q p
noncomputable def tN (f : FE) : PTN := fun ρ Q => ∃ ps, f ρ = some (.nw ps) ∧ Q ps
noncomputable def tBo (f : FB) : PTB := fun ρ Q => ∃ b, f ρ = some b ∧ Q b
noncomputable def tFs (f : FA) : PTA := fun ρ Q => ∃ rs ps, f ρ = some rs ∧ rs.mapM RV.fr = some ps ∧ Q ps
noncomputable def tTs (f : FA) : PTA := fun ρ Q => ∃ rs, f ρ = some rs ∧ Q (rs.map RV.pv)
noncomputable def tIt (f : FI) : PTI := fun ρ Q => ∃ its, f ρ = some its ∧ Q its
section
variable {X : Cx} {e a b c : Expr} {pos : Pos} {f fa fb fc : FE} {te t1 t2 : PTE} {tn n1 n2 : PTN} {i : Nat}
theorem RvOk.rd {K : PySem.W.Frag} {H F' H' : Hp} {v : V} : ∀ {r : RV}, RvOk K H F' H' v r → RdV K F' H' r.pv v
  | .fz _, h => .frz h
  | .nw _, ⟨_, _, e, _, h1, h2, h3⟩ => by subst e; exact .own h2 h1 h3
  | .ln _, h => h
theorem DE.tt (h : DE X e f) : PuT X e (tT f) := PE.weak h fun σ H Q hh_ => hh_.elim fun F ρ Qp er ⟨r, e, q⟩ k => ⟨F, ρ, r, er, e, fun v F' H' g ro => k _ v F' H' q g ro.rd⟩
theorem DE.ee (h : DE X e f) : PuE X e (tF f) := PE.weak h fun σ H Q hh_ => hh_.elim fun F ρ Qp er ⟨r, p, e, ef, q⟩ k => ⟨F, ρ, r, er, e, fun v F' H' g ro => by
  cases r with
  | fz p' => cases ef; exact k _ v F' H' q g ro
  | nw ps =>
    cases ef
    obtain ⟨a, vs, rfl, h0, hF, hH, rs⟩ := ro
    exact k _ _ _ H' q (g.freeze h0 hF hH) ⟨a, vs, rfl, upd_same, rs.mono (same_new hF _)⟩
  | ln p' => cases ef⟩
theorem DE.nn (h : DE X e f) : PuN X e (tN f) := PE.weak h fun σ H Q hh_ => hh_.elim fun F ρ Qp er ⟨ps, e, q⟩ k => ⟨F, ρ, _, er, e, fun v F' H' g ro => by
  obtain ⟨a, vs, rfl, h0, hF, hH, rs⟩ := ro
  exact k ps a vs F' H' q g h0 hF hH rs⟩
theorem DE.ofE (h : PuE X e te) (w : ∀ ρ r, f ρ = some r → ∃ p, r = .fz p ∧ te ρ (fun x => x = p)) : DE X e f := PE.weak h fun σ H Q hh_ => hh_.elim fun F ρ r er e k => by
  obtain ⟨p, rfl, t⟩ := w ρ r e
  exact ⟨F, ρ, _, er, t, fun q v F' H' hq g rr => by subst hq; exact k v F' H' g rr⟩
theorem DE.ofN (h : PuN X e tn) (w : ∀ ρ r, f ρ = some r → ∃ ps, r = .nw ps ∧ tn ρ (fun x => x = ps)) : DE X e f := PE.weak h fun σ H Q hh_ => hh_.elim fun F ρ r er e k => by
  obtain ⟨p, rfl, t⟩ := w ρ r e
  exact ⟨F, ρ, _, er, t, fun q a vs F' H' hq g h0 hF hH rr => by subst hq; exact k _ F' H' g ⟨a, vs, rfl, h0, hF, hH, rr⟩⟩
theorem PE.or {t u : TE} (h : PE X e t) (h' : PE X e u) : PE X e (fun σ H Q => t σ H Q ∨ u σ H Q) := fun pins s σ H Q I q => q.elim (h pins s σ H Q I) (h' pins s σ H Q I)
theorem DE.of2 (hE : PuE X e te) (hN : PuN X e tn) (w : ∀ ρ r, f ρ = some r → (∃ p, r = .fz p ∧ te ρ (fun x => x = p)) ∨ ∃ ps, r = .nw ps ∧ tn ρ (fun x => x = ps)) : DE X e f := PE.weak (PE.or hE hN) fun σ H Q hh_ => hh_.elim fun F ρ r er e k => by
  rcases w ρ r e with ⟨p, rfl, t⟩ | ⟨p, rfl, t⟩
  · exact .inl ⟨F, ρ, _, er, t, fun q v F' H' hq g rr => by subst hq; exact k v F' H' g rr⟩
  · exact .inr ⟨F, ρ, _, er, t, fun q a vs F' H' hq g h0 hF hH rr => by subst hq; exact k _ F' H' g ⟨a, vs, rfl, h0, hF, hH, rr⟩⟩
theorem PuE_or (h : PuE X e t1) (h' : PuE X e t2) : PuE X e (fun ρ Q => t1 ρ Q ∨ t2 ρ Q) := PE.weak (PE.or h h') fun σ H Q hh_ => hh_.elim fun F ρ Qp er q k => q.elim (fun q => .inl ⟨F, ρ, Qp, er, q, k⟩) fun q => .inr ⟨F, ρ, Qp, er, q, k⟩
theorem PuN_or (h : PuN X e n1) (h' : PuN X e n2) : PuN X e (fun ρ Q => n1 ρ Q ∨ n2 ρ Q) := PE.weak (PE.or h h') fun σ H Q hh_ => hh_.elim fun F ρ Qp er q k => q.elim (fun q => .inl ⟨F, ρ, Qp, er, q, k⟩) fun q => .inr ⟨F, ρ, Qp, er, q, k⟩
noncomputable def sl (ρ : PSt) (i : Nat) : Option Sl := (ρ[i]?).join
noncomputable def slRV : Sl → RV
  | .val p => .fz p
  | .own ps => .ln (.lst ps)
  | .dic ks ps => .ln (.dct ks ps)
noncomputable def fV (i : Nat) : FE := fun ρ => (sl ρ i).map slRV
theorem sl_some {ρ : PSt} {s : Sl} (h : sl ρ i = some s) : ρ[i]? = some (some s) := by
  unfold sl at h
  cases q : ρ[i]? with
  | none => rw [q] at h; cases h
  | some o => rw [q] at h; rw [show o = some s from h]
theorem d_v (h : PE X e (tVar i)) : DE X e (fV i) := PE.weak h fun σ H Q hh_ => hh_.elim fun F ρ r er e k => by
  unfold fV at e
  obtain ⟨s, es, rfl⟩ := Option.map_eq_some_iff.mp e
  have e1 := sl_some es
  obtain ⟨v, ev, rd⟩ := er.rd e1
  refine ⟨v, ev, k v F H (.refl er.fz) ?_⟩
  cases s with
  | val p =>
    have := er.sl i _ e1
    rw [ev] at this
    exact this
  | own ps => exact rd
  | dic ks ps => exact rd
noncomputable def fC (p : PV) : FE := fun _ => some (.fz p)
theorem d_c {p : PV} (h : PuE X e (pC p)) : DE X e (fC p) := .ofE h fun ρ r e => by cases e; exact ⟨p, rfl, rfl⟩
theorem d_int {i : Int} {j} : DE X (.Constant (.int i) j pos) (fC (.int i)) := d_c pu_int
theorem d_bl {i : Bool} {j} : DE X (.Constant (.bool i) j pos) (fC (.bl i)) := d_c pu_bl
theorem d_non {j} : DE X (.Constant .none j pos) (fC .non) := d_c pu_non
theorem d_str {x : Str} {j} : DE X (.Constant (.str x) j pos) (fC (.str x)) := d_c pu_str
noncomputable def fOp (g : PV → PV → Option RV) (a b : FE) : FE := fun ρ => (a ρ).bind fun x => (b ρ).bind fun y => g x.pv y.pv
theorem bind2 {α β γ : Type} {a : Option α} {b : Option β} {g : α → β → Option γ} {r : γ} (h : (a.bind fun x => b.bind fun y => g x y) = some r) : ∃ x y, a = some x ∧ b = some y ∧ g x y = some r := by
  obtain ⟨x, e1, h⟩ := Option.bind_eq_some_iff.mp h
  obtain ⟨y, e2, h⟩ := Option.bind_eq_some_iff.mp h
  exact ⟨x, y, e1, e2, h⟩
theorem d_op {g : PV → PV → Option RV} {gE : PG2} (h : PuE X e (pOp gE (tT fa) (tT fb))) (w : ∀ x y r, g x y = some r → ∃ p, r = .fz p ∧ gE x y (fun z => z = p)) : DE X e (fOp g fa fb) := .ofE h fun ρ r e => by
  obtain ⟨x, y, e1, e2, e3⟩ := bind2 e
  obtain ⟨p, rfl, q⟩ := w _ _ r e3
  exact ⟨p, rfl, x, e1, y, e2, q⟩
noncomputable def rI (f : Int → Int → PV) : PV → PV → Option RV
  | .int i, .int j => some (.fz (f i j))
  | _, _ => none
theorem rI_ok {f : Int → Int → PV} : ∀ x y r, rI f x y = some r → ∃ p, r = .fz p ∧ gI0 f x y (fun z => z = p) := fun x y r h => by
  unfold rI at h
  split at h
  · cases h; exact ⟨_, rfl, rfl⟩
  · cases h
noncomputable def rIc (C : Int → Int → Prop) [∀ i j, Decidable (C i j)] (f : Int → Int → PV) : PV → PV → Option RV
  | .int i, .int j => if C i j then some (.fz (f i j)) else none
  | _, _ => none
theorem rIc_ok {C D : Int → Int → Prop} [∀ i j, Decidable (C i j)] {f : Int → Int → PV} (hc : ∀ i j, C i j → D i j) : ∀ x y r, rIc C f x y = some r → ∃ p, r = .fz p ∧ Pu.gI D f x y (fun z => z = p) := fun x y r h => by
  unfold rIc at h
  split at h
  · split at h
    · cases h; exact ⟨_, rfl, hc _ _ (by assumption), rfl⟩
    · cases h
  · cases h
end
end Dp
end
section
namespace Dp
open PySem PySem.Spec L2 Pu
theorem big {n : Nat} (h : n ≤ 100000) : n ≤ sizeLine := Nat.le_trans h (by decide)
theorem bigl {n : Nat} (h : n ≤ 100000) : n < sizeLine := Nat.lt_of_le_of_lt h (by decide)
section
variable {X : Cx} {e a b c : Expr} {es rest : List Expr} {pos : Pos} {f fa fb fc : FE} {fs : FA} {i : Nat} {ba bb : FB}
noncomputable def rAdd : PV → PV → Option RV
  | .int i, .int j => some (.fz (.int (i + j)))
  | .lst ps, .lst qs => if ps.length + qs.length ≤ 100000 then some (.nw (ps ++ qs)) else none
  | .tup ps, .tup qs => if ps.isEmpty = false ∧ ps.length + qs.length ≤ 100000 then some (.fz (.tup (ps ++ qs))) else none
  | .str x, .str y => if x.length + y.length ≤ 100000 then some (.fz (.str (x ++ y))) else none
  | _, _ => none
noncomputable def gCatS : PG2 := fun x y Q => match x, y with
  | .str x, .str y => x.length + y.length ≤ sizeLine ∧ Q (.str (x ++ y))
  | _, _ => False
theorem rf_catS : Ref2 X.K (fun x y H Q => ∃ i j, x = .str i ∧ y = .str j ∧ i.length + j.length ≤ sizeLine ∧ Q (.str (i ++ j)) H) gCatS := fun F H x y p q Qp Q s rx ry h k => by
  unfold gCatS at h
  split at h
  · cases rx with
    | frz rx => cases ry with
      | frz ry => exact ⟨_, _, rx, ry, h.1, k _ _ F H h.2 (.refl s) rfl⟩
  · exact h.elim
theorem d_add (ha : DE X a fa) (hb : DE X b fb) : DE X (.BinOp a .Add b pos) (fOp rAdd fa fb) :=
  .of2 (PuE_or (pu_add ha.tt hb.tt) (PuE_or (pu_catT ha.tt hb.tt) (pu_op op_add_str rf_catS ha.tt hb.tt))) (pu_cat ha.tt hb.tt) fun ρ r e => by
    obtain ⟨x, y, e1, e2, e3⟩ := bind2 e
    unfold rAdd at e3
    split at e3
    · next p q => cases e3; exact .inl ⟨_, rfl, .inl ⟨x, e1, y, e2, by rw [p, q]; rfl⟩⟩
    · next ps qs p q =>
      split at e3
      · cases e3; exact .inr ⟨_, rfl, x, e1, y, e2, by rw [p, q]; exact ⟨big (by assumption), rfl⟩⟩
      · cases e3
    · next ps qs p q =>
      split at e3
      · next h => cases e3; exact .inl ⟨_, rfl, .inr (.inl ⟨x, e1, y, e2, by rw [p, q]; exact ⟨by intro z; subst z; exact absurd h.1 (by decide), big h.2, rfl⟩⟩)⟩
      · cases e3
    · next u v p q =>
      split at e3
      · cases e3; exact .inl ⟨_, rfl, .inr (.inr ⟨x, e1, y, e2, by rw [p, q]; exact ⟨big (by assumption), rfl⟩⟩)⟩
      · cases e3
    · cases e3
noncomputable def rSub : PV → PV → Option RV := rI fun i j => .int (i - j)
theorem d_sub (ha : DE X a fa) (hb : DE X b fb) : DE X (.BinOp a .Sub b pos) (fOp rSub fa fb) := d_op (pu_sub ha.tt hb.tt) rI_ok
noncomputable def rMul : PV → PV → Option RV
  | .int i, .int j => if (i.natAbs < 2 ^ 64) ∨ (j.natAbs < 2 ^ 64) then some (.fz (.int (i * j))) else none
  | .lst ps, .int j => if j ≤ 1000 ∧ -1000 ≤ j ∧ ps.length ≤ 100 then some (.nw (List.replicate j.toNat ps).flatten) else none
  | .tup ps, .int j => if ps.isEmpty = false ∧ 1 ≤ j ∧ j ≤ 1000 ∧ ps.length ≤ 1000 then some (.fz (.tup (List.replicate j.toNat ps).flatten)) else none
  | _, _ => none
theorem d_mul (ha : DE X a fa) (hb : DE X b fb) : DE X (.BinOp a .Mult b pos) (fOp rMul fa fb) :=
  .of2 (PuE_or (pu_mul ha.tt hb.tt) (pu_repT ha.tt hb.tt)) (pu_rep ha.tt hb.tt) fun ρ r e => by
    obtain ⟨x, y, e1, e2, e3⟩ := bind2 e
    unfold rMul at e3
    split at e3
    · next i j p q =>
      split at e3
      · next h =>
        cases e3
        refine .inl ⟨_, rfl, .inl ⟨x, e1, y, e2, ?_⟩⟩
        rw [p, q]
        refine ⟨?_, rfl⟩
        show CMul i j
        unfold CMul
        rcases h with h | h
        · exact .inl (by omega)
        · exact .inr (by omega)
      · cases e3
    · next ps j p q =>
      split at e3
      · next h =>
        cases e3
        refine .inr ⟨_, rfl, x, e1, y, e2, ?_⟩
        rw [p, q]
        refine ⟨by omega, by omega, ?_, rfl⟩
        refine big ?_
        have h1 : j.toNat ≤ 1000 := by omega
        exact Nat.le_trans (Nat.mul_le_mul h.2.2 h1) (by decide)
      · cases e3
    · next ps j p q =>
      split at e3
      · next h => cases e3; exact .inl ⟨_, rfl, .inr ⟨x, e1, y, e2, by rw [p, q]; exact ⟨by intro z; subst z; exact absurd h.1 (by decide), h.2.1, h.2.2.1, h.2.2.2, rfl⟩⟩⟩
      · cases e3
    · cases e3
noncomputable def rDiv : PV → PV → Option RV := rIc (fun _ j => 0 < j ∧ j < 1073741824) fun i j => .int (i / j)
theorem d_div (ha : DE X a fa) (hb : DE X b fb) : DE X (.BinOp a .FloorDiv b pos) (fOp rDiv fa fb) := d_op (pu_div ha.tt hb.tt) (rIc_ok fun _ _ h => h)
noncomputable def rMod : PV → PV → Option RV := rIc (fun _ j => 0 < j) fun i j => .int (i % j)
theorem d_mod (ha : DE X a fa) (hb : DE X b fb) : DE X (.BinOp a .Mod b pos) (fOp rMod fa fb) := d_op (pu_mod ha.tt hb.tt) (rIc_ok fun _ _ h => h)
noncomputable def rPow : PV → PV → Option RV := rIc (fun i j => 0 ≤ j ∧ j ≤ 1000000 ∧ i.natAbs < 2 ^ 64) fun i j => .int (i ^ j.toNat)
theorem d_pow (ha : DE X a fa) (hb : DE X b fb) : DE X (.BinOp a .Pow b pos) (fOp rPow fa fb) := d_op (pu_pow ha.tt hb.tt) (rIc_ok fun _ _ h => h)
noncomputable def rBand : PV → PV → Option RV := rI fun i j => .int (Builtin.bitAnd i j)
structure CmpR (X : Cx) (op : CmpOp) (g : PV → PV → Option RV) : Prop where
  ok : ∃ (r : R2) (gE : PG2), OpR X (compareOp op) r ∧ Ref2 X.K r gE ∧ ∀ x y r, g x y = some r → ∃ p, r = .fz (.bl p) ∧ ∀ Q : PV → Prop, Q (.bl p) → gE x y Q
theorem fzb {g : PV → PV → Option RV} {gE : PG2} (h : ∀ x y r, g x y = some r → ∃ p, r = .fz (.bl p) ∧ ∀ Q : PV → Prop, Q (.bl p) → gE x y Q) : ∀ x y r, g x y = some r → ∃ p, r = .fz p ∧ gE x y (fun z => z = p) := fun x y r e => by
  obtain ⟨p, e1, e2⟩ := h x y r e; exact ⟨_, e1, e2 _ rfl⟩
theorem d_cmp {op : CmpOp} {g : PV → PV → Option RV} (hc : CmpR X op g) (ha : DE X a fa) (hb : DE X b fb) (hm : behindInMarks op b = false) : DE X (.Compare a [op] [b] pos) (fOp g fa fb) := by
  obtain ⟨r, gE, h1, h2, h3⟩ := hc.ok
  exact d_op (pu_cmp h1 h2 ha.tt hb.tt hm) (fzb h3)
noncomputable def rIb (f : Int → Int → Bool) : PV → PV → Option RV
  | .int i, .int j => some (.fz (.bl (f i j)))
  | _, _ => none
theorem rIb_ok {f : Int → Int → Bool} : ∀ x y r, rIb f x y = some r → ∃ p, r = .fz (.bl p) ∧ ∀ Q : PV → Prop, Q (.bl p) → gI0 (fun i j => .bl (f i j)) x y Q := fun x y r h => by
  unfold rIb at h
  split at h
  · cases h; exact ⟨_, rfl, fun _ q => q⟩
  · cases h
noncomputable def rLt : PV → PV → Option RV := rIb fun i j => decide (i < j)
noncomputable def rLe : PV → PV → Option RV := rIb fun i j => decide (i ≤ j)
noncomputable def rGt : PV → PV → Option RV := rIb fun i j => decide (j < i)
noncomputable def rGe : PV → PV → Option RV := rIb fun i j => decide (j ≤ i)
theorem c_lt : CmpR X .Lt rLt := ⟨_, _, op_lt, rf_lt, rIb_ok⟩
theorem c_le : CmpR X .LtE rLe := ⟨_, _, op_le, rf_le, rIb_ok⟩
theorem c_gt : CmpR X .Gt rGt := ⟨_, _, op_gt, rf_gt, rIb_ok⟩
theorem c_ge : CmpR X .GtE rGe := ⟨_, _, op_ge, rf_ge, rIb_ok⟩
noncomputable def rEq (x y : PV) : Option RV := if plain x && plain y && decide (dep x ≤ 50) then some (.fz (.bl (peq x y))) else none
noncomputable def rNe (x y : PV) : Option RV := if plain x && plain y && decide (dep x ≤ 50) then some (.fz (.bl (!peq x y))) else none
theorem c_eq (hu : X.A.units + 64 < cLine) : CmpR X .Eq rEq := ⟨_, _, op_eqP hu, rf_eq, fun x y r h => by
  unfold rEq at h
  split at h
  · next q => cases h; rw [Bool.and_eq_true, Bool.and_eq_true, decide_eq_true_eq] at q; exact ⟨_, rfl, fun _ z => ⟨q.1.1, q.1.2, q.2, z⟩⟩
  · cases h⟩
theorem c_ne (hu : X.A.units + 64 < cLine) : CmpR X .NotEq rNe := ⟨_, _, op_neP hu, rf_ne, fun x y r h => by
  unfold rNe at h
  split at h
  · next q => cases h; rw [Bool.and_eq_true, Bool.and_eq_true, decide_eq_true_eq] at q; exact ⟨_, rfl, fun _ z => ⟨q.1.1, q.1.2, q.2, z⟩⟩
  · cases h⟩
noncomputable def rIn (x y : PV) : Option RV := match items y with
  | some ps => if plain x && plains ps && decide (deps ps ≤ 50) then some (.fz (.bl (pin x ps))) else none
  | none => none
noncomputable def rNotIn (x y : PV) : Option RV := match items y with
  | some ps => if plain x && plains ps && decide (deps ps ≤ 50) then some (.fz (.bl (!pin x ps))) else none
  | none => none
theorem c_in (hu : X.A.units + 64 < cLine) : CmpR X .In rIn := ⟨_, _, op_inP hu, rf_in, fun x y r h => by
  unfold rIn at h
  split at h
  · next ps e =>
    split at h
    · next q => cases h; rw [Bool.and_eq_true, Bool.and_eq_true, decide_eq_true_eq] at q; refine ⟨_, rfl, fun _ z => ?_⟩; unfold gIn OkS; rw [e]; exact ⟨q.1.1, q.1.2, q.2, z⟩
    · cases h
  · cases h⟩
noncomputable def rIs (x y : PV) : Option RV := match y with
  | .non => some (.fz (.bl (isNon x)))
  | _ => none
noncomputable def rIsNot (x y : PV) : Option RV := match y with
  | .non => some (.fz (.bl (!isNon x)))
  | _ => none
theorem c_is : CmpR X .Is rIs := ⟨_, _, op_isN, rf_isN, fun x y r h => by
  unfold rIs at h
  split at h
  · cases h; exact ⟨_, rfl, fun _ q => q⟩
  · cases h⟩
theorem c_isNot : CmpR X .IsNot rIsNot := ⟨_, _, op_notN, rf_notN, fun x y r h => by
  unfold rIsNot at h
  split at h
  · cases h; exact ⟨_, rfl, fun _ q => q⟩
  · cases h⟩
noncomputable def DB (X : Cx) (e : Expr) (g : FB) : Prop := PuB X e (tBo g)
noncomputable def DW (X : Cx) (e : Expr) (g : FB) : Prop := PuW X e (tBo g)
noncomputable def asB : Option RV → Option Bool
  | some (.fz (.bl b)) => some b
  | _ => none
noncomputable def fT (f : FE) : FB := fun ρ => asB (f ρ)
theorem asB_some {o : Option RV} {b : Bool} (h : asB o = some b) : o = some (.fz (.bl b)) := by
  unfold asB at h
  split at h
  · cases h; rfl
  · cases h
theorem PuB.weak {t t' : PTB} (h : PuB X e t) (w : ∀ ρ Q, t' ρ Q → t ρ Q) : PuB X e t' := PT.weak h fun σ H Q hh_ => hh_.elim fun F ρ Qp er q k => ⟨F, ρ, Qp, er, w ρ Qp q, k⟩
theorem PuW.weak {t t' : PTB} (h : PuW X e t) (w : ∀ ρ Q, t' ρ Q → t ρ Q) : PuW X e t' := PW.weak h fun σ H Q hh_ => hh_.elim fun F ρ Qp er q k => ⟨F, ρ, Qp, er, w ρ Qp q, k⟩
theorem b_cmp {op : CmpOp} {g : PV → PV → Option RV} (hc : CmpR X op g) (ha : DE X a fa) (hb : DE X b fb) (hm : behindInMarks op b = false) : DB X (.Compare a [op] [b] pos) (fT (fOp g fa fb)) := by
  obtain ⟨r, gE, h1, h2, h3⟩ := hc.ok
  refine PuB.weak (pub_cmp h1 h2 ha.tt hb.tt hm) fun ρ Q ⟨z, e, q⟩ => ?_
  obtain ⟨x, y, e1, e2, e3⟩ := bind2 (asB_some e)
  obtain ⟨p, e4, q4⟩ := h3 _ _ _ e3
  cases e4
  exact ⟨x, e1, y, e2, q4 _ q⟩
theorem b_val (h : DE X e f) (hv : ∀ whole, isTrue e X.env whole = (do let v ← whole; standAt e.pos; holding [v] (truthy v)) := by intro _; rfl) : DB X e (fT f) := PuB.weak (pub_val (pt_val h.ee hv)) fun ρ Q ⟨b, e, q⟩ => ⟨_, _, asB_some e, rfl, q⟩
noncomputable def fNotB (g : FB) : FB := fun ρ => (g ρ).map fun b => !b
theorem b_not (h : DB X a ba) : DB X (.UnaryOp .Not a pos) (fNotB ba) := PuB.weak (pub_not h) fun ρ Q ⟨b, e, q⟩ => by
  obtain ⟨b', e1, rfl⟩ := Option.map_eq_some_iff.mp e
  exact ⟨b', e1, q⟩
noncomputable def fAndB (g k : FB) : FB := fun ρ => (g ρ).bind fun b => if b = true then k ρ else some false
noncomputable def fOrB (g k : FB) : FB := fun ρ => (g ρ).bind fun b => if b = true then some true else k ρ
theorem w_and1 (h : DB X a ba) : DW X (.BoolOp .And [a] pos) ba := puw_and1 h
theorem w_or1 (h : DB X a ba) : DW X (.BoolOp .Or [a] pos) ba := puw_or1 h
theorem w_and (ha : DB X a ba) (hb : DW X (.BoolOp .And (b :: rest) pos) bb) : DW X (.BoolOp .And (a :: b :: rest) pos) (fAndB ba bb) := PuW.weak (puw_and ha hb) fun ρ Q ⟨z, e, q⟩ => by
  obtain ⟨x, e1, e2⟩ := Option.bind_eq_some_iff.mp e
  refine ⟨x, e1, ?_⟩
  cases x with
  | true => exact ⟨z, e2, q⟩
  | false => cases e2; exact q
theorem w_or (ha : DB X a ba) (hb : DW X (.BoolOp .Or (b :: rest) pos) bb) : DW X (.BoolOp .Or (a :: b :: rest) pos) (fOrB ba bb) := PuW.weak (puw_or ha hb) fun ρ Q ⟨z, e, q⟩ => by
  obtain ⟨x, e1, e2⟩ := Option.bind_eq_some_iff.mp e
  refine ⟨x, e1, ?_⟩
  cases x with
  | true => cases e2; exact q
  | false => exact ⟨z, e2, q⟩
theorem b_w (h : DW X e ba) : DB X e ba := puw_b h
noncomputable def fFr (f : FE) : FE := fun ρ => (f ρ).bind fun r => r.fr.map .fz
noncomputable def fAndV (f g : FE) : FE := fun ρ => (asB (f ρ)).bind fun b => if b = true then fFr g ρ else some (.fz (.bl false))
noncomputable def fOrV (f g : FE) : FE := fun ρ => (asB (f ρ)).bind fun b => if b = true then some (.fz (.bl true)) else fFr g ρ
theorem fFr_some {ρ : PSt} {r : RV} (h : fFr f ρ = some r) : ∃ p, r = .fz p ∧ tF f ρ (fun x => x = p) := by
  obtain ⟨r', e1, e2⟩ := Option.bind_eq_some_iff.mp h
  obtain ⟨p, e3, rfl⟩ := Option.map_eq_some_iff.mp e2
  exact ⟨p, rfl, r', p, e1, e3, rfl⟩
theorem d_one {op} (h : DE X a f) : DE X (.BoolOp op [a] pos) (fFr f) := .ofE (pu_one h.ee) fun ρ r e => fFr_some e
theorem d_and (ha : DE X a fa) (hb : DE X (.BoolOp .And (b :: rest) pos) fb) : DE X (.BoolOp .And (a :: b :: rest) pos) (fAndV fa fb) := .ofE (pu_and ha.ee hb.ee) fun ρ r e => by
  obtain ⟨x, e1, e2⟩ := Option.bind_eq_some_iff.mp e
  cases x with
  | true =>
    rw [if_pos rfl] at e2
    obtain ⟨p, e3, q⟩ := fFr_some e2
    refine ⟨p, e3, _, _, asB_some e1, rfl, ?_⟩
    exact q
  | false =>
    rw [if_neg Bool.false_ne_true] at e2
    cases e2
    exact ⟨_, rfl, _, _, asB_some e1, rfl, rfl⟩
noncomputable def fNotV (f : FE) : FE := fun ρ => (asB (f ρ)).map fun b => .fz (.bl (!b))
theorem d_not (ha : DE X a fa) : DE X (.UnaryOp .Not a pos) (fNotV fa) := .ofE (pu_not ha.ee) fun ρ r e => by
  obtain ⟨b, e1, rfl⟩ := Option.map_eq_some_iff.mp e
  exact ⟨_, rfl, _, _, asB_some e1, rfl, rfl⟩
noncomputable def fNeg (f : FE) : FE := fun ρ => (f ρ).bind fun r => match r.fr with
  | some (.int i) => some (.fz (.int (-i)))
  | _ => none
theorem d_neg (ha : DE X a fa) : DE X (.UnaryOp .USub a pos) (fNeg fa) := .ofE (pu_neg ha.ee) fun ρ r e => by
  obtain ⟨x, e1, e2⟩ := Option.bind_eq_some_iff.mp e
  split at e2
  · next i e3 => cases e2; exact ⟨_, rfl, x, _, e1, e3, rfl⟩
  · cases e2
noncomputable def fIf (g : FB) (f k : FE) : FE := fun ρ => (g ρ).bind fun b => if b = true then fFr f ρ else fFr k ρ
theorem d_if (hc : DB X c ba) (ha : DE X a fa) (hb : DE X b fb) : DE X (.IfExp c a b pos) (fIf ba fa fb) := .ofE (pu_ifE hc ha.ee hb.ee) fun ρ r e => by
  obtain ⟨x, e1, e2⟩ := Option.bind_eq_some_iff.mp e
  cases x with
  | true =>
    rw [if_pos rfl] at e2
    obtain ⟨p, e3, q⟩ := fFr_some e2
    exact ⟨p, e3, true, e1, q⟩
  | false =>
    rw [if_neg Bool.false_ne_true] at e2
    obtain ⟨p, e3, q⟩ := fFr_some e2
    exact ⟨p, e3, false, e1, q⟩
noncomputable def fCh (g g' : PV → PV → Option RV) (a b c : FE) : FE := fun ρ => (a ρ).bind fun x => (b ρ).bind fun y => (asB (g x.pv y.pv)).bind fun k => if k = true then (c ρ).bind fun z => g' y.pv z.pv else some (.fz (.bl false))
theorem ch_ok {g g' : PV → PV → Option RV} {gE gE' : PG2} (h : ∀ x y r, g x y = some r → ∃ p, r = .fz (.bl p) ∧ ∀ Q : PV → Prop, Q (.bl p) → gE x y Q) (h' : ∀ x y r, g' x y = some r → ∃ p, r = .fz (.bl p) ∧ ∀ Q : PV → Prop, Q (.bl p) → gE' x y Q) {ρ : PSt} {r : RV} (e : fCh g g' fa fb fc ρ = some r) :
    ∃ p, r = .fz (.bl p) ∧ ∀ Q : PV → Prop, Q (.bl p) → pChain gE gE' (tT fa) (tT fb) (tT fc) ρ Q := by
  obtain ⟨x, y, e1, e2, e3⟩ := bind2 e
  obtain ⟨k, e4, e5⟩ := Option.bind_eq_some_iff.mp e3
  obtain ⟨p, e6, q6⟩ := h _ _ _ (asB_some e4)
  cases e6
  cases k with
  | true =>
    rw [if_pos rfl] at e5
    obtain ⟨z, e7, e8⟩ := Option.bind_eq_some_iff.mp e5
    obtain ⟨p, e9, q9⟩ := h' _ _ _ e8
    refine ⟨p, e9, fun Q q => ⟨x, e1, y, e2, q6 _ ?_⟩⟩
    exact ⟨z, e7, q9 _ q⟩
  | false =>
    rw [if_neg Bool.false_ne_true] at e5
    cases e5
    exact ⟨_, rfl, fun Q q => ⟨x, e1, y, e2, q6 _ q⟩⟩
theorem d_ch {op op' : CmpOp} {g g' : PV → PV → Option RV} (h : CmpR X op g) (h' : CmpR X op' g') (ha : DE X a fa) (hb : DE X b fb) (hc : DE X c fc) (hm : lastMarks [op, op'] [b, c] = false := by rfl) : DE X (.Compare a [op, op'] [b, c] pos) (fCh g g' fa fb fc) := by
  obtain ⟨r, gE, h1, h2, h3⟩ := h.ok
  obtain ⟨r', gE', h1', h2', h3'⟩ := h'.ok
  refine .ofE (pu_chain h1 h2 h1' h2' ha.tt hb.tt hc.tt hm) fun ρ r e => ?_
  obtain ⟨p, e1, q⟩ := ch_ok h3 h3' e
  exact ⟨_, e1, q _ rfl⟩
structure DA (X : Cx) (es : List Expr) (fs : FA) : Prop where
  f : PuA X es (tFs fs)
  t : PuAT X es (tTs fs)
noncomputable def fNil : FA := fun _ => some []
noncomputable def fCons (f : FE) (fs : FA) : FA := fun ρ => (f ρ).bind fun r => (fs ρ).bind fun rs => some (r :: rs)
theorem PuA_weak {t t' : PTA} (h : PuA X es t) (w : ∀ ρ Q, t' ρ Q → t ρ Q) : PuA X es t' := PA.weak h fun σ H Q hh_ => hh_.elim fun F ρ Qp er q k => ⟨F, ρ, Qp, er, w ρ Qp q, k⟩
theorem PuAT_weak {t t' : PTA} (h : PuAT X es t) (w : ∀ ρ Q, t' ρ Q → t ρ Q) : PuAT X es t' := PA.weak h fun σ H Q hh_ => hh_.elim fun F ρ Qp er q k => ⟨F, ρ, Qp, er, w ρ Qp q, k⟩
theorem mapM_cons {r : RV} {rs : List RV} {ps : List PV} (h : (r :: rs).mapM RV.fr = some ps) : ∃ p qs, r.fr = some p ∧ rs.mapM RV.fr = some qs ∧ ps = p :: qs := by
  rw [List.mapM_cons] at h
  obtain ⟨p, e1, h⟩ := Option.bind_eq_some_iff.mp h
  obtain ⟨qs, e2, h⟩ := Option.bind_eq_some_iff.mp h
  cases h
  exact ⟨p, qs, e1, e2, rfl⟩
theorem a_nil : DA X [] fNil := ⟨PuA_weak pua_nil fun ρ Q ⟨rs, ps, e, e2, q⟩ => by cases e; cases e2; exact q, PuAT_weak puat_nil fun ρ Q ⟨rs, e, q⟩ => by cases e; exact q⟩
theorem a_cons (hn : NS e) (he : DE X e f) (ht : DA X es fs) : DA X (e :: es) (fCons f fs) := by
  constructor
  · refine PuA_weak (pua_cons hn he.ee ht.f) fun ρ Q ⟨rs, ps, e1, e2, q⟩ => ?_
    obtain ⟨r, e3, e1⟩ := Option.bind_eq_some_iff.mp e1
    obtain ⟨rs', e4, e1⟩ := Option.bind_eq_some_iff.mp e1
    cases e1
    obtain ⟨p, qs, e5, e6, rfl⟩ := mapM_cons e2
    exact ⟨r, p, e3, e5, rs', qs, e4, e6, q⟩
  · refine PuAT_weak (puat_cons hn he.tt ht.t) fun ρ Q ⟨rs, e1, q⟩ => ?_
    obtain ⟨r, e3, e1⟩ := Option.bind_eq_some_iff.mp e1
    obtain ⟨rs', e4, e1⟩ := Option.bind_eq_some_iff.mp e1
    cases e1
    exact ⟨r, e3, rs', e4, q⟩
noncomputable def fTup (fs : FA) : FE := fun ρ => (fs ρ).bind fun rs => (rs.mapM RV.fr).bind fun ps => if ps.length ≤ 100000 then some (.fz (.tup ps)) else none
noncomputable def fLst (fs : FA) : FE := fun ρ => (fs ρ).bind fun rs => (rs.mapM RV.fr).bind fun ps => if ps.length ≤ 100000 then some (.nw ps) else none
theorem d_tup {x1} (h : DA X es fs) : DE X (.Tuple es x1 pos) (fTup fs) := .ofE (pu_tup h.f) fun ρ r e => by
  obtain ⟨rs, e1, e⟩ := Option.bind_eq_some_iff.mp e
  obtain ⟨ps, e2, e⟩ := Option.bind_eq_some_iff.mp e
  split at e
  · next z => cases e; exact ⟨_, rfl, rs, ps, e1, e2, big z, rfl⟩
  · cases e
theorem d_lst (h : DA X es fs) : DE X (.List es pos) (fLst fs) := .ofN (pu_lst h.f) fun ρ r e => by
  obtain ⟨rs, e1, e⟩ := Option.bind_eq_some_iff.mp e
  obtain ⟨ps, e2, e⟩ := Option.bind_eq_some_iff.mp e
  split at e
  · next z => cases e; exact ⟨_, rfl, rs, ps, e1, e2, big z, rfl⟩
  · cases e
noncomputable def rIx : PV → PV → Option RV
  | .str z, .int i => if z.length ≤ 100000 then (L2.atI z.cps.toList i).map fun c => .fz (.str ⟨#[c]⟩) else none
  | p, .int i => (items p).bind fun ps => (L2.atI ps i).map .fz
  | _, _ => none
theorem rIx_ok : ∀ x y r, rIx x y = some r → ∃ p, r = .fz p ∧ gIx x y (fun z => z = p) := fun x y r h => by
  unfold rIx at h
  split at h
  · split at h
    · next z =>
      obtain ⟨c, e1, rfl⟩ := Option.map_eq_some_iff.mp h
      refine ⟨_, rfl, big z, ?_⟩
      rw [e1]; exact rfl
    · cases h
  · next hn =>
    obtain ⟨ps, e1, h⟩ := Option.bind_eq_some_iff.mp h
    obtain ⟨p, e2, rfl⟩ := Option.map_eq_some_iff.mp h
    refine ⟨p, rfl, ?_⟩
    have : ∀ i : Int, L2.atI ps i = some p → OkS x fun ps => OkO (L2.atI ps i) fun z => z = p := fun i ei => by
      unfold OkS; rw [e1]; show OkO (L2.atI ps i) _; rw [ei]; exact rfl
    show OkI (.int _) _
    cases x <;> first | exact this _ e2 | (cases e1)
  · cases h
theorem d_ix (ha : DE X a fa) (hb : DE X b fb) (hs : PlainIx b) : DE X (.Subscript a b pos) (fOp rIx fa fb) := d_op (pu_ix ha.tt hb.tt hs) rIx_ok
noncomputable abbrev FO := PSt → Option (Option Int)
noncomputable def tO (f : FO) : PTO := fun ρ Q => ∃ o, f ρ = some o ∧ Q o
noncomputable def DO (X : Cx) (e : Option Expr) (f : FO) : Prop := PuO X e (tO f)
noncomputable def fNo : FO := fun _ => some none
noncomputable def fPt (f : FE) : FO := fun ρ => (f ρ).bind fun r => match r.fr with
  | some (.int i) => some (some i)
  | _ => none
theorem PuO_weak {o : Option Expr} {t t' : PTO} (h : PuO X o t) (w : ∀ ρ Q, t' ρ Q → t ρ Q) : PuO X o t' := PO.weak h fun σ H Q hh_ => hh_.elim fun F ρ Qp er q k => ⟨F, ρ, Qp, er, w ρ Qp q, k⟩
theorem o_no : DO X none fNo := PuO_weak puo_none fun ρ Q ⟨o, e, q⟩ => by cases e; exact q
theorem o_pt (h : DE X e f) : DO X (some e) (fPt f) := PuO_weak (puo_some h.ee) fun ρ Q ⟨o, e, q⟩ => by
  obtain ⟨r, e1, e2⟩ := Option.bind_eq_some_iff.mp e
  split at e2
  · next i e3 => cases e2; exact ⟨r, _, e1, e3, q⟩
  · cases e2
noncomputable def rSl (p : PV) (l h : Option Int) : Option RV := match p with
  | .lst ps => some (.nw (cut ps l h))
  | .src ps => some (.nw (cut ps l h))
  | .tup ps => if HT.sIx ps.length 0 l = 0 ∧ HT.sIx ps.length ps.length h = ps.length then none else some (.fz (.tup (cut ps l h)))
  | _ => none
noncomputable def fSl (f : FE) (l h : FO) : FE := fun ρ => (f ρ).bind fun r => (l ρ).bind fun lo => (h ρ).bind fun hi => rSl r.pv lo hi
theorem d_sl {lo hi : Option Expr} {fl fh : FO} {p2 : Pos} (ha : DE X a fa) (hl : DO X lo fl) (hh : DO X hi fh) : DE X (.Subscript a (.Slice lo hi none p2) pos) (fSl fa fl fh) := .of2 (pu_slT ha.tt hl hh) (pu_slL ha.tt hl hh) fun ρ r e => by
  obtain ⟨x, e1, e⟩ := Option.bind_eq_some_iff.mp e
  obtain ⟨l, e2, e⟩ := Option.bind_eq_some_iff.mp e
  obtain ⟨h, e3, e⟩ := Option.bind_eq_some_iff.mp e
  unfold rSl at e
  split at e
  · next ps q => cases e; exact .inr ⟨_, rfl, x, e1, l, e2, h, e3, by rw [q]; exact rfl⟩
  · next ps q => cases e; exact .inr ⟨_, rfl, x, e1, l, e2, h, e3, by rw [q]; exact rfl⟩
  · next ps q =>
    split at e
    · cases e
    · next z => cases e; exact .inl ⟨_, rfl, x, e1, l, e2, h, e3, by rw [q]; exact ⟨z, rfl⟩⟩
  · cases e
end
end Dp
end
section
namespace Dp
open PySem PySem.Spec L2 Pu
section
variable {X : Cx} {e a b c tg iter : Expr} {es rest : List Expr} {pos : Pos} {f fa fb fc : FE} {fs : FA} {i : Nat} {ba bb : FB}
noncomputable def fB (g : List PV → Option RV) (fs : FA) : FE := fun ρ => (fs ρ).bind fun rs => g (rs.map RV.pv)
theorem d_cb {r : List V → Hp → VK → Prop} {g0 : PGC} {g : List PV → Option RV} (hr : RefC X.K r g0) (w : ∀ ps r, g ps = some r → ∃ p, r = .fz p ∧ g0 ps (fun z => z = p)) (h : PE X e (tCB r (lAT X.K (tTs fs)))) : DE X e (fB g fs) := .ofE (pu_cb hr h) fun ρ r e => by
  obtain ⟨rs, e1, e2⟩ := Option.bind_eq_some_iff.mp e
  obtain ⟨p, rfl, q⟩ := w _ _ e2
  exact ⟨p, rfl, rs, e1, q⟩
noncomputable def kLen : List PV → Option RV
  | [.str z] => if z.length ≤ 100000 then some (.fz (.int z.length)) else none
  | [p] => (items p).map fun ps => .fz (.int ps.length)
  | _ => none
theorem kLen_ok : ∀ ps r, kLen ps = some r → ∃ p, r = .fz p ∧ cLen ps (fun z => z = p) := fun ps r h => by
  unfold kLen at h
  split at h
  · split at h
    · next z => cases h; exact ⟨_, rfl, big z, rfl⟩
    · cases h
  · next p hp =>
    obtain ⟨qs, e1, rfl⟩ := Option.map_eq_some_iff.mp h
    refine ⟨_, rfl, ?_⟩
    have : OkS p fun ps => PV.int ps.length = PV.int qs.length := by unfold OkS; rw [e1]
    show One [p] _
    cases p <;> first | exact this | (cases e1)
  · cases h
noncomputable def kAbs : List PV → Option RV
  | [.int i] => some (.fz (.int (if i < 0 then -i else i)))
  | _ => none
theorem kAbs_ok : ∀ ps r, kAbs ps = some r → ∃ p, r = .fz p ∧ cAbs ps (fun z => z = p) := fun ps r h => by
  unfold kAbs at h
  split at h
  · cases h; exact ⟨_, rfl, rfl⟩
  · cases h
noncomputable def kMax2 : List PV → Option RV
  | [.int i, .int j] => some (.fz (.int (if j > i then j else i)))
  | _ => none
noncomputable def kMin2 : List PV → Option RV
  | [.int i, .int j] => some (.fz (.int (if j < i then j else i)))
  | _ => none
theorem kMin2_ok : ∀ ps r, kMin2 ps = some r → ∃ p, r = .fz p ∧ cMin2 ps (fun z => z = p) := fun ps r h => by
  unfold kMin2 at h
  split at h
  · cases h; exact ⟨_, rfl, rfl⟩
  · cases h
noncomputable def kInt : List PV → Option RV
  | [.int i] => some (.fz (.int i))
  | [.bl b] => some (.fz (.int (if b then 1 else 0)))
  | _ => none
theorem kInt_ok : ∀ ps r, kInt ps = some r → ∃ p, r = .fz p ∧ cInt ps (fun z => z = p) := fun ps r h => by
  unfold kInt at h
  split at h
  · cases h; exact ⟨_, rfl, rfl⟩
  · cases h; exact ⟨_, rfl, rfl⟩
  · cases h
noncomputable def bls : List PV → Option (List Bool)
  | [] => some []
  | .bl b :: ps => (bls ps).map fun bs => b :: bs
  | _ => none
theorem bls_ok : ∀ {ps : List PV} {bs : List Bool}, bls ps = some bs → ps = bs.map PV.bl := fun {ps} => by
  induction ps with
  | nil => intro bs h; cases h; rfl
  | cons p ps ih =>
    intro bs h
    cases p <;> first | (cases h; done) | skip
    obtain ⟨bs', e1, rfl⟩ := Option.map_eq_some_iff.mp h
    rw [ih e1]; rfl
noncomputable def lstOf : PV → Option (List PV)
  | .lst ps => some ps
  | .src ps => some ps
  | _ => none
noncomputable def kAll : List PV → Option RV
  | [p] => (lstOf p).bind fun ps => (bls ps).map fun bs => .fz (.bl (bs.all id))
  | _ => none
noncomputable def kAny : List PV → Option RV
  | [p] => (lstOf p).bind fun ps => (bls ps).map fun bs => .fz (.bl (bs.any id))
  | _ => none
theorem lstOf_ok {p : PV} {ps : List PV} {Q : List PV → Prop} (h : lstOf p = some ps) (q : Q ps) : OkL p Q := by
  cases p <;> first | (cases h; done) | (cases h; exact q)
theorem kAll_ok : ∀ ps r, kAll ps = some r → ∃ p, r = .fz p ∧ cAll ps (fun z => z = p) := fun ps r h => by
  unfold kAll at h
  split at h
  · obtain ⟨qs, e1, h⟩ := Option.bind_eq_some_iff.mp h
    obtain ⟨bs, e2, rfl⟩ := Option.map_eq_some_iff.mp h
    refine ⟨_, rfl, lstOf_ok e1 ?_⟩
    rw [bls_ok e2, OkBs_map]
  · cases h
theorem kAny_ok : ∀ ps r, kAny ps = some r → ∃ p, r = .fz p ∧ cAny ps (fun z => z = p) := fun ps r h => by
  unfold kAny at h
  split at h
  · obtain ⟨qs, e1, h⟩ := Option.bind_eq_some_iff.mp h
    obtain ⟨bs, e2, rfl⟩ := Option.map_eq_some_iff.mp h
    refine ⟨_, rfl, lstOf_ok e1 ?_⟩
    rw [bls_ok e2, OkBs_map]
  · cases h
noncomputable def kTup : List PV → Option RV
  | [.lst ps] => some (.fz (.tup ps))
  | [.tup ps] => some (.fz (.tup ps))
  | [.src ps] => some (.fz (.tup ps))
  | _ => none
theorem kTup_ok : ∀ ps r, kTup ps = some r → ∃ p, r = .fz p ∧ cTup ps (fun z => z = p) := fun ps r h => by
  unfold kTup at h
  split at h
  · cases h; exact ⟨_, rfl, rfl⟩
  · cases h; exact ⟨_, rfl, rfl⟩
  · cases h; exact ⟨_, rfl, rfl⟩
  · cases h
noncomputable def kList : List PV → Option RV
  | [.rng lo j] => if lo = 0 ∧ 0 ≤ j ∧ j ≤ 1000000 then some (.nw (ups 0 j.toNat)) else none
  | [p] => (items p).map .nw
  | _ => none
theorem kLst_ok : ∀ ps r, kList ps = some r → ∃ p, r = .nw p ∧ (cLst ps (fun z => z = p) ∨ cLstR ps (fun z => z = p)) := fun ps r h => by
  unfold kList at h
  split at h
  · split at h
    · next z => cases h; exact ⟨_, rfl, .inr ⟨z.1, z.2.1, z.2.2, rfl⟩⟩
    · cases h
  · next p hp =>
    obtain ⟨qs, e1, rfl⟩ := Option.map_eq_some_iff.mp h
    refine ⟨_, rfl, .inl ?_⟩
    show OkS p _
    unfold OkS; rw [e1]
  · cases h
theorem d_list {x : Str} {p : Pos} (hx : x = "list") (h1 : PE X e (tCB (fun xs H Q => ∃ p ys, xs = [.ref p] ∧ (SqL X.K H p ys ∨ SqT X.K H p ys) ∧ ∀ l, H l = none → Q (.ref l) (upd H l (.lst ys))) (lAT X.K (tTs fs))))
    (h2 : PE X e (tCB (fun xs H Q => ∃ p j, xs = [.ref p] ∧ H p = some (.rng 0 j) ∧ 0 ≤ j ∧ j ≤ 1000000 ∧ ∀ l, H l = none → Q (.ref l) (upd H l (.lst (upTo j.toNat)))) (lAT X.K (tTs fs)))) : DE X e (fB kList fs) := .ofN (PuN_or (pu_cn rc_lst h1) (pu_cn rc_lstR h2)) fun ρ r e => by
  obtain ⟨rs, e1, e2⟩ := Option.bind_eq_some_iff.mp e
  obtain ⟨p, rfl, q⟩ := kLst_ok _ _ e2
  exact ⟨p, rfl, q.elim (fun q => .inl ⟨rs, e1, q⟩) fun q => .inr ⟨rs, e1, q⟩⟩
noncomputable def kRng : List PV → Option RV
  | [.int j] => if -(2 ^ 62) ≤ j ∧ j < 2 ^ 62 then some (.fz (.rng 0 j)) else none
  | _ => none
theorem kRng_ok : ∀ ps r, kRng ps = some r → ∃ p, r = .fz p ∧ cRng ps (fun z => z = p) := fun ps r h => by
  unfold kRng at h
  split at h
  · split at h
    · next z => cases h; exact ⟨_, rfl, z.1, z.2, rfl⟩
    · cases h
  · cases h
noncomputable def kIs : List PV → Option RV
  | [p, .ty n] => if n = "int" ∨ n = "bool" ∨ n = "str" ∨ n = "tuple" ∨ n = "list" ∨ n = "dict" then (isI n p).map fun b => .fz (.bl b) else none
  | _ => none
theorem kIs_ok : ∀ ps r, kIs ps = some r → ∃ p, r = .fz p ∧ cIsI ps (fun z => z = p) := fun ps r h => by
  unfold kIs at h
  split at h
  · split at h
    · next z =>
      obtain ⟨b, e1, rfl⟩ := Option.map_eq_some_iff.mp h
      refine ⟨_, rfl, z, ?_⟩
      rw [e1]; exact rfl
    · cases h
  · cases h
noncomputable def intsOf : List PV → Option (List Int)
  | [] => some []
  | .int i :: ps => (intsOf ps).map fun is => i :: is
  | _ => none
noncomputable def keysOf : List PV → Option (List (List Int))
  | [] => some []
  | .tup qs :: ps => (intsOf qs).bind fun is => if is.isEmpty then none else (keysOf ps).map fun ks => is :: ks
  | _ => none
noncomputable def kSorted : List PV → Option RV
  | [p] => (lstOf p).bind fun ps => (keysOf ps).bind fun ks => if ps.length < 64 then some (.nw ((ordI ks).map fun i => ps.getD i .non)) else none
  | _ => none
mutual
noncomputable def tf : PV → Bool
  | .tup ps => tfs ps
  | p => isFlat p
noncomputable def tfs : List PV → Bool
  | [] => true
  | p :: ps => tf p && tfs ps
end
noncomputable def tfR : PR → Bool
  | .v p => tf p
  | .n ps => tfs ps
noncomputable def withT (F1 F2 : Hp) : Hp := fun b => match F2 b with
  | some (.tup vs) => some (.tup vs)
  | _ => F1 b
mutual
theorem rep_tf {K : PySem.W.Frag} {F1 F2 : Hp} : ∀ {p : PV} {v : V}, tf p = true → Rep K F2 p v → Rep K (withT F1 F2) p v
  | .tup ps, v, h, ⟨a, vs, e, h1, h2⟩ => by
    rw [tf] at h
    refine ⟨a, vs, e, ?_, reps_tf h h2⟩
    unfold withT; rw [h1]
  | .non, _, _, r => r
  | .bl _, _, _, r => r
  | .int _, _, _, r => r
  | .str _, _, _, r => r
  | .ty _, _, _, r => r
  | .fn _, _, _, r => r
  | .lst _, _, h, _ => by cases h
  | .dct _ _, _, h, _ => by cases h
  | .src _, _, h, _ => by cases h
  | .ktu _, _, h, _ => by cases h
  | .rng _ _, _, h, _ => by cases h
theorem reps_tf {K : PySem.W.Frag} {F1 F2 : Hp} : ∀ {ps : List PV} {vs : List V}, tfs ps = true → Reps K F2 ps vs → Reps K (withT F1 F2) ps vs
  | [], _, _, r => r
  | p :: ps, _, h, ⟨v, t, e, r1, r2⟩ => by
    rw [tfs, Bool.and_eq_true] at h
    exact ⟨v, t, e, rep_tf h.1 r1, reps_tf h.2 r2⟩
end
theorem grow_T {F1 H1 F2 H2 : Hp} (s : Same F1 H1) (g : Grow H1 H1 F2 H2) : Grow F1 H1 (withT F1 F2) H2 := by
  refine ⟨g.hh, fun b o e => ?_, fun b o e => ?_, fun b o e => ?_⟩
  · have h2 := g.ff b o (s b o e)
    unfold withT
    cases o <;> rw [h2] <;> first | rfl | exact e
  · unfold withT at e
    split at e
    · next vs h => rw [← e]; exact g.fh b _ h
    · exact g.hh b o (s b o e)
  · unfold withT at e
    split at e
    · cases e; exact .inr (.inr ⟨_, rfl⟩)
    · exact .inl e
theorem withT_none {F1 F2 : Hp} {a : Addr} (h1 : F1 a = none) (h2 : F2 a = none) : withT F1 F2 a = none := by unfold withT; rw [h2]; exact h1
noncomputable def pCallT2 (φ : PSp) (t : PTA) : PTE := fun ρ Q => t ρ fun ps => φ ps fun r => tfR r = true ∧ Q r.pv
noncomputable def pCallTN2 (φ : PSp) (t : PTA) : PTN := fun ρ Q => t ρ fun ps => φ ps fun r => tfR r = true ∧ OkN r Q
theorem pu_callT2 {φ : PSp} {t : PTA} (h : PE X e (tCall (spP X.K φ) [] E0 (lAT X.K t))) : PuE X e (pCallT2 φ t) := PE.weak h fun σ H Q hh_ => hh_.elim fun F ρ Qp er q k => ⟨F, ρ, _, er, q, fun ps vs F1 H1 h1 g1 r1 => by
  show spP X.K φ (vs ++ []) H1 Q E0
  rw [List.append_nil]
  refine ⟨H1, ps, _, Same.refl _, r1.all g1.fh, h1, fun r v F2 H2 h2 g2 rr => ?_⟩
  have gk := grow_T g1.fh g2
  cases r with
  | v p => exact k p _ _ H2 h2.2 (g1.trans gk) (rep_tf h2.1 rr)
  | n ps =>
    obtain ⟨a, vs, rfl, h0, hF, hH, rs⟩ := rr
    have hF1 := withT_none (g1.fh.free h0) hF
    exact k (.lst ps) _ _ H2 h2.2 ((g1.trans gk).freeze (g1.hh.free h0) hF1 hH) ⟨a, vs, rfl, upd_same, (reps_tf h2.1 rs).mono (same_new hF1 _)⟩⟩
theorem pu_callTN2 {φ : PSp} {t : PTA} (h : PE X e (tCall (spP X.K φ) [] E0 (lAT X.K t))) : PuN X e (pCallTN2 φ t) := PE.weak h fun σ H Q hh_ => hh_.elim fun F ρ Qp er q k => ⟨F, ρ, _, er, q, fun ps vs F1 H1 h1 g1 r1 => by
  show spP X.K φ (vs ++ []) H1 Q E0
  rw [List.append_nil]
  refine ⟨H1, ps, _, Same.refl _, r1.all g1.fh, h1, fun r v F2 H2 h2 g2 rr => ?_⟩
  have gk := grow_T g1.fh g2
  cases r with
  | v p => exact h2.2.elim
  | n ps =>
    obtain ⟨a, vs, rfl, h0, hF, hH, rs⟩ := rr
    exact k ps a vs _ H2 h2.2 (g1.trans gk) (g1.hh.free h0) (withT_none (g1.fh.free h0) hF) hH (reps_tf h2.1 rs)⟩
noncomputable def fnP (F : List PV → Option PR) : PSp := fun qs Q => ∃ r, F qs = some r ∧ Q r
noncomputable def rvOf : PR → RV
  | .v p => .fz p
  | .n ps => .nw ps
noncomputable def fCall (F : List PV → Option PR) (fs : FA) : FE := fun ρ => (fs ρ).bind fun rs => match rs.mapM RV.fr with
  | some ps => (F ps).map rvOf
  | none => (F (rs.map RV.pv)).bind fun r => if tfR r = true then some (rvOf r) else none
theorem d_call {F : List PV → Option PR} (h1 : PE X e (tCall (spP X.K (fnP F)) [] E0 (lA X.K (tFs fs)))) (h2 : PE X e (tCall (spP X.K (fnP F)) [] E0 (lAT X.K (tTs fs)))) : DE X e (fCall F fs) :=
  .of2 (PuE_or (pu_call h1) (pu_callT2 h2)) (PuN_or (pu_callN h1) (pu_callTN2 h2)) fun ρ r e => by
    obtain ⟨rs, e1, e2⟩ := Option.bind_eq_some_iff.mp e
    split at e2
    · next ps ep =>
      obtain ⟨q, e3, rfl⟩ := Option.map_eq_some_iff.mp e2
      cases q with
      | v p => exact .inl ⟨p, rfl, .inl ⟨rs, ps, e1, ep, .v p, e3, rfl⟩⟩
      | n qs => exact .inr ⟨qs, rfl, .inl ⟨rs, ps, e1, ep, .n qs, e3, rfl⟩⟩
    · obtain ⟨q, e3, e4⟩ := Option.bind_eq_some_iff.mp e2
      split at e4
      · next hf =>
        cases e4
        cases q with
        | v p => exact .inl ⟨p, rfl, .inr ⟨rs, e1, .v p, e3, hf, rfl⟩⟩
        | n qs => exact .inr ⟨qs, rfl, .inr ⟨rs, e1, .n qs, e3, hf, rfl⟩⟩
      · cases e4
noncomputable def DI (X : Cx) (tg iter : Expr) (f : FI) : Prop := PuI X tg iter (tIt f)
theorem PuI_weak {t t' : PTI} (h : PuI X tg iter t) (w : ∀ ρ Q, t' ρ Q → t ρ Q) : PuI X tg iter t' := PI.weak h fun σ H Q hh_ => hh_.elim fun F ρ Qp er q k => ⟨F, ρ, Qp, er, w ρ Qp q, k⟩
theorem PuI_or {t u : PTI} (h : PuI X tg iter t) (h' : PuI X tg iter u) : PuI X tg iter (fun ρ Q => t ρ Q ∨ u ρ Q) := fun pins s σ H Q I hh_ => hh_.elim fun F ρ Qp er q k => q.elim (fun q => h pins s σ H Q I ⟨F, ρ, Qp, er, q, k⟩) fun q => h' pins s σ H Q I ⟨F, ρ, Qp, er, q, k⟩
noncomputable def fIt (f : FE) : FI := fun ρ => (f ρ).bind fun r => r.fr.bind items
theorem i_seq (h : DE X iter f) : DI X tg iter (fIt f) := PuI_weak (PuI_or (pui_list h.ee) (pui_tup h.ee)) fun ρ Q ⟨its, e, q⟩ => by
  obtain ⟨r, e1, e⟩ := Option.bind_eq_some_iff.mp e
  obtain ⟨p, e2, e⟩ := Option.bind_eq_some_iff.mp e
  cases p <;> first | (cases e; done) | skip
  · cases e; exact .inr ⟨r, _, e1, e2, q⟩
  · cases e; exact .inl ⟨r, _, e1, e2, q⟩
  · cases e; exact .inl ⟨r, _, e1, e2, q⟩
  · cases e; exact .inr ⟨r, _, e1, e2, q⟩
noncomputable def okI (i : Int) : Bool := decide (-(2 ^ 62) ≤ i) && decide (i < 2 ^ 62)
noncomputable def rng1 : List PV → Option (List PV)
  | [.int j] => if okI j then some (ups 0 j.toNat) else none
  | _ => none
noncomputable def fRng (g : List PV → Option (List PV)) (fs : FA) : FI := fun ρ => (fs ρ).bind fun rs => g (rs.map RV.pv)
theorem okI_ok {i : Int} (h : okI i = true) : -(2 ^ 62) ≤ i ∧ i < 2 ^ 62 := by
  unfold okI at h
  rw [Bool.and_eq_true, decide_eq_true_eq, decide_eq_true_eq] at h
  exact h
theorem i_rng1 (h : PI X tg iter (iRng1 (lAT X.K (tTs fs)))) : DI X tg iter (fRng rng1 fs) := PuI_weak (pui_rng1 h) fun ρ Q ⟨its, e, q⟩ => by
  obtain ⟨rs, e1, e⟩ := Option.bind_eq_some_iff.mp e
  refine ⟨rs, e1, ?_⟩
  unfold rng1 at e
  split at e
  · next j ej =>
    split at e
    · next z => cases e; rw [ej]; exact ⟨(okI_ok z).1, (okI_ok z).2, q⟩
    · cases e
  · cases e
noncomputable def fEnum (fs : FA) : FI := fun ρ => (fs ρ).bind fun rs => (rs.mapM RV.fr).bind fun ps => match ps with
  | [p] => (lstOf p).map (enumP 0)
  | _ => none
noncomputable abbrev FT := PV → PSt → Option PSt
noncomputable abbrev FTs := List PV → PSt → Option PSt
noncomputable def qT (t : FT) : PTG := fun p ρ Q => ∃ ρ', t p ρ = some ρ' ∧ Q ρ'
noncomputable def qTs (t : FTs) : PTGs := fun p ρ Q => ∃ ρ', t p ρ = some ρ' ∧ Q ρ'
noncomputable def gN (i : Nat) : FT := fun p ρ => some (ρ.set i (some (.val p)))
noncomputable def g0 : FTs := fun ps ρ => match ps with
  | [] => some ρ
  | _ => none
noncomputable def gC (t : FT) (ts : FTs) : FTs := fun ps ρ => match ps with
  | p :: ps => (t p ρ).bind fun ρ' => ts ps ρ'
  | [] => none
theorem GRef_weak {K : PySem.W.Frag} {g0 : TG} {g g' : PTG} (h : GRef K g0 g) (w : ∀ p ρ Q, g' p ρ Q → g p ρ Q) : GRef K g0 g' := fun F H σ ρ p v Qp Q s r q k => h F H σ ρ p v Qp Q s r (w p ρ Qp q) k
theorem GRefs_weak {K : PySem.W.Frag} {g0 : TGs} {g g' : PTGs} (h : GRefs K g0 g) (w : ∀ p ρ Q, g' p ρ Q → g p ρ Q) : GRefs K g0 g' := fun F H σ ρ p v Qp Q s r q k => h F H σ ρ p v Qp Q s r (w p ρ Qp q) k
theorem r_name {K : PySem.W.Frag} {i : Nat} : GRef K (gName i) (qT (gN i)) := GRef_weak gr_name fun p ρ Q ⟨ρ', e, q⟩ => by cases e; exact q
theorem r_nil {K : PySem.W.Frag} : GRefs K gNil (qTs g0) := GRefs_weak gr_nil fun ps ρ Q ⟨ρ', e, q⟩ => by
  cases ps with
  | nil => cases e; exact q
  | cons => cases e
theorem r_cons {K : PySem.W.Frag} {h0 : TG} {t : FT} {hs0 : TGs} {ts : FTs} (h1 : GRef K h0 (qT t)) (h2 : GRefs K hs0 (qTs ts)) : GRefs K (gCons h0 hs0) (qTs (gC t ts)) := GRefs_weak (gr_cons h1 h2) fun ps ρ Q ⟨ρ', e, q⟩ => by
  cases ps with
  | nil => cases e
  | cons p ps =>
    obtain ⟨ρ2, e1, e2⟩ := Option.bind_eq_some_iff.mp e
    exact ⟨ρ2, e1, ρ', e2, q⟩
noncomputable def gTn (n : Nat) (ts : FTs) : FT := fun p ρ => match p with
  | .tup ps => if ps.length = n then ts ps ρ else none
  | _ => none
theorem r_tup {K : PySem.W.Frag} {n : Nat} {hs0 : TGs} {ts : FTs} (h : GRefs K hs0 (qTs ts)) : GRef K (gTup K n hs0) (qT (gTn n ts)) := GRef_weak (gr_tup h) fun p ρ Q ⟨ρ', e, q⟩ => by
  unfold gTn at e
  split at e
  · split at e
    · next z => exact ⟨z, ρ', e, q⟩
    · cases e
  · cases e
noncomputable def goF (t : FT) (c : FB) (f : FE) (ρ : PSt) : List PV → Option (List PV)
  | [] => some []
  | p :: ps => (t p ρ).bind fun ρ2 => (c ρ2).bind fun b => if b = true then (f ρ2).bind fun r => r.fr.bind fun q => (goF t c f ρ ps).map fun qs => q :: qs else goF t c f ρ ps
noncomputable def fComp (fm : List (Option Nat)) (it : FI) (t : FT) (c : FB) (f : FE) : FE := fun ρ => (it ρ).bind fun its => if its.length < 1000 then (goF t c f (subρ fm ρ) its).map .nw else none
noncomputable def fYes : FB := fun _ => some true
theorem go_ok {t : FT} {c : FB} {ρ : PSt} : ∀ {its qs acc : List PV} {Q : List PV → Prop}, goF t c f ρ its = some qs → Q (acc ++ qs) → pGo (qT t) (tBo c) (tF f) ρ its acc Q := fun {its} => by
  induction its with
  | nil => intro qs acc Q e q; cases e; rw [List.append_nil] at q; exact q
  | cons p ps ih =>
    intro qs acc Q e q
    rw [goF] at e
    obtain ⟨ρ2, e1, e⟩ := Option.bind_eq_some_iff.mp e
    obtain ⟨b, e2, e⟩ := Option.bind_eq_some_iff.mp e
    refine ⟨ρ2, e1, b, e2, ?_⟩
    cases b with
    | true =>
      rw [if_pos rfl] at e ⊢
      obtain ⟨r, e3, e⟩ := Option.bind_eq_some_iff.mp e
      obtain ⟨y, e4, e⟩ := Option.bind_eq_some_iff.mp e
      obtain ⟨ys, e5, rfl⟩ := Option.map_eq_some_iff.mp e
      exact ⟨r, y, e3, e4, ih e5 (by rw [List.append_assoc]; exact q)⟩
    | false =>
      rw [if_neg Bool.false_ne_true] at e ⊢
      exact ih e q
theorem comp_ok {fm : List (Option Nat)} {it : FI} {t : FT} {c : FB} {ρ : PSt} {r : RV} (e : fComp fm it t c f ρ = some r) : ∃ ps, r = .nw ps ∧ pComp fm (tIt it) (qT t) (tBo c) (tF f) ρ (fun x => x = ps) := by
  obtain ⟨its, e1, e⟩ := Option.bind_eq_some_iff.mp e
  split at e
  · next z =>
    obtain ⟨ps, e2, rfl⟩ := Option.map_eq_some_iff.mp e
    exact ⟨ps, rfl, its, e1, z, go_ok e2 rfl⟩
  · cases e
noncomputable def DIf (X : Cx) (ifs : List Expr) (c : FB) : Prop := PuIf X ifs (tBo c)
theorem if_nil : DIf X [] fYes := PIf.weak puif_nil fun σ H Q hh_ => hh_.elim fun F ρ Qp er ⟨b, e, q⟩ k => by cases e; exact ⟨F, ρ, Qp, er, q, k⟩
theorem d_comp {fm : List (Option Nat)} {it : FI} {h0 : TG} {t : FT} {c : FB} (hg : GRef X.K h0 (qT t)) (h : PE X e (tComp fm (lI X.K (tIt it)) h0 (lB X.K (tBo c)) (lE X.K (tF f)))) : DE X e (fComp fm it t c f) := .ofN (pu_comp (K := X.K) hg h) fun ρ r e => comp_ok e
end
end Dp
end
section
namespace Dp
open PySem PySem.Spec L2 Pu
inductive Out where
  | nx (ρ : PSt) | bk (ρ : PSt) | ct (ρ : PSt) | rt (p : PV) | rn (ps : List PV) | bad
noncomputable abbrev FS := PSt → Out
noncomputable def Out.sat (D : PEnds) : Out → Prop
  | .nx ρ => D.nx ρ
  | .bk ρ => D.bk ρ
  | .ct ρ => D.ct ρ
  | .rt p => D.rt p
  | .rn ps => D.rn ps
  | .bad => False
noncomputable def fnS (f : FS) : PTS := fun D ρ => (f ρ).sat D
noncomputable def DS (X : Cx) (st : Stmt) (f : FS) : Prop := PuS X st (fnS f)
noncomputable def DSs (X : Cx) (st : List Stmt) (f : FS) : Prop := PuSs X st (fnS f)
section
variable {X : Cx} {e a b c tg iter : Expr} {es : List Expr} {st : Stmt} {rest : List Stmt} {pos : Pos} {f fa fb : FE} {fs : FA} {s u : FS} {i j : Nat} {ba : FB}
theorem PuS_weak {t t' : PTS} (h : PuS X st t) (w : ∀ D ρ, t' D ρ → t D ρ) : PuS X st t' := PS.weak h fun D σ H hh_ => hh_.elim fun F0 H0 F ρ Dp br q ft => ⟨F0, H0, F, ρ, Dp, br, w Dp ρ q, ft⟩
theorem PuSs_weak {t t' : PTS} (h : PuSs X rest t) (w : ∀ D ρ, t' D ρ → t D ρ) : PuSs X rest t' := PSs.weak h fun D σ H hh_ => hh_.elim fun F0 H0 F ρ Dp br q ft => ⟨F0, H0, F, ρ, Dp, br, w Dp ρ q, ft⟩
theorem PuS_or {t t' : PTS} (h : PuS X st t) (h' : PuS X st t') : PuS X st (fun D ρ => t D ρ ∨ t' D ρ) := fun pins s σ H D I hh_ => hh_.elim fun F0 H0 F ρ Dp br q ft => q.elim (fun q => h pins s σ H D I ⟨F0, H0, F, ρ, Dp, br, q, ft⟩) fun q => h' pins s σ H D I ⟨F0, H0, F, ρ, Dp, br, q, ft⟩
noncomputable def sSkip : FS := fun ρ => .nx ρ
noncomputable def sBad : FS := fun _ => .bad
noncomputable def sBk : FS := fun ρ => .bk ρ
noncomputable def sCt : FS := fun ρ => .ct ρ
noncomputable def sSeq (s u : FS) : FS := fun ρ => match s ρ with
  | .nx ρ' => u ρ'
  | o => o
theorem s_nil : DSs X [] sSkip := puss_nil
theorem s_one (h : DS X st s) : DSs X [st] s := puss_one h
theorem s_cons (h1 : DS X st s) (h2 : DSs X rest u) : DSs X (st :: rest) (sSeq s u) := PuSs_weak (puss_cons h1 h2) fun D ρ q => by
  unfold fnS sSeq at q
  unfold pSeq fnS
  cases e : s ρ with
  | nx ρ' => rw [e] at q; exact q
  | _ => rw [e] at q; exact q
theorem s_bad : DS X st sBad := PuS_weak pus_never fun D ρ q => q
noncomputable def sDrop (f : FE) : FS := fun ρ => match f ρ with
  | some (.fz _) => .nx ρ
  | _ => .bad
theorem s_expr (h : PS X st (tDrop (lE X.K (tF f)))) : DS X st (sDrop f) := PuS_weak (pus_expr h) fun D ρ q => by
  unfold fnS sDrop at q
  split at q
  · next p e => exact ⟨_, _, e, rfl, q⟩
  · exact q.elim
noncomputable def sRet (f : FE) : FS := fun ρ => match f ρ with
  | some (.fz p) => .rt p
  | some (.nw ps) => .rn ps
  | _ => .bad
theorem s_ret (h : DE X e f) : DS X (.Return (some e) pos) (sRet f) := PuS_weak (PuS_or (pus_ret h.ee) (pus_retN h.nn)) fun D ρ q => by
  unfold fnS sRet at q
  split at q
  · next p e => exact .inl ⟨_, _, e, rfl, q⟩
  · next p e => exact .inr ⟨_, e, q⟩
  · exact q.elim
noncomputable def sRetV (i : Nat) : FS := fun ρ => match sl ρ i with
  | some (.val p) => .rt p
  | some (.own ps) => .rn ps
  | _ => .bad
theorem s_retV (h : PE X e (tVar i)) : DS X (.Return (some e) pos) (sRetV i) := PuS_weak (PuS_or (pus_ret (d_v h).ee) (pus_retO h)) fun D ρ q => by
  unfold fnS sRetV at q
  split at q
  · next p e => exact .inl ⟨.fz p, p, by unfold fV; rw [e]; rfl, rfl, q⟩
  · next p e => refine .inr ?_; unfold pRetO go; rw [sl_some e]; exact q
  · exact q.elim
noncomputable def sIf (g : FB) (s u : FS) : FS := fun ρ => match g ρ with
  | some true => s ρ
  | some false => u ρ
  | none => .bad
theorem s_if {sa sb : List Stmt} (hc : DB X c ba) (ha : DSs X sa s) (hb : DSs X sb u) : DS X (.If c sa sb pos) (sIf ba s u) := PuS_weak (pus_if hc ha hb) fun D ρ q => by
  unfold fnS sIf at q
  split at q
  · next e => exact ⟨true, e, q⟩
  · next e => exact ⟨false, e, q⟩
  · exact q.elim
noncomputable def sSet (i : Nat) (f : FE) : FS := fun ρ => match (f ρ).bind RV.fr with
  | some p => .nx (ρ.set i (some (.val p)))
  | none => .bad
theorem s_set (h : PS X st (tAsg (lE X.K (tF f)) (gName i))) : DS X st (sSet i f) := PuS_weak (pus_set h) fun D ρ q => by
  unfold fnS sSet at q
  split at q
  · next p e =>
    obtain ⟨r, e1, e2⟩ := Option.bind_eq_some_iff.mp e
    exact ⟨r, p, e1, e2, q⟩
  · exact q.elim
noncomputable def sOwn (i : Nat) (f : FE) : FS := fun ρ => match f ρ with
  | some (.fz p) => .nx (ρ.set i (some (.val p)))
  | some (.nw ps) => .nx (ρ.set i (some (.own ps)))
  | _ => .bad
theorem s_own (h : PS X st (tAsg (lE X.K (tF f)) (gName i))) (h' : PS X st (tAsg (lN X.K (tN f)) (gName i))) : DS X st (sOwn i f) := PuS_weak (PuS_or (pus_set h) (pus_setN h')) fun D ρ q => by
  unfold fnS sOwn at q
  split at q
  · next p e => exact .inl ⟨_, _, e, rfl, q⟩
  · next p e => exact .inr ⟨_, e, q⟩
  · exact q.elim
noncomputable def sAsg (f : FE) (t : FT) : FS := fun ρ => match (f ρ).bind RV.fr with
  | some p => match t p ρ with
    | some ρ' => .nx ρ'
    | none => .bad
  | none => .bad
theorem s_asg {h0 : TG} {t : FT} (hg : GRef X.K h0 (qT t)) (h : PS X st (tAsg (lE X.K (tF f)) h0)) : DS X st (sAsg f t) := PuS_weak (pus_asg hg h) fun D ρ q => by
  unfold fnS sAsg at q
  split at q
  · next p e =>
    obtain ⟨r, e1, e2⟩ := Option.bind_eq_some_iff.mp e
    split at q
    · next ρ' e3 => exact ⟨r, p, e1, e2, ρ', e3, q⟩
    · exact q.elim
  · exact q.elim
noncomputable def sPar (i j : Nat) (fs : FA) : FS := fun ρ => match (fs ρ).bind fun rs => rs.mapM RV.fr with
  | some [p, q] => .nx ((ρ.set i (some (.val p))).set j (some (.val q)))
  | _ => .bad
theorem s_par (h : PS X st (tPar i j (lA X.K (tFs fs)))) : DS X st (sPar i j fs) := PuS_weak (pus_par h) fun D ρ q => by
  unfold fnS sPar at q
  split at q
  · next p p' e =>
    obtain ⟨r, e1, e2⟩ := Option.bind_eq_some_iff.mp e
    exact ⟨r, _, e1, e2, q⟩
  · exact q.elim
noncomputable def sFrz (i : Nat) (s : FS) : FS := fun ρ => s (frz i ρ)
noncomputable def sAug (g : Int → Int → Int) (i : Nat) (f : FE) : FS := fun ρ => match sl ρ i, (f ρ).bind RV.fr with
  | some (.val (.int a)), some (.int b) => .nx (ρ.set i (some (.val (.int (g a b)))))
  | _, _ => .bad
noncomputable def sApp (i : Nat) (fs : FA) : FS := fun ρ => match sl ρ i, (fs ρ).bind fun rs => rs.mapM RV.fr with
  | some (.own ps), some [q] => if ps.length ≤ 100000 then .nx (ρ.set i (some (.own (ps ++ [q])))) else .bad
  | _, _ => .bad
theorem s_app (h : PS X st (tDrop (tBM X.K "list" rAppend (tVar i) (lA X.K (tFs fs))))) : DS X st (sApp i fs) := PuS_weak (pus_app h) fun D ρ q => by
  unfold fnS sApp at q
  split at q
  · next ps p e1 e2 =>
    obtain ⟨r, e3, e4⟩ := Option.bind_eq_some_iff.mp e2
    unfold pApp go
    rw [sl_some e1]
    split at q
    · next z => exact ⟨r, _, e3, e4, bigl z, q⟩
    · exact q.elim
  · exact q.elim
noncomputable def sPut (j : Nat) (fi f : FE) : FS := fun ρ => match (f ρ).bind RV.fr, sl ρ j, (fi ρ).bind RV.fr with
  | some v, some (.own ps), some (.int k) => match ixN ps.length k with
    | some n => .nx (ρ.set j (some (.own (ps.set n v))))
    | none => .bad
  | _, _, _ => .bad
theorem s_put {fi : FE} (h : PS X st (tAsg (lE X.K (tF f)) (L2.gSub (tVar j) (lE X.K (tF fi)) rSetL))) : DS X st (sPut j fi f) := PuS_weak (pus_setIx h) fun D ρ q => by
  unfold fnS sPut at q
  split at q
  · next v ps k e1 e2 e3 =>
    obtain ⟨r, e4, e5⟩ := Option.bind_eq_some_iff.mp e1
    obtain ⟨r', e6, e7⟩ := Option.bind_eq_some_iff.mp e3
    split at q
    · next n en =>
      refine ⟨r, v, e4, e5, ?_⟩
      unfold go
      rw [sl_some e2]
      refine ⟨r', _, e6, e7, ?_⟩
      show OkO (ixN ps.length k) _
      rw [en]
      exact q
    · exact q.elim
  · exact q.elim
noncomputable def loopF (t : FT) (s : FS) : List PV → PSt → Out
  | [], ρ => .nx ρ
  | p :: ps, ρ => match t p ρ with
    | some ρ1 => match s ρ1 with
      | .nx ρ2 => loopF t s ps ρ2
      | .ct ρ2 => loopF t s ps ρ2
      | .bk ρ2 => .nx ρ2
      | o => o
    | none => .bad
noncomputable def sFor (it : FI) (t : FT) (s : FS) : FS := fun ρ => match it ρ with
  | some its => loopF t s its ρ
  | none => .bad
theorem loop_ok {t : FT} {D : PEnds} : ∀ {its : List PV} {ρ : PSt}, (loopF t s its ρ).sat D → pLoop (qT t) (fnS s) D its ρ := fun {its} => by
  induction its with
  | nil => intro ρ q; exact q
  | cons p ps ih =>
    intro ρ q
    rw [loopF] at q
    split at q
    · next ρ1 e1 =>
      refine ⟨ρ1, e1, ?_⟩
      show (s ρ1).sat _
      cases e2 : s ρ1 with
      | nx ρ2 => rw [e2] at q; exact ih q
      | ct ρ2 => rw [e2] at q; exact ih q
      | bk ρ2 => rw [e2] at q; exact q
      | rt _ => rw [e2] at q; exact q
      | rn _ => rw [e2] at q; exact q
      | bad => rw [e2] at q; exact q
    · exact q.elim
theorem s_for {it : FI} {h0 : TG} {t : FT} (hg : GRef X.K h0 (qT t)) (h : PS X st (tFor (lI X.K (tIt it)) h0 (lS X.K (fnS s)))) : DS X st (sFor it t s) := PuS_weak (pus_for hg h) fun D ρ q => by
  unfold fnS sFor at q
  split at q
  · next its e => exact ⟨its, e, loop_ok q⟩
  · exact q.elim
noncomputable def whileF (c : FB) (s : FS) : Nat → PSt → Out
  | 0, _ => .bad
  | n + 1, ρ => match c ρ with
    | some true => match s ρ with
      | .nx ρ2 => whileF c s n ρ2
      | .ct ρ2 => whileF c s n ρ2
      | .bk ρ2 => .nx ρ2
      | o => o
    | some false => .nx ρ
    | none => .bad
noncomputable def sWhile (c : FB) (s : FS) : FS := fun ρ => whileF c s 10000 ρ
theorem while_ok {c : FB} {D : PEnds} : ∀ {n : Nat} {ρ : PSt}, (whileF c s n ρ).sat D → pWhileN (tBo c) (fnS s) D n ρ := fun {n} => by
  induction n with
  | zero => intro ρ q; exact q
  | succ n ih =>
    intro ρ q
    rw [whileF] at q
    split at q
    · next e1 =>
      refine ⟨true, e1, ?_⟩
      show (if true = true then (s ρ).sat _ else _)
      rw [if_pos rfl]
      cases e2 : s ρ with
      | nx ρ2 => rw [e2] at q; exact ih q
      | ct ρ2 => rw [e2] at q; exact ih q
      | bk ρ2 => rw [e2] at q; exact q
      | rt _ => rw [e2] at q; exact q
      | rn _ => rw [e2] at q; exact q
      | bad => rw [e2] at q; exact q
    · next e1 =>
      exact ⟨false, e1, q⟩
    · exact q.elim
theorem s_while {c : FB} (h : PS X st (tWhile (lB X.K (tBo c)) (lS X.K (fnS s)))) : DS X st (sWhile c s) := PuS_weak (pus_while h) fun D ρ q => ⟨10000, while_ok q⟩
end
noncomputable def Out.res : Out → Option PR
  | .nx _ => some (.v .non)
  | .rt p => some (.v p)
  | .rn ps => some (.n ps)
  | _ => none
noncomputable def run (a n : Nat) (s : FS) (qs : List PV) : Option PR := if qs.length = a then (s (pst n qs)).res else none
theorem res_ok {o : Out} {r : PR} {Q : PR → Prop} (h : o.res = some r) (q : Q r) : o.sat (PEnds.of Q) := by
  cases o <;> cases h <;> exact q
theorem d_def {P : Program} {w : World} {K : PySem.W.Frag} {mg : Str → Option Value} {base : Heap} {x : Str} {st : Stmt} {N ps : List Str} {k a n : Nat} {s : FS} (F : FunD K mg x st ps) (S : FnScope N ps (defScope st))
    (hb : ∀ (f : Addr) (cdv : Value) (A : Around) (outer : List Env) (s' : Shared) (H : Hp) (E : XK), Room k (A.deeper (PyProof.Rows.envOfC x (defScope st) s'.heap.objs.size f cdv)) → DSs (cxOf CX0 P w K mg base N x (defScope st) f cdv A outer s' H E).nox (defBody st) s)
    (ha : ps.length = a := by rfl) (hn : N.length = n := by rfl) : Def P w K mg base (k + 1) x ps (spP K (fnP (run a n s))) := by
  subst ha hn
  refine defP F S (fun qs Q ⟨r, e, q⟩ => ?_) hb fun qs Q ⟨r, e, q⟩ => ?_
  · unfold run at e
    split at e
    · assumption
    · cases e
  · unfold run at e
    split at e
    · exact res_ok e q
    · cases e
theorem law_go {X : Cx} {body : List Stmt} {s : FS} {N : List Str} {H : Hp} {vs : List V} {Q : VK} {E : XK} {n : Nat} (hb : DSs X body s) (h : spLaw X.K vs H Q E)
    (hp : ∀ ns : List Int, ns.length ≤ 63 → run 1 n s [.src (ns.map PV.int)] = some (.v (.bl true))) (hn : N.length = n := by rfl) : ∃ t, PSs X body t ∧ t { nx := fun _ H' => Q .non H', rt := Q } (L2.start N vs) H := by
  subst hn
  exact law_start hb h fun ns hl => by
    have this : (s (pst N.length [.src (ns.map PV.int)])).res = some (.v (.bl true)) := hp ns hl
    exact res_ok this rfl
end Dp
end
section
namespace Dp
open PySem PySem.Spec L2 Pu
section
variable {X : Cx} {e a b c tg iter : Expr} {es : List Expr} {st : Stmt} {rest : List Stmt} {p pos : Pos} {f fa fb : FE} {fs : FA} {s u : FS} {i j k : Nat} {ba : FB} {x : Str} {ps : List Str} {F : List PV → Option PR}
theorem d_callD (d : Def X.prog X.w X.K X.mg X.base j x ps (spP X.K (fnP F))) (hr : Room k X.A) (ha : DA X (e :: es) fs) (hj : j ≤ k := by decide) (hg : Gl X x := by rfl) (hdb : (x == ("__debug__" : Str)) = false := by decide) (he : starEach (e :: es) X.env = (false, eval e X.env) :: starEach es X.env := by rfl)
    (hpl : (backTo pos (starEach es X.env)).any (·.1) = false := by rfl) : DE X (.Call (.Name x p) (e :: es) [] pos) (fCall F fs) := d_call (pe_callD d hr ha.f hj hg hdb he hpl) (pe_callD d hr ha.t hj hg hdb he hpl)
theorem d_listc (hm : X.mg "list" = none) (ha : DA X (e :: es) fs) (hc : X.calm = true := by rfl) (hg : Gl X "list" := by rfl) (he : starEach (e :: es) X.env = (false, eval e X.env) :: starEach es X.env := by rfl) (hpl : (backTo pos (starEach es X.env)).any (·.1) = false := by rfl) :
    DE X (.Call (.Name "list" p) (e :: es) [] pos) (fB kList fs) := d_list (x := "list") (p := p) rfl (pe_callTy call_list_of hg hm bt_list ha.t (by decide) (by decide) he hpl) (pe_callTy (call_list_rng hc) hg hm bt_list ha.t (by decide) (by decide) he hpl)
theorem s_own2 {pos' : Pos} (he : DE X e f) (hN : X.N.Nodup) (hi : X.N[i]? = some x) (hx : Loc X.env.scope x) (hs : swapsWith e (some (.Name x pos')) pos.line X.env = pure false := by rfl) (hf : X.fn x = true ∨ X.env.scope.names.lookup x = some .local := by first | exact .inl rfl | exact .inr rfl | assumption) :
    DS X (.Assign [.Name x pos'] e pos) (sOwn i f) := s_own (ps_set hN hi hx he.ee hs hf) (ps_set hN hi hx he.nn hs hf)
end
end Dp
end
section
namespace Pu
open PySem L2 Fo
theorem peq_int {i j : Int} : peq (.int i) (.int j) = decide (i = j) := by
  simp only [peq, isFlat, flat, eqV, Bool.true_and]
  rw [Bool.eq_iff_iff, beq_iff_eq, decide_eq_true_iff]
theorem peq_str {i j : Str} : peq (.str i) (.str j) = decide (i = j) := by
  simp only [peq, isFlat, flat, eqV, Bool.true_and]
  rw [Bool.eq_iff_iff, beq_iff_eq, decide_eq_true_iff]
theorem peq_bl {i j : Bool} : peq (.bl i) (.bl j) = (i == j) := by
  simp only [peq, isFlat, flat, eqV, Bool.true_and]
theorem peq_tup {ps qs : List PV} : peq (.tup ps) (.tup qs) = peqs ps qs := by simp only [peq]
theorem peq_lst {ps qs : List PV} : peq (.lst ps) (.lst qs) = peqs ps qs := by simp only [peq]
theorem peqs_cons {p q : PV} {ps qs : List PV} : peqs (p :: ps) (q :: qs) = (peq p q && peqs ps qs) := by simp only [peqs]
theorem peqs_nil : peqs [] [] = true := by simp only [peqs]
theorem nums_len (us : List Nat) : (nums us).length = us.length := List.length_map ..
theorem nums_nil : nums [] = [] := rfl
theorem nums_cons (x : Nat) (us : List Nat) : nums (x :: us) = nI x :: nums us := rfl
theorem nums_app (us vs : List Nat) : nums (us ++ vs) = nums us ++ nums vs := List.map_append
theorem nums_set (us : List Nat) (i v : Nat) : (nums us).set i (nI v) = nums (us.set i v) := by unfold nums; rw [List.map_set]
theorem plains_nums : ∀ us : List Nat, plains (nums us) = true
  | [] => by simp only [nums, List.map_nil, plains]
  | x :: us => by rw [nums_cons, plains, plains_nums us]; simp only [nI, plain, Bool.and_true]
theorem deps_nums : ∀ us : List Nat, deps (nums us) = 0
  | [] => by simp only [nums, List.map_nil, deps]
  | x :: us => by rw [nums_cons, deps, deps_nums us]; simp only [nI, dep, Nat.max_self]
theorem ixN_nat {n x : Nat} (h : x < n) : ixN n (x : Int) = some x := by
  unfold ixN
  rw [if_pos (by omega), if_pos (by omega), Int.toNat_natCast]
theorem atI_nat {ps : List PV} {x : Nat} {p : PV} (h : ps[x]? = some p) : L2.atI ps (x : Int) = some p := by
  unfold L2.atI
  have hx : x < ps.length := (List.getElem?_eq_some_iff.mp h).1
  rw [ixN_nat hx]
  exact h
theorem at0 {a : PV} {l : List PV} : L2.atI (a :: l) (0 : Int) = some a := atI_nat (x := 0) rfl
theorem at1 {a b : PV} {l : List PV} : L2.atI (a :: b :: l) (1 : Int) = some b := atI_nat (x := 1) rfl
theorem at2 {a b c : PV} {l : List PV} : L2.atI (a :: b :: c :: l) (2 : Int) = some c := atI_nat (x := 2) rfl
theorem at3 {a b c d : PV} {l : List PV} : L2.atI (a :: b :: c :: d :: l) (3 : Int) = some d := atI_nat (x := 3) rfl
theorem nums_get {us : List Nat} {x : Nat} (hx : x < us.length) : (nums us)[x]? = some (nI (up us x)) := by
  unfold nums
  rw [List.getElem?_map, List.getElem?_eq_getElem hx]
  simp [up, hx]
theorem atI_nums {us : List Nat} {x : Nat} (hx : x < us.length) : L2.atI (nums us) (x : Int) = some (nI (up us x)) := atI_nat (nums_get hx)
theorem atI_last (us : List Nat) (y : Nat) : L2.atI (nums (us ++ [y])) (-1) = some (nI y) := by
  unfold L2.atI ixN
  rw [nums_len, List.length_append, if_neg (by decide), if_pos (by simp; omega)]
  have : (-1 + ((us.length + [y].length : Nat) : Int)).toNat = us.length := by simp; omega
  rw [this]
  show (nums (us ++ [y]))[us.length]? = _
  rw [nums_get (by simp)]
  simp [up]
theorem atI_last' {l : List Nat} (h : l ≠ []) : L2.atI (nums l) (-1) = some (nI (last l)) := by
  obtain ⟨us, y, rfl⟩ : ∃ us y, l = us ++ [y] := ⟨l.dropLast, l.getLast h, (List.dropLast_concat_getLast h).symm⟩
  rw [atI_last]
  simp [last]
theorem nums_snoc (us : List Nat) (y : Nat) : nums us ++ [PV.int y] = nums (us ++ [y]) := (nums_app us [y]).symm
theorem nums_set' (us : List Nat) (i v : Nat) : (nums us).set i (PV.int v) = nums (us.set i v) := nums_set us i v
theorem ups0 (n : Nat) : ups 0 n = nums (List.range n) := by
  unfold ups nums
  exact List.map_congr_left fun i _ => by rw [nI, Int.zero_add]
theorem mem_nums {us : List Nat} {v : PV} (h : v ∈ nums us) : ∃ u ∈ us, v = nI u := by
  obtain ⟨u, hu, e⟩ := List.mem_map.mp h
  exact ⟨u, hu, e.symm⟩
noncomputable def iL (ns : List Int) : List PV := ns.map PV.int
theorem iL_len (ns : List Int) : (iL ns).length = ns.length := List.length_map ..
theorem up_mem {n : Nat} {lo : Int} {v : PV} (h : v ∈ ups lo n) : ∃ i : Int, v = .int i ∧ lo ≤ i ∧ i < lo + n := by
  obtain ⟨k, hk, rfl⟩ := List.mem_map.mp h
  have := List.mem_range.mp hk
  exact ⟨lo + k, rfl, by omega, by omega⟩
theorem ups_len (lo : Int) (n : Nat) : (ups lo n).length = n := by simp [ups]
theorem natOf {i : Int} (h : 0 ≤ i) : PV.int i = nI i.toNat := by rw [nI, Int.toNat_of_nonneg h]
theorem cut_iL (ns : List Int) (lo hi : Option Int) : cut (iL ns) lo hi = iL (cut ns lo hi) := by
  unfold cut iL
  rw [List.length_map, List.map_take, List.map_drop]
theorem cut_nums (ns : List Nat) (lo hi : Option Int) : cut (nums ns) lo hi = nums (cut ns lo hi) := by
  unfold cut nums
  rw [List.length_map, List.map_take, List.map_drop]
end Pu
namespace Fo
open PySem L2
structure Left (y : Str) (us : List Nat) (x h : Nat) (us' : List Nat) (n : Nat) (l : List Nat) : Prop where
  way : Way us x l
  hd : h = last l
  st : n + 1 ≤ l.length
  st2 : y ≠ "halves" → n + 1 = l.length
  sh : Shorter us us'
  off : ∀ t, t < us.length → t ∉ l → up us' t = up us t
  no : y = "none" → us' = us
theorem two_up {us : List Nat} (f : Fst us) {t : Nat} (ht : t < us.length) : (up us t = t ∧ up us (up us t) = t) ∨ (up us t ≠ t ∧ ∃ l, Way us (up us t) l ∧ up us (up us t) ∈ l) := by
  by_cases e : up us t = t
  · exact .inl ⟨e, by rw [e, e]⟩
  · obtain ⟨l, w, _⟩ := f.way (f.bnd t ht)
    exact .inr ⟨e, l, w, w.closed _ w.mem_self⟩
theorem RM.left {y : Str} {us : List Nat} {x h : Nat} {us' : List Nat} {n : Nat} (f : Fst us) (hx : x < us.length) (r : RM y us x h us' n) : ∃ l, Left y us x h us' n l := by
  have self := Shorter.refl f
  cases r with
  | none r =>
    obtain ⟨rfl, l, w, e, hn⟩ := r
    exact ⟨l, w, e, by omega, fun _ => hn, self, fun _ _ _ => rfl, fun _ => rfl⟩
  | whole r =>
    obtain ⟨l, w, e, hn, len, hu⟩ := r
    refine ⟨l, w, e, by omega, fun _ => hn, ⟨len, fun t ht => ?_⟩, fun t ht hm => by rw [hu, if_neg hm], fun z => absurd z (by decide)⟩
    rw [hu]
    by_cases hm : t ∈ l
    · rw [if_pos hm]
      obtain ⟨l2, w2, e2, _, _⟩ := w.later t hm
      cases w2 with
      | head q => exact .inl ⟨q, by rw [e, ← e2]; rfl⟩
      | step q w3 => exact .inr ⟨q, _, w3, by rw [e, ← e2, last_cons w3.ne]; exact last_mem w3.ne⟩
    · rw [if_neg hm]; exact self.up t ht
  | halves r =>
    obtain ⟨l, w, e, hn, len, hu⟩ := r
    have pos := w.pos
    refine ⟨l, w, e, by omega, fun z => absurd rfl z, ⟨len, fun t ht => ?_⟩, fun t ht hm => by rw [hu, if_neg fun q => hm (evens_sub l t q)], fun z => absurd z (by decide)⟩
    rw [hu]
    by_cases hm : t ∈ evens l
    · rw [if_pos hm]; exact two_up f ht
    · rw [if_neg hm]; exact self.up t ht
  | splits r =>
    obtain ⟨l, w, e, hn, len, hu⟩ := r
    refine ⟨l, w, e, by omega, fun _ => hn, ⟨len, fun t ht => ?_⟩, fun t ht hm => by rw [hu, if_neg hm], fun z => absurd z (by decide)⟩
    rw [hu]
    by_cases hm : t ∈ l
    · rw [if_pos hm]; exact two_up f ht
    · rw [if_neg hm]; exact self.up t ht
  | one r =>
    obtain ⟨rfl, l, w, e, hn⟩ := r
    refine ⟨l, w, e, by omega, fun _ => hn, ⟨by rw [List.length_set], fun t ht => ?_⟩, fun t ht hm => by rw [up_set hx, if_neg fun q => hm (by rw [q]; exact w.mem_self)], fun z => absurd z (by decide)⟩
    rw [up_set hx]
    by_cases hm : t = x
    · rw [if_pos hm, hm]; exact two_up f hx
    · rw [if_neg hm]; exact self.up t ht
theorem up_ext {us vs : List Nat} (h : us.length = vs.length) (e : ∀ t, up us t = up vs t) : us = vs := by
  apply List.ext_getElem h
  intro i h1 h2
  have := e i
  simpa [up, h1, h2] using this
theorem RM.frst {y : Str} {us : List Nat} {x h : Nat} {us' : List Nat} {n : Nat} (f : Frst us) (hx : x < us.length) (r : RM y us x h us' n) : Frst us' ∧ us'.length = us.length := by
  obtain ⟨l, L⟩ := r.left f.fst hx
  have e := L.sh.len
  exact ⟨⟨by rw [e]; exact f.one, by rw [e]; exact f.most, L.sh.fst f.fst⟩, e⟩
end Fo
namespace Pu
open PySem L2 Fo
end Pu
end
section
namespace Dp
open PySem PySem.Spec L2 Pu
section
variable {X : Cx} {e a b c tg iter : Expr} {es : List Expr} {st : Stmt} {rest : List Stmt} {p pos : Pos} {f fa fb : FE} {fs : FA} {s u : FS} {i j k : Nat} {ba : FB} {x : Str}
noncomputable def fRev (f : FE) : FE := fun ρ => (f ρ).bind fun r => (lstOf r.pv).map fun ps => .nw ps.reverse
noncomputable def maxI : List Int → Int
  | [] => 0
  | [i] => i
  | i :: j :: l => max i (maxI (j :: l))
noncomputable def minI : List Int → Int
  | [] => 0
  | [i] => i
  | i :: j :: l => min i (minI (j :: l))
noncomputable def kL (g : List Int → Int) : List PV → Option RV
  | [p] => (lstOf p).bind fun ps => (intsOf ps).bind fun is => if is.length = 0 then none else some (.fz (.int (g is)))
  | _ => none
noncomputable def kMaxL := kL maxI
noncomputable def kMinL := kL minI
noncomputable def kSum : List PV → Option RV
  | [p] => (lstOf p).bind fun ps => (intsOf ps).map fun is => .fz (.int is.sum)
  | _ => none
noncomputable def sAugIx (g : Int → Int → Int) (j : Nat) (fi f : FE) : FS := fun ρ => match sl ρ j, (fi ρ).bind RV.fr, (f ρ).bind RV.fr with
  | some (.own ps), some (.int k), some (.int b) => if 0 ≤ k then (match ps[k.toNat]? with
    | some (.int a) => .nx (ρ.set j (some (.own (ps.set k.toNat (.int (g a b))))))
    | _ => .bad) else .bad
  | _, _, _ => .bad
end
end Dp
end
section
namespace Fo
open PySem
noncomputable def wayN (us : List Nat) : Nat → Nat → List Nat
  | 0, x => [x]
  | n + 1, x => if up us x = x then [x] else x :: wayN us n (up us x)
noncomputable def way (us : List Nat) (x : Nat) : List Nat := wayN us us.length x
theorem wayN_of {us : List Nat} {x : Nat} {l : List Nat} (w : Way us x l) : ∀ {n : Nat}, l.length ≤ n + 1 → wayN us n x = l := by
  induction w with
  | @head x e =>
    intro n h
    cases n with
    | zero => rfl
    | succ n => rw [wayN, if_pos e]
  | @step x l ne w ih =>
    intro n h
    cases n with
    | zero => have := w.pos; rw [List.length_cons] at h; omega
    | succ n => rw [wayN, if_neg ne, ih (by simpa using h)]
theorem way_of {us : List Nat} {x : Nat} {l : List Nat} (f : Fst us) (hx : x < us.length) (w : Way us x l) : way us x = l := by
  obtain ⟨l', w', h⟩ := f.way hx
  cases w.det w'
  exact wayN_of w (by omega)
theorem way_ok {us : List Nat} {x : Nat} (f : Fst us) (hx : x < us.length) : Way us x (way us x) := by
  obtain ⟨l, w, _⟩ := f.way hx
  rw [way_of f hx w]; exact w
theorem way_len {us : List Nat} {x : Nat} (f : Fst us) (hx : x < us.length) : (way us x).length ≤ us.length := by
  obtain ⟨l, w, h⟩ := f.way hx
  rw [way_of f hx w]; exact h
noncomputable def hd (us : List Nat) (x : Nat) : Nat := last (way us x)
noncomputable def dp (us : List Nat) (x : Nat) : Nat := (way us x).length - 1
noncomputable def newUp (y : Str) (us : List Nat) (x t : Nat) : Nat :=
  if y = "whole" then (if t ∈ way us x then hd us x else up us t)
  else if y = "halves" then (if t ∈ evens (way us x) then up us (up us t) else up us t)
  else if y = "splits" then (if t ∈ way us x then up us (up us t) else up us t)
  else if y = "one" then (if t = x then up us (up us t) else up us t)
  else up us t
noncomputable def beh (y : Str) (us : List Nat) (x : Nat) : List Nat := (List.range us.length).map (newUp y us x)
noncomputable def stp (y : Str) (us : List Nat) (x : Nat) : Nat := if y = "halves" then (way us x).length / 2 else dp us x
theorem up_over {us : List Nat} {t : Nat} (h : us.length ≤ t) : up us t = 0 := by
  unfold up; rw [List.getD_eq_getElem?_getD, List.getElem?_eq_none h]; rfl
theorem beh_len (y : Str) (us : List Nat) (x : Nat) : (beh y us x).length = us.length := by unfold beh; rw [List.length_map, List.length_range]
theorem beh_up {y : Str} {us : List Nat} {x t : Nat} (h : t < us.length) : up (beh y us x) t = newUp y us x t := by
  unfold up beh
  rw [List.getD_eq_getElem?_getD, List.getElem?_map, List.getElem?_range h]; rfl
theorem eq_beh {y : Str} {us us' : List Nat} {x : Nat} (hl : us'.length = us.length) (h : ∀ t, t < us.length → up us' t = newUp y us x t) : us' = beh y us x := by
  refine up_ext (by rw [hl, beh_len]) fun t => ?_
  by_cases ht : t < us.length
  · rw [h t ht, beh_up ht]
  · rw [up_over (by omega), up_over (by rw [beh_len]; omega)]
theorem RM.fun {y : Str} {us : List Nat} {x h : Nat} {us' : List Nat} {n : Nat} (f : Fst us) (hx : x < us.length) (r : RM y us x h us' n) : h = hd us x ∧ us' = beh y us x ∧ n = stp y us x := by
  cases r with
  | none r =>
    obtain ⟨rfl, l, w, e, hn⟩ := r
    rw [← way_of f hx w] at e hn
    refine ⟨e, eq_beh rfl fun t ht => rfl, ?_⟩
    show n = dp us' x
    unfold dp; omega
  | whole r =>
    obtain ⟨l, w, e, hn, hl, hu⟩ := r
    rw [← way_of f hx w] at e hn hu
    refine ⟨e, eq_beh hl fun t ht => ?_, ?_⟩
    · rw [hu t, e]; rfl
    · show n = dp us x
      unfold dp; omega
  | halves r =>
    obtain ⟨l, w, e, hn, hl, hu⟩ := r
    rw [← way_of f hx w] at e hn hu
    exact ⟨e, eq_beh hl fun t ht => by rw [hu t]; rfl, hn⟩
  | splits r =>
    obtain ⟨l, w, e, hn, hl, hu⟩ := r
    rw [← way_of f hx w] at e hn hu
    refine ⟨e, eq_beh hl fun t ht => by rw [hu t]; rfl, ?_⟩
    show n = dp us x
    unfold dp; omega
  | one r =>
    obtain ⟨rfl, l, w, e, hn⟩ := r
    rw [← way_of f hx w] at e hn
    refine ⟨e, eq_beh (List.length_set) fun t ht => ?_, ?_⟩
    · rw [up_set hx]
      show (if t = x then up us (up us x) else up us t) = if t = x then up us (up us t) else up us t
      by_cases q : t = x
      · rw [if_pos q, if_pos q, q]
      · rw [if_neg q, if_neg q]
    · show n = dp us x
      unfold dp; omega
theorem iter_in (us : List Nat) (k x : Nat) : Nat.repeat (up us) (k + 1) x = Nat.repeat (up us) k (up us x) := by
  induction k with
  | zero => rfl
  | succ k ih =>
    show up us (Nat.repeat (up us) (k + 1) x) = up us (Nat.repeat (up us) k (up us x))
    rw [ih]
theorem way_leads {us : List Nat} {x : Nat} {l : List Nat} (w : Way us x l) : ∀ k, l.length ≤ k + 1 → up us (Nat.repeat (up us) k x) = Nat.repeat (up us) k x := by
  induction w with
  | @head x e =>
    intro k _
    have : Nat.repeat (up us) k x = x := by
      induction k with
      | zero => rfl
      | succ k ih => show up us (Nat.repeat (up us) k x) = x; rw [ih (by simp)]; exact e
    rw [this]; exact e
  | @step x l n w ih =>
    intro k hk
    have pos := w.pos
    cases k with
    | zero => rw [List.length_cons] at hk; omega
    | succ k => rw [iter_in]; exact ih k (by simpa using hk)
noncomputable def isF (us : List Nat) : Bool := decide (1 ≤ us.length) && decide (us.length ≤ 40) && us.all (fun u => decide (u < us.length)) && (List.range us.length).all fun x => decide (up us (Nat.repeat (up us) (us.length - 1) x) = Nat.repeat (up us) (us.length - 1) x)
theorem wayN_stable {us : List Nat} : ∀ (k y : Nat), up us (Nat.repeat (up us) k y) = Nat.repeat (up us) k y → ∀ m, k ≤ m → wayN us m y = wayN us k y := fun k => by
  induction k with
  | zero =>
    intro y h m _
    cases m with
    | zero => rfl
    | succ m => have e : wayN us (m + 1) y = if up us y = y then [y] else y :: wayN us m (up us y) := rfl
                rw [e, if_pos (show up us y = y from h)]; rfl
  | succ k ih =>
    intro y h m hm
    cases m with
    | zero => omega
    | succ m =>
      rw [wayN, wayN]
      by_cases e : up us y = y
      · rw [if_pos e, if_pos e]
      · rw [if_neg e, if_neg e, ih (up us y) (by rw [← iter_in]; exact h) m (by omega)]
theorem wayN_le (us : List Nat) : ∀ (n x : Nat), (wayN us n x).length ≤ n + 1
  | 0, x => by rw [wayN]; simp
  | n + 1, x => by
    rw [wayN]
    split
    · simp
    · rw [List.length_cons]; have := wayN_le us n (up us x); omega
theorem wayN_pos (us : List Nat) : ∀ (n x : Nat), 1 ≤ (wayN us n x).length
  | 0, x => by rw [wayN]; simp
  | n + 1, x => by
    rw [wayN]
    split <;> simp
theorem isF_ok {us : List Nat} (h : isF us = true) : Frst us := by
  unfold isF at h
  rw [Bool.and_eq_true, Bool.and_eq_true, Bool.and_eq_true, decide_eq_true_eq, decide_eq_true_eq, List.all_eq_true, List.all_eq_true] at h
  obtain ⟨⟨⟨h1, h2⟩, h3⟩, h4⟩ := h
  have bnd : ∀ x, x < us.length → up us x < us.length := fun x hx => by
    have := h3 us[x] (List.getElem_mem hx)
    rw [decide_eq_true_eq] at this
    show us.getD x 0 < _
    rw [List.getD_eq_getElem?_getD, List.getElem?_eq_getElem hx]; exact this
  refine ⟨h1, h2, bnd, fun x => (wayN us (us.length - 1) x).length - 1, fun x hx => ?_, fun x hx ne => ?_⟩
  · have := wayN_le us (us.length - 1) x
    show (wayN us (us.length - 1) x).length - 1 < us.length
    omega
  · have hf := h4 x (List.mem_range.mpr hx)
    rw [decide_eq_true_eq] at hf
    have hu := h4 (up us x) (List.mem_range.mpr (bnd x hx))
    rw [decide_eq_true_eq] at hu
    show (wayN us (us.length - 1) (up us x)).length - 1 < (wayN us (us.length - 1) x).length - 1
    cases hn : us.length - 1 with
    | zero => rw [hn] at hf; exact absurd hf ne
    | succ n =>
      rw [hn, iter_in] at hf
      have e := wayN_stable n (up us x) hf (n + 1) (by omega)
      have e2 : wayN us (n + 1) x = x :: wayN us n (up us x) := by rw [wayN, if_neg ne]
      rw [e, e2, List.length_cons]
      have := wayN_pos us n (up us x)
      omega
theorem ok_isF {us : List Nat} (f : Frst us) : isF us = true := by
  unfold isF
  rw [Bool.and_eq_true, Bool.and_eq_true, Bool.and_eq_true, decide_eq_true_eq, decide_eq_true_eq, List.all_eq_true, List.all_eq_true]
  refine ⟨⟨⟨f.one, f.most⟩, fun u hu => ?_⟩, fun x hx => ?_⟩
  · obtain ⟨i, hi, rfl⟩ := List.mem_iff_getElem.mp hu
    have := f.fst.bnd i hi
    rw [decide_eq_true_eq]
    unfold up at this
    rwa [List.getD_eq_getElem?_getD, List.getElem?_eq_getElem hi] at this
  · rw [decide_eq_true_eq]
    obtain ⟨l, w, hl⟩ := f.fst.way (List.mem_range.mp hx)
    have := f.one
    exact way_leads w _ (by omega)
end Fo
namespace Dp
open PySem L2 Pu Fo
noncomputable def natsOf : List PV → Option (List Nat)
  | [] => some []
  | .int i :: ps => if 0 ≤ i then (natsOf ps).map fun us => i.toNat :: us else none
  | _ => none
theorem natsOf_nums : ∀ us : List Nat, natsOf (nums us) = some us
  | [] => rfl
  | u :: us => by
    show natsOf (.int (u : Int) :: nums us) = _
    rw [natsOf, if_pos (by omega), natsOf_nums us]; rfl
theorem natsOf_ok : ∀ {ps : List PV} {us : List Nat}, natsOf ps = some us → ps = nums us := fun {ps} => by
  induction ps with
  | nil => intro us h; cases h; rfl
  | cons p ps ih =>
    intro us h
    cases p <;> first | (cases h; done) | skip
    next i =>
    rw [natsOf] at h
    split at h
    · next z =>
      obtain ⟨us', e1, rfl⟩ := Option.map_eq_some_iff.mp h
      rw [ih e1, nums_cons, nI, Int.toNat_of_nonneg z]
    · cases h
noncomputable def F_is_short (qs : List PV) : Option PR := match qs with
  | [.str y] => some (.v (.bl (decide (y ∈ manners))))
  | _ => none
noncomputable def F_find_in (qs : List PV) : Option PR := match qs with
  | [.tup ps, .str y, .int x] => match natsOf ps with
    | some us => if isF us = true ∧ y ∈ manners ∧ 0 ≤ x ∧ x < us.length then some (.v (.tup [nI (hd us x.toNat), .tup (nums (beh y us x.toNat)), nI (stp y us x.toNat)])) else none
    | none => none
  | _ => none
section
variable {P : Program} {w : World} {K : PySem.W.Frag} {mg : Str → Option Value} {base : Heap} {k : Nat} {ps : List Str} {x : Str}
theorem spP_imp {φ ψ : PSp} (h : ∀ qs Q, ψ qs Q → φ qs Q) (d : Def P w K mg base k x ps (spP K φ)) : Def P w K mg base k x ps (spP K ψ) := Pu.Def.imp d fun vs H Q E ⟨F, qs, Qp, s, r, q, z⟩ => ⟨F, qs, Qp, s, r, h qs Qp q, z⟩
theorem fd_is_short (d : Def P w K mg base k x ps (spP K W_is_short)) : Def P w K mg base k x ps (spP K (fnP F_is_short)) := spP_imp (fun qs Q ⟨r, e, q⟩ => by
  unfold F_is_short at e
  split at e
  · cases e; exact ⟨_, rfl, q⟩
  · cases e) d
theorem fd_find_in (d : Def P w K mg base k x ps (spP K W_find_in)) : Def P w K mg base k x ps (spP K (fnP F_find_in)) := spP_imp (fun qs Q ⟨r, e, q⟩ => by
  unfold F_find_in at e
  split at e
  · next pp y xx _ =>
    split at e
    · next us eu =>
      split at e
      · next z =>
        cases e
        have f := isF_ok z.1
        refine ⟨us, y, xx.toNat, ?_, f, z.2.1, ?_, fun h us' n r => ?_⟩
        · rw [natsOf_ok eu, nI, Int.toNat_of_nonneg z.2.2.1]
        · have := z.2.2; omega
        · obtain ⟨rfl, rfl, rfl⟩ := r.fun f.fst (by have := z.2.2; omega)
          exact q
      · cases e
    · cases e
  · cases e) d
end
theorem t_find_in {us : List Nat} (f : Frst us) {y : Str} (hy : y ∈ manners) {x : Nat} (hx : x < us.length) : F_find_in [.tup (nums us), .str y, nI x] = some (.v (.tup [nI (hd us x), .tup (nums (beh y us x)), nI (stp y us x)])) := by
  show (match natsOf (nums us) with
    | some us => if isF us = true ∧ y ∈ manners ∧ 0 ≤ (x : Int) ∧ (x : Int) < us.length then some (PR.v (.tup [nI (hd us (x : Int).toNat), .tup (nums (beh y us (x : Int).toNat)), nI (stp y us (x : Int).toNat)])) else none
    | none => none) = _
  rw [natsOf_nums]
  show (if _ then _ else _) = _
  rw [if_pos ⟨ok_isF f, hy, by omega, by omega⟩, Int.toNat_natCast]
theorem t_is_short (y : Str) : F_is_short [.str y] = some (.v (.bl (decide (y ∈ manners)))) := rfl
end Dp
namespace Lo
open PySem Fo Pu
end Lo
namespace Dp
open PySem L2 Pu Fo Lo
end Dp
end
section
namespace Fo
open PySem L2
theorem way_mem_lt {us : List Nat} {x t : Nat} (f : Fst us) (hx : x < us.length) (h : t ∈ way us x) : t < us.length := (way_ok f hx).lt f.bnd hx t h
theorem RM_beh {us : List Nat} (f : Fst us) {x : Nat} (hx : x < us.length) {y : Str} (hy : y ∈ manners) : RM y us x (hd us x) (beh y us x) (stp y us x) := by
  have w := way_ok f hx
  have pos := w.pos
  have low : ∀ t, us.length ≤ t → up (beh y us x) t = 0 ∧ up us t = 0 ∧ t ∉ way us x := fun t ht => ⟨up_over (by rw [beh_len]; omega), up_over ht, fun q => by have := way_mem_lt f hx q; omega⟩
  have hdp : dp us x + 1 = (way us x).length := by unfold dp; omega
  rcases (show y = "none" ∨ y = "whole" ∨ y = "halves" ∨ y = "splits" ∨ y = "one" by simpa [manners] using hy) with rfl | rfl | rfl | rfl | rfl
  · exact .none ⟨(eq_beh rfl fun t ht => rfl).symm, _, w, rfl, hdp⟩
  · refine .whole ⟨_, w, rfl, hdp, beh_len .., fun t => ?_⟩
    by_cases ht : t < us.length
    · rw [beh_up ht]; rfl
    · obtain ⟨a, b, c⟩ := low t (by omega)
      rw [a, b, if_neg c]
  · refine .halves ⟨_, w, rfl, rfl, beh_len .., fun t => ?_⟩
    by_cases ht : t < us.length
    · rw [beh_up ht]; rfl
    · obtain ⟨a, b, c⟩ := low t (by omega)
      rw [a, b, if_neg fun q => c (evens_sub _ _ q)]
  · refine .splits ⟨_, w, rfl, hdp, beh_len .., fun t => ?_⟩
    by_cases ht : t < us.length
    · rw [beh_up ht]; rfl
    · obtain ⟨a, b, c⟩ := low t (by omega)
      rw [a, b, if_neg c]
  · refine .one ⟨(eq_beh (List.length_set) fun t ht => ?_).symm, _, w, rfl, hdp⟩
    rw [up_set hx]
    show (if t = x then up us (up us x) else up us t) = if t = x then up us (up us t) else up us t
    by_cases q : t = x
    · rw [if_pos q, if_pos q, q]
    · rw [if_neg q, if_neg q]
theorem beh_frst {us : List Nat} (f : Frst us) {x : Nat} (hx : x < us.length) {y : Str} (hy : y ∈ manners) : Frst (beh y us x) := ((RM_beh f.fst hx hy).frst f hx).1
theorem way_head {us : List Nat} {x : Nat} (f : Fst us) (hx : x < us.length) (e : up us x = x) : way us x = [x] := way_of f hx (.head e)
theorem way_step {us : List Nat} {x : Nat} (f : Fst us) (hx : x < us.length) (e : up us x ≠ x) : way us x = x :: way us (up us x) := way_of f hx (.step e (way_ok f (f.bnd x hx)))
theorem hd_head {us : List Nat} {x : Nat} (f : Fst us) (hx : x < us.length) (e : up us x = x) : hd us x = x := by unfold hd; rw [way_head f hx e]; rfl
theorem hd_step {us : List Nat} {x : Nat} (f : Fst us) (hx : x < us.length) (e : up us x ≠ x) : hd us x = hd us (up us x) := by
  unfold hd
  rw [way_step f hx e, last_cons (way_ok f (f.bnd x hx)).ne]
theorem hd_up {us : List Nat} {x : Nat} (f : Fst us) (hx : x < us.length) : hd us (up us x) = hd us x := by
  by_cases e : up us x = x
  · rw [e]
  · exact (hd_step f hx e).symm
theorem hd_is {us : List Nat} {x : Nat} (f : Fst us) (hx : x < us.length) : up us (hd us x) = hd us x := (way_ok f hx).head_last
theorem hd_lt {us : List Nat} {x : Nat} (f : Fst us) (hx : x < us.length) : hd us x < us.length := way_mem_lt f hx (last_mem (way_ok f hx).ne)
theorem beh_keep {us : List Nat} (f : Fst us) {x : Nat} (hx : x < us.length) {y : Str} (hy : y ∈ manners) {t : Nat} (ht : t < us.length) : hd (beh y us x) t = hd us t ∧ dp (beh y us x) t ≤ dp us t := by
  obtain ⟨l, L⟩ := (RM_beh f hx hy).left f hx
  obtain ⟨l', w', e1, e2⟩ := L.sh.way f ht (way_ok f ht)
  have f' := L.sh.fst f
  have := way_of f' (by rw [beh_len]; exact ht) w'
  unfold hd dp
  rw [this]
  exact ⟨e1, by omega⟩
end Fo
end
section
namespace Dp
open PySem L2 Fo Pu
noncomputable def F__law_numbers_b1 : FS := (sSeq (sSet 3 (fOp rMod (fOp rAdd (fOp rAdd (fOp rMul (fV 3) (fOp rAdd (fOp rMod (fV 3) (fC (.int 65521))) (fC (.int 40487)))) (fOp rMul (fC (.int 7)) (fV 5))) (fC (.int 5))) (fC (.int 1999999973))))
    (sSeq (sApp 2 (fCons (fOp rIx (fLst (fCons (fV 3) (fCons (fOp rMod (fV 4) (fC (.int 1000000))) fNil))) (fB kInt (fCons (fOp rGt (fV 4) (fC (.int 0))) fNil))) fNil))
    (sSet 4 (fOp rDiv (fV 4) (fC (.int 1000000))))))
theorem q_F__law_numbers_b1 {ρ : PSt} : F__law_numbers_b1 ρ = (sSeq (sSet 3 (fOp rMod (fOp rAdd (fOp rAdd (fOp rMul (fV 3) (fOp rAdd (fOp rMod (fV 3) (fC (.int 65521))) (fC (.int 40487)))) (fOp rMul (fC (.int 7)) (fV 5))) (fC (.int 5))) (fC (.int 1999999973))))
    (sSeq (sApp 2 (fCons (fOp rIx (fLst (fCons (fV 3) (fCons (fOp rMod (fV 4) (fC (.int 1000000))) fNil))) (fB kInt (fCons (fOp rGt (fV 4) (fC (.int 0))) fNil))) fNil))
    (sSet 4 (fOp rDiv (fV 4) (fC (.int 1000000)))))) ρ := Eq.trans rfl rfl
noncomputable def F__law_numbers_s : FS := (sSeq (sOwn 2 (fLst fNil))
    (sSeq (sSet 3 (fOp rMod (fOp rMul (fOp rAdd (fOp rMod (fV 0) (fC (.int 1999999973))) (fC (.int 31))) (fC (.int 765432101))) (fC (.int 1999999973))))
    (sSeq (sSet 4 (fC (.int 0)))
    (sSeq (sIf (fOrB (fT (fOp rLt (fV 0) (fC (.int 0)))) (fT (fOp rGe (fV 0) (fOp rPow (fC (.int 10)) (fC (.int 18)))))) (sSet 4 (fB kAbs (fCons (fV 0) fNil))) sSkip)
    (sSeq (sFor (fRng rng1 (fCons (fV 1) fNil)) (gN 5) F__law_numbers_b1)
    (sRetV 2))))))
theorem q_F__law_numbers_s {ρ : PSt} : F__law_numbers_s ρ = (sSeq (sOwn 2 (fLst fNil))
    (sSeq (sSet 3 (fOp rMod (fOp rMul (fOp rAdd (fOp rMod (fV 0) (fC (.int 1999999973))) (fC (.int 31))) (fC (.int 765432101))) (fC (.int 1999999973))))
    (sSeq (sSet 4 (fC (.int 0)))
    (sSeq (sIf (fOrB (fT (fOp rLt (fV 0) (fC (.int 0)))) (fT (fOp rGe (fV 0) (fOp rPow (fC (.int 10)) (fC (.int 18)))))) (sSet 4 (fB kAbs (fCons (fV 0) fNil))) sSkip)
    (sSeq (sFor (fRng rng1 (fCons (fV 1) fNil)) (gN 5) F__law_numbers_b1)
    (sRetV 2)))))) ρ := Eq.trans rfl rfl
noncomputable def F__law_numbers : List PV → Option PR := run 2 6 F__law_numbers_s
theorem q_F__law_numbers {a0 a1 : PV} : F__law_numbers [a0, a1] = (F__law_numbers_s [some (.val a0), some (.val a1), none, none, none, none]).res := Eq.trans rfl rfl
noncomputable def F__law_cell_b1 : FS := (sSet 2 (fOp rMod (fOp rAdd (fOp rMul (fV 2) (fC (.int 69621))) (fV 3)) (fC (.int 2147483647))))
theorem q_F__law_cell_b1 {ρ : PSt} : F__law_cell_b1 ρ = (sSet 2 (fOp rMod (fOp rAdd (fOp rMul (fV 2) (fC (.int 69621))) (fV 3)) (fC (.int 2147483647)))) ρ := Eq.trans rfl rfl
noncomputable def F__law_cell_s : FS := (sSeq (sIf (fT (fOp rLt (fV 1) (fB kLen (fCons (fV 0) fNil)))) (sRet (fOp rIx (fV 0) (fV 1))) sSkip)
    (sSeq (sSet 2 (fOp rMod (fOp rMul (fC (.int 48271)) (fOp rAdd (fOp rAdd (fOp rMul (fV 1) (fV 1)) (fOp rMul (fC (.int 7)) (fV 1))) (fC (.int 11)))) (fC (.int 2147483647))))
    (sSeq (sFor (fIt (fSl (fV 0) fNo (fPt (fC (.int 3))))) (gN 3) F__law_cell_b1)
    (sRetV 2))))
theorem q_F__law_cell_s {ρ : PSt} : F__law_cell_s ρ = (sSeq (sIf (fT (fOp rLt (fV 1) (fB kLen (fCons (fV 0) fNil)))) (sRet (fOp rIx (fV 0) (fV 1))) sSkip)
    (sSeq (sSet 2 (fOp rMod (fOp rMul (fC (.int 48271)) (fOp rAdd (fOp rAdd (fOp rMul (fV 1) (fV 1)) (fOp rMul (fC (.int 7)) (fV 1))) (fC (.int 11)))) (fC (.int 2147483647))))
    (sSeq (sFor (fIt (fSl (fV 0) fNo (fPt (fC (.int 3))))) (gN 3) F__law_cell_b1)
    (sRetV 2)))) ρ := Eq.trans rfl rfl
noncomputable def F__law_cell : List PV → Option PR := run 2 4 F__law_cell_s
theorem q_F__law_cell {a0 a1 : PV} : F__law_cell [a0, a1] = (F__law_cell_s [some (.val a0), some (.val a1), none, none]).res := Eq.trans rfl rfl
noncomputable def F_is_whole_s : FS := (sRet (fAndV (fB kIs (fCons (fV 0) (fCons (fC (.ty "int")) fNil))) (fFr (fNotV (fB kIs (fCons (fV 0) (fCons (fC (.ty "bool")) fNil)))))))
theorem q_F_is_whole_s {ρ : PSt} : F_is_whole_s ρ = (sRet (fAndV (fB kIs (fCons (fV 0) (fCons (fC (.ty "int")) fNil))) (fFr (fNotV (fB kIs (fCons (fV 0) (fCons (fC (.ty "bool")) fNil))))))) ρ := Eq.trans rfl rfl
noncomputable def F_is_whole : List PV → Option PR := run 1 1 F_is_whole_s
theorem q_F_is_whole {a0 : PV} : F_is_whole [a0] = (F_is_whole_s [some (.val a0)]).res := Eq.trans rfl rfl
noncomputable def F_is_many_s : FS := (sRet (fAndV (fCall F_is_whole (fCons (fV 0) fNil)) (fFr (fCh rLe rLe (fC (.int 1)) (fV 0) (fC (.int 40))))))
theorem q_F_is_many_s {ρ : PSt} : F_is_many_s ρ = (sRet (fAndV (fCall F_is_whole (fCons (fV 0) fNil)) (fFr (fCh rLe rLe (fC (.int 1)) (fV 0) (fC (.int 40)))))) ρ := Eq.trans rfl rfl
noncomputable def F_is_many : List PV → Option PR := run 1 1 F_is_many_s
theorem q_F_is_many {a0 : PV} : F_is_many [a0] = (F_is_many_s [some (.val a0)]).res := Eq.trans rfl rfl
noncomputable def F_is_thing_s : FS := (sRet (fAndV (fCall F_is_whole (fCons (fV 1) fNil)) (fFr (fCh rLe rLt (fC (.int 0)) (fV 1) (fV 0)))))
theorem q_F_is_thing_s {ρ : PSt} : F_is_thing_s ρ = (sRet (fAndV (fCall F_is_whole (fCons (fV 1) fNil)) (fFr (fCh rLe rLt (fC (.int 0)) (fV 1) (fV 0))))) ρ := Eq.trans rfl rfl
noncomputable def F_is_thing : List PV → Option PR := run 2 2 F_is_thing_s
theorem q_F_is_thing {a0 a1 : PV} : F_is_thing [a0, a1] = (F_is_thing_s [some (.val a0), some (.val a1)]).res := Eq.trans rfl rfl
noncomputable def F_check_short_s : FS := (sIf (fNotB (fT (fCall F_is_short (fCons (fV 0) fNil)))) sBad sSkip)
theorem q_F_check_short_s {ρ : PSt} : F_check_short_s ρ = (sIf (fNotB (fT (fCall F_is_short (fCons (fV 0) fNil)))) sBad sSkip) ρ := Eq.trans rfl rfl
noncomputable def F_check_short : List PV → Option PR := run 1 1 F_check_short_s
theorem q_F_check_short {a0 : PV} : F_check_short [a0] = (F_check_short_s [some (.val a0)]).res := Eq.trans rfl rfl
noncomputable def F__law_many_s : FS := (sRet (fOp rIx (fLst (fCons (fOp rAdd (fC (.int 1)) (fOp rMod (fOp rDiv (fV 0) (fC (.int 8))) (fC (.int 12)))) (fCons (fOp rAdd (fC (.int 1)) (fOp rMod (fOp rDiv (fV 0) (fC (.int 8))) (fC (.int 40)))) fNil))) (fB kInt (fCons (fOp rEq (fOp rMod (fV 0) (fC (.int 8))) (fC (.int 3))) fNil))))
theorem q_F__law_many_s {ρ : PSt} : F__law_many_s ρ = (sRet (fOp rIx (fLst (fCons (fOp rAdd (fC (.int 1)) (fOp rMod (fOp rDiv (fV 0) (fC (.int 8))) (fC (.int 12)))) (fCons (fOp rAdd (fC (.int 1)) (fOp rMod (fOp rDiv (fV 0) (fC (.int 8))) (fC (.int 40)))) fNil))) (fB kInt (fCons (fOp rEq (fOp rMod (fV 0) (fC (.int 8))) (fC (.int 3))) fNil)))) ρ := Eq.trans rfl rfl
noncomputable def F__law_many : List PV → Option PR := run 1 1 F__law_many_s
theorem q_F__law_many {a0 : PV} : F__law_many [a0] = (F__law_many_s [some (.val a0)]).res := Eq.trans rfl rfl
noncomputable def F__law_way_c1 : FB := (fAndB (fT (fOp rNe (fOp rIx (fV 0) (fOp rIx (fV 2) (fNeg (fC (.int 1))))) (fOp rIx (fV 2) (fNeg (fC (.int 1)))))) (fT (fOp rLe (fB kLen (fCons (fV 2) fNil)) (fB kLen (fCons (fV 0) fNil)))))
theorem q_F__law_way_c1 {ρ : PSt} : F__law_way_c1 ρ = (fAndB (fT (fOp rNe (fOp rIx (fV 0) (fOp rIx (fV 2) (fNeg (fC (.int 1))))) (fOp rIx (fV 2) (fNeg (fC (.int 1)))))) (fT (fOp rLe (fB kLen (fCons (fV 2) fNil)) (fB kLen (fCons (fV 0) fNil))))) ρ := Eq.trans rfl rfl
noncomputable def F__law_way_b2 : FS := (sApp 2 (fCons (fOp rIx (fV 0) (fOp rIx (fV 2) (fNeg (fC (.int 1))))) fNil))
theorem q_F__law_way_b2 {ρ : PSt} : F__law_way_b2 ρ = (sApp 2 (fCons (fOp rIx (fV 0) (fOp rIx (fV 2) (fNeg (fC (.int 1))))) fNil)) ρ := Eq.trans rfl rfl
noncomputable def F__law_way_s : FS := (sSeq (sOwn 2 (fLst (fCons (fV 1) fNil)))
    (sSeq (sWhile F__law_way_c1 F__law_way_b2)
    (sRetV 2)))
theorem q_F__law_way_s {ρ : PSt} : F__law_way_s ρ = (sSeq (sOwn 2 (fLst (fCons (fV 1) fNil)))
    (sSeq (sWhile F__law_way_c1 F__law_way_b2)
    (sRetV 2))) ρ := Eq.trans rfl rfl
noncomputable def F__law_way : List PV → Option PR := run 2 3 F__law_way_s
theorem q_F__law_way {a0 a1 : PV} : F__law_way [a0, a1] = (F__law_way_s [some (.val a0), some (.val a1), none]).res := Eq.trans rfl rfl
end Dp
end
section
namespace Dp
open PySem L2 Fo Pu
noncomputable def oThen (o : Out) (u : FS) : Out := match o with
  | .nx ρ' => u ρ'
  | o => o
noncomputable def oDrop (o : Option RV) (ρ : PSt) : Out := match o with
  | some (.fz _) => .nx ρ
  | _ => .bad
noncomputable def oRet (o : Option RV) : Out := match o with
  | some (.fz p) => .rt p
  | some (.nw ps) => .rn ps
  | _ => .bad
noncomputable def oRetV (o : Option Sl) : Out := match o with
  | some (.val p) => .rt p
  | some (.own ps) => .rn ps
  | _ => .bad
noncomputable def oIf (o : Option Bool) (s u : FS) (ρ : PSt) : Out := match o with
  | some true => s ρ
  | some false => u ρ
  | none => .bad
noncomputable def oSet (o : Option PV) (i : Nat) (ρ : PSt) : Out := match o with
  | some p => .nx (ρ.set i (some (.val p)))
  | none => .bad
noncomputable def oOwn (o : Option RV) (i : Nat) (ρ : PSt) : Out := match o with
  | some (.fz p) => .nx (ρ.set i (some (.val p)))
  | some (.nw ps) => .nx (ρ.set i (some (.own ps)))
  | _ => .bad
noncomputable def oNx (o : Option PSt) : Out := match o with
  | some ρ' => .nx ρ'
  | none => .bad
noncomputable def oAsg (o : Option PV) (t : FT) (ρ : PSt) : Out := match o with
  | some p => oNx (t p ρ)
  | none => .bad
noncomputable def oPar (o : Option (List PV)) (i j : Nat) (ρ : PSt) : Out := match o with
  | some [p, q] => .nx ((ρ.set i (some (.val p))).set j (some (.val q)))
  | _ => .bad
noncomputable def oAug (g : Int → Int → Int) (a : Option Sl) (b : Option PV) (i : Nat) (ρ : PSt) : Out := match a, b with
  | some (.val (.int a)), some (.int b) => .nx (ρ.set i (some (.val (.int (g a b)))))
  | _, _ => .bad
noncomputable def oApp (a : Option Sl) (b : Option (List PV)) (i : Nat) (ρ : PSt) : Out := match a, b with
  | some (.own ps), some [q] => if ps.length ≤ 100000 then .nx (ρ.set i (some (.own (ps ++ [q])))) else .bad
  | _, _ => .bad
noncomputable def oPut2 (o : Option Nat) (v : PV) (ps : List PV) (j : Nat) (ρ : PSt) : Out := match o with
  | some n => .nx (ρ.set j (some (.own (ps.set n v))))
  | none => .bad
noncomputable def oPut (v : Option PV) (a : Option Sl) (k : Option PV) (j : Nat) (ρ : PSt) : Out := match v, a, k with
  | some v, some (.own ps), some (.int k) => oPut2 (ixN ps.length k) v ps j ρ
  | _, _, _ => .bad
noncomputable def oFor (o : Option (List PV)) (t : FT) (s : FS) (ρ : PSt) : Out := match o with
  | some its => loopF t s its ρ
  | none => .bad
noncomputable def oNeg (o : Option PV) : Option RV := match o with
  | some (.int i) => some (.fz (.int (-i)))
  | _ => none
noncomputable def oPt (o : Option PV) : Option (Option Int) := match o with
  | some (.int i) => some (some i)
  | _ => none
noncomputable def oCall (F : List PV → Option PR) (o : Option (List PV)) (rs : List RV) : Option RV := match o with
  | some ps => (F ps).map rvOf
  | none => (F (rs.map RV.pv)).bind fun r => if tfR r = true then some (rvOf r) else none
noncomputable def oEnum (ps : List PV) : Option (List PV) := match ps with
  | [p] => (lstOf p).map (enumP 0)
  | _ => none
noncomputable def oLoop (o : Out) (t : FT) (s : FS) (ps : List PV) : Out := match o with
  | .nx ρ2 => loopF t s ps ρ2
  | .ct ρ2 => loopF t s ps ρ2
  | .bk ρ2 => .nx ρ2
  | o => o
noncomputable def oLoop0 (o : Option PSt) (t : FT) (s : FS) (ps : List PV) : Out := match o with
  | some ρ => oLoop (s ρ) t s ps
  | none => .bad
theorem loop_S {t : FT} {s : FS} {p : PV} {ps : List PV} {ρ : PSt} : loopF t s (p :: ps) ρ = oLoop0 (t p ρ) t s ps := Eq.trans rfl rfl
noncomputable def oWl (o : Out) (c : FB) (s : FS) (n : Nat) : Out := match o with
  | .nx ρ2 => whileF c s n ρ2
  | .ct ρ2 => whileF c s n ρ2
  | .bk ρ2 => .nx ρ2
  | o => o
noncomputable def oWh (o : Option Bool) (c : FB) (s : FS) (n : Nat) (ρ : PSt) : Out := match o with
  | some true => oWl (s ρ) c s n
  | some false => .nx ρ
  | none => .bad
theorem while_S {c : FB} {s : FS} {n : Nat} {ρ : PSt} : whileF c s (n + 1) ρ = oWh (c ρ) c s n ρ := Eq.trans rfl rfl
noncomputable def oAugIx2 (g : Int → Int → Int) (o : Option PV) (ps : List PV) (k b : Int) (j : Nat) (ρ : PSt) : Out := match o with
  | some (.int a) => .nx (ρ.set j (some (.own (ps.set k.toNat (.int (g a b))))))
  | _ => .bad
noncomputable def oAugIx (g : Int → Int → Int) (a : Option Sl) (k b : Option PV) (j : Nat) (ρ : PSt) : Out := match a, k, b with
  | some (.own ps), some (.int k), some (.int b) => if 0 ≤ k then oAugIx2 g ps[k.toNat]? ps k b j ρ else .bad
  | _, _, _ => .bad
theorem x_frzS {s : Option Sl} {i : Nat} {ρ : PSt} : frz (i + 1) (s :: ρ) = s :: frz i ρ := by
  unfold frz
  rw [List.getElem?_cons_succ]
  split <;> simp_all
theorem x_mapM_cons {r : RV} {rs : List RV} : (r :: rs).mapM RV.fr = r.fr.bind fun p => (rs.mapM RV.fr).bind fun ps => some (p :: ps) := by
  rw [List.mapM_cons]; rfl
theorem x_seq {s u : FS} {ρ : PSt} : sSeq s u ρ = oThen (s ρ) u := Eq.trans rfl rfl
theorem x_ol_nx {t : FT} {s : FS} {ps : List PV} {ρ : PSt} : oLoop (.nx ρ) t s ps = loopF t s ps ρ := Eq.trans rfl rfl
theorem x_ol_ct {t : FT} {s : FS} {ps : List PV} {ρ : PSt} : oLoop (.ct ρ) t s ps = loopF t s ps ρ := Eq.trans rfl rfl
theorem x_ol_bk {t : FT} {s : FS} {ps : List PV} {ρ : PSt} : oLoop (.bk ρ) t s ps = .nx ρ := Eq.trans rfl rfl
theorem x_ol_rt {t : FT} {s : FS} {ps : List PV} {p : PV} : oLoop (.rt p) t s ps = .rt p := Eq.trans rfl rfl
theorem x_ol_rn {t : FT} {s : FS} {ps : List PV} {p : List PV} : oLoop (.rn p) t s ps = .rn p := Eq.trans rfl rfl
theorem x_ol0_s {t : FT} {s : FS} {ps : List PV} {ρ : PSt} : oLoop0 (some ρ) t s ps = oLoop (s ρ) t s ps := Eq.trans rfl rfl
theorem x_loop0 {t : FT} {s : FS} {ρ : PSt} : loopF t s [] ρ = .nx ρ := Eq.trans rfl rfl
theorem x_wl_nx {c : FB} {s : FS} {n : Nat} {ρ : PSt} : oWl (.nx ρ) c s n = whileF c s n ρ := Eq.trans rfl rfl
theorem x_wl_ct {c : FB} {s : FS} {n : Nat} {ρ : PSt} : oWl (.ct ρ) c s n = whileF c s n ρ := Eq.trans rfl rfl
theorem x_wl_bk {c : FB} {s : FS} {n : Nat} {ρ : PSt} : oWl (.bk ρ) c s n = .nx ρ := Eq.trans rfl rfl
theorem x_wl_rt {c : FB} {s : FS} {n : Nat} {p : PV} : oWl (.rt p) c s n = .rt p := Eq.trans rfl rfl
theorem x_wh_t {c : FB} {s : FS} {n : Nat} {ρ : PSt} : oWh (some true) c s n ρ = oWl (s ρ) c s n := Eq.trans rfl rfl
theorem x_wh_f {c : FB} {s : FS} {n : Nat} {ρ : PSt} : oWh (some false) c s n ρ = .nx ρ := Eq.trans rfl rfl
theorem x_then_nx {u : FS} {ρ : PSt} : oThen (.nx ρ) u = u ρ := Eq.trans rfl rfl
theorem x_then_rt {u : FS} {p : PV} : oThen (.rt p) u = .rt p := Eq.trans rfl rfl
theorem x_then_rn {u : FS} {p : List PV} : oThen (.rn p) u = .rn p := Eq.trans rfl rfl
theorem x_then_bk {u : FS} {ρ : PSt} : oThen (.bk ρ) u = .bk ρ := Eq.trans rfl rfl
theorem x_then_ct {u : FS} {ρ : PSt} : oThen (.ct ρ) u = .ct ρ := Eq.trans rfl rfl
theorem x_skip {ρ : PSt} : sSkip ρ = .nx ρ := Eq.trans rfl rfl
theorem x_bk {ρ : PSt} : sBk ρ = .bk ρ := Eq.trans rfl rfl
theorem x_ct {ρ : PSt} : sCt ρ = .ct ρ := Eq.trans rfl rfl
theorem x_drop {f : FE} {ρ : PSt} : sDrop f ρ = oDrop (f ρ) ρ := Eq.trans rfl rfl
theorem x_drop_fz {p : PV} {ρ : PSt} : oDrop (some (.fz p)) ρ = .nx ρ := Eq.trans rfl rfl
theorem x_ret {f : FE} {ρ : PSt} : sRet f ρ = oRet (f ρ) := Eq.trans rfl rfl
theorem x_ret_fz {p : PV} : oRet (some (.fz p)) = .rt p := Eq.trans rfl rfl
theorem x_ret_nw {p : List PV} : oRet (some (.nw p)) = .rn p := Eq.trans rfl rfl
theorem x_retV {i : Nat} {ρ : PSt} : sRetV i ρ = oRetV (sl ρ i) := Eq.trans rfl rfl
theorem x_retV_v {p : PV} : oRetV (some (.val p)) = .rt p := Eq.trans rfl rfl
theorem x_retV_o {p : List PV} : oRetV (some (.own p)) = .rn p := Eq.trans rfl rfl
theorem x_if {g : FB} {s u : FS} {ρ : PSt} : sIf g s u ρ = oIf (g ρ) s u ρ := Eq.trans rfl rfl
theorem x_if_t {s u : FS} {ρ : PSt} : oIf (some true) s u ρ = s ρ := Eq.trans rfl rfl
theorem x_if_f {s u : FS} {ρ : PSt} : oIf (some false) s u ρ = u ρ := Eq.trans rfl rfl
theorem x_set {i : Nat} {f : FE} {ρ : PSt} : sSet i f ρ = oSet ((f ρ).bind RV.fr) i ρ := Eq.trans rfl rfl
theorem x_set_s {i : Nat} {p : PV} {ρ : PSt} : oSet (some p) i ρ = .nx (ρ.set i (some (.val p))) := Eq.trans rfl rfl
theorem x_own {i : Nat} {f : FE} {ρ : PSt} : sOwn i f ρ = oOwn (f ρ) i ρ := Eq.trans rfl rfl
theorem x_own_fz {i : Nat} {p : PV} {ρ : PSt} : oOwn (some (.fz p)) i ρ = .nx (ρ.set i (some (.val p))) := Eq.trans rfl rfl
theorem x_own_nw {i : Nat} {p : List PV} {ρ : PSt} : oOwn (some (.nw p)) i ρ = .nx (ρ.set i (some (.own p))) := Eq.trans rfl rfl
theorem x_asg {f : FE} {t : FT} {ρ : PSt} : sAsg f t ρ = oAsg ((f ρ).bind RV.fr) t ρ := Eq.trans rfl rfl
theorem x_asg_s {p : PV} {t : FT} {ρ : PSt} : oAsg (some p) t ρ = oNx (t p ρ) := Eq.trans rfl rfl
theorem x_nx_s {ρ : PSt} : oNx (some ρ) = .nx ρ := Eq.trans rfl rfl
theorem x_par {i j : Nat} {fs : FA} {ρ : PSt} : sPar i j fs ρ = oPar ((fs ρ).bind fun rs => rs.mapM RV.fr) i j ρ := Eq.trans rfl rfl
theorem x_par_s {i j : Nat} {p q : PV} {ρ : PSt} : oPar (some [p, q]) i j ρ = .nx ((ρ.set i (some (.val p))).set j (some (.val q))) := Eq.trans rfl rfl
theorem x_frz {i : Nat} {s : FS} {ρ : PSt} : sFrz i s ρ = s (frz i ρ) := Eq.trans rfl rfl
theorem x_frz0o {ps : List PV} {ρ : PSt} : frz 0 (some (.own ps) :: ρ) = some (.val (.lst ps)) :: ρ := Eq.trans rfl rfl
theorem x_frz0v {p : PV} {ρ : PSt} : frz 0 (some (.val p) :: ρ) = some (.val p) :: ρ := Eq.trans rfl rfl
theorem x_aug {g : Int → Int → Int} {i : Nat} {f : FE} {ρ : PSt} : sAug g i f ρ = oAug g (sl ρ i) ((f ρ).bind RV.fr) i ρ := Eq.trans rfl rfl
theorem x_aug_s {g : Int → Int → Int} {i : Nat} {a b : Int} {ρ : PSt} : oAug g (some (.val (.int a))) (some (.int b)) i ρ = .nx (ρ.set i (some (.val (.int (g a b))))) := Eq.trans rfl rfl
theorem x_app {i : Nat} {fs : FA} {ρ : PSt} : sApp i fs ρ = oApp (sl ρ i) ((fs ρ).bind fun rs => rs.mapM RV.fr) i ρ := Eq.trans rfl rfl
theorem x_app_s {i : Nat} {ps : List PV} {q : PV} {ρ : PSt} : oApp (some (.own ps)) (some [q]) i ρ = if ps.length ≤ 100000 then .nx (ρ.set i (some (.own (ps ++ [q])))) else .bad := Eq.trans rfl rfl
theorem x_put {j : Nat} {fi f : FE} {ρ : PSt} : sPut j fi f ρ = oPut ((f ρ).bind RV.fr) (sl ρ j) ((fi ρ).bind RV.fr) j ρ := Eq.trans rfl rfl
theorem x_put_s {v : PV} {ps : List PV} {k : Int} {j : Nat} {ρ : PSt} : oPut (some v) (some (.own ps)) (some (.int k)) j ρ = oPut2 (ixN ps.length k) v ps j ρ := Eq.trans rfl rfl
theorem x_put_n {v : PV} {ps : List PV} {n j : Nat} {ρ : PSt} : oPut2 (some n) v ps j ρ = .nx (ρ.set j (some (.own (ps.set n v)))) := Eq.trans rfl rfl
theorem x_for {it : FI} {t : FT} {s : FS} {ρ : PSt} : sFor it t s ρ = oFor (it ρ) t s ρ := Eq.trans rfl rfl
theorem x_for_s {its : List PV} {t : FT} {s : FS} {ρ : PSt} : oFor (some its) t s ρ = loopF t s its ρ := Eq.trans rfl rfl
theorem x_while {c : FB} {s : FS} {ρ : PSt} : sWhile c s ρ = whileF c s 10000 ρ := Eq.trans rfl rfl
theorem x_res_nx {ρ : PSt} : Out.res (.nx ρ) = some (.v .non) := Eq.trans rfl rfl
theorem x_res_rt {p : PV} : Out.res (.rt p) = some (.v p) := Eq.trans rfl rfl
theorem x_res_rn {p : List PV} : Out.res (.rn p) = some (.n p) := Eq.trans rfl rfl
theorem x_v {i : Nat} {ρ : PSt} : fV i ρ = (sl ρ i).map slRV := Eq.trans rfl rfl
theorem x_sl0 {s : Option Sl} {ρ : PSt} : sl (s :: ρ) 0 = s := Eq.trans rfl rfl
theorem x_slS {s : Option Sl} {i : Nat} {ρ : PSt} : sl (s :: ρ) (i + 1) = sl ρ i := Eq.trans rfl rfl
theorem x_slrv_v {p : PV} : slRV (.val p) = .fz p := Eq.trans rfl rfl
theorem x_slrv_o {p : List PV} : slRV (.own p) = .ln (.lst p) := Eq.trans rfl rfl
theorem x_c {p : PV} {ρ : PSt} : fC p ρ = some (.fz p) := Eq.trans rfl rfl
theorem x_op {g : PV → PV → Option RV} {a b : FE} {ρ : PSt} : fOp g a b ρ = (a ρ).bind fun x => (b ρ).bind fun y => g x.pv y.pv := Eq.trans rfl rfl
theorem x_pv_fz {p : PV} : RV.pv (.fz p) = p := Eq.trans rfl rfl
theorem x_pv_nw {p : List PV} : RV.pv (.nw p) = .lst p := Eq.trans rfl rfl
theorem x_pv_ln {p : PV} : RV.pv (.ln p) = p := Eq.trans rfl rfl
theorem x_fr_fz {p : PV} : RV.fr (.fz p) = some p := Eq.trans rfl rfl
theorem x_fr_nw {p : List PV} : RV.fr (.nw p) = some (.lst p) := Eq.trans rfl rfl
theorem x_fr_ln {p : PV} : RV.fr (.ln p) = none := Eq.trans rfl rfl
theorem x_t {f : FE} {ρ : PSt} : fT f ρ = asB (f ρ) := Eq.trans rfl rfl
theorem x_asB {b : Bool} : asB (some (.fz (.bl b))) = some b := Eq.trans rfl rfl
theorem x_notB {g : FB} {ρ : PSt} : fNotB g ρ = (g ρ).map fun b => !b := Eq.trans rfl rfl
theorem x_andB {g k : FB} {ρ : PSt} : fAndB g k ρ = (g ρ).bind fun b => if b = true then k ρ else some false := Eq.trans rfl rfl
theorem x_orB {g k : FB} {ρ : PSt} : fOrB g k ρ = (g ρ).bind fun b => if b = true then some true else k ρ := Eq.trans rfl rfl
theorem x_fFr {f : FE} {ρ : PSt} : fFr f ρ = (f ρ).bind fun r => r.fr.map .fz := Eq.trans rfl rfl
theorem x_andV {f g : FE} {ρ : PSt} : fAndV f g ρ = (asB (f ρ)).bind fun b => if b = true then fFr g ρ else some (.fz (.bl false)) := Eq.trans rfl rfl
theorem x_orV {f g : FE} {ρ : PSt} : fOrV f g ρ = (asB (f ρ)).bind fun b => if b = true then some (.fz (.bl true)) else fFr g ρ := Eq.trans rfl rfl
theorem x_notV {f : FE} {ρ : PSt} : fNotV f ρ = (asB (f ρ)).map fun b => .fz (.bl (!b)) := Eq.trans rfl rfl
theorem x_neg {f : FE} {ρ : PSt} : fNeg f ρ = (f ρ).bind fun r => oNeg r.fr := Eq.trans rfl rfl
theorem x_neg_s {i : Int} : oNeg (some (.int i)) = some (.fz (.int (-i))) := Eq.trans rfl rfl
theorem x_ifE {g : FB} {f k : FE} {ρ : PSt} : fIf g f k ρ = (g ρ).bind fun b => if b = true then fFr f ρ else fFr k ρ := Eq.trans rfl rfl
theorem x_ch {g g' : PV → PV → Option RV} {a b c : FE} {ρ : PSt} : fCh g g' a b c ρ = (a ρ).bind fun x => (b ρ).bind fun y => (asB (g x.pv y.pv)).bind fun k => if k = true then (c ρ).bind fun z => g' y.pv z.pv else some (.fz (.bl false)) := Eq.trans rfl rfl
theorem x_nil {ρ : PSt} : fNil ρ = some [] := Eq.trans rfl rfl
theorem x_cons {f : FE} {fs : FA} {ρ : PSt} : fCons f fs ρ = (f ρ).bind fun r => (fs ρ).bind fun rs => some (r :: rs) := Eq.trans rfl rfl
theorem x_mapM_nil  : ([] : List RV).mapM RV.fr = some [] := Eq.trans rfl rfl
theorem x_tup {fs : FA} {ρ : PSt} : fTup fs ρ = (fs ρ).bind fun rs => (rs.mapM RV.fr).bind fun ps => if ps.length ≤ 100000 then some (.fz (.tup ps)) else none := Eq.trans rfl rfl
theorem x_lst {fs : FA} {ρ : PSt} : fLst fs ρ = (fs ρ).bind fun rs => (rs.mapM RV.fr).bind fun ps => if ps.length ≤ 100000 then some (.nw ps) else none := Eq.trans rfl rfl
theorem x_add_i {i j : Int} : rAdd (.int i) (.int j) = some (.fz (.int (i + j))) := Eq.trans rfl rfl
theorem x_add_l {ps qs : List PV} : rAdd (.lst ps) (.lst qs) = if ps.length + qs.length ≤ 100000 then some (.nw (ps ++ qs)) else none := Eq.trans rfl rfl
theorem x_add_t {ps qs : List PV} : rAdd (.tup ps) (.tup qs) = if ps.isEmpty = false ∧ ps.length + qs.length ≤ 100000 then some (.fz (.tup (ps ++ qs))) else none := Eq.trans rfl rfl
theorem x_sub_i {i j : Int} : rSub (.int i) (.int j) = some (.fz (.int (i - j))) := Eq.trans rfl rfl
theorem x_mul_i {i j : Int} : rMul (.int i) (.int j) = if (i.natAbs < 2 ^ 64) ∨ (j.natAbs < 2 ^ 64) then some (.fz (.int (i * j))) else none := Eq.trans rfl rfl
theorem x_mul_l {ps : List PV} {j : Int} : rMul (.lst ps) (.int j) = if j ≤ 1000 ∧ -1000 ≤ j ∧ ps.length ≤ 100 then some (.nw (List.replicate j.toNat ps).flatten) else none := Eq.trans rfl rfl
theorem x_mul_t {ps : List PV} {j : Int} : rMul (.tup ps) (.int j) = if ps.isEmpty = false ∧ 1 ≤ j ∧ j ≤ 1000 ∧ ps.length ≤ 1000 then some (.fz (.tup (List.replicate j.toNat ps).flatten)) else none := Eq.trans rfl rfl
theorem x_div_i {i j : Int} : rDiv (.int i) (.int j) = if 0 < j ∧ j < 1073741824 then some (.fz (.int (i / j))) else none := Eq.trans rfl rfl
theorem x_mod_i {i j : Int} : rMod (.int i) (.int j) = if 0 < j then some (.fz (.int (i % j))) else none := Eq.trans rfl rfl
theorem x_pow_i {i j : Int} : rPow (.int i) (.int j) = if 0 ≤ j ∧ j ≤ 1000000 ∧ i.natAbs < 2 ^ 64 then some (.fz (.int (i ^ j.toNat))) else none := Eq.trans rfl rfl
theorem x_band_i {i j : Int} : rBand (.int i) (.int j) = some (.fz (.int (Builtin.bitAnd i j))) := Eq.trans rfl rfl
theorem x_lt_i {i j : Int} : rLt (.int i) (.int j) = some (.fz (.bl (decide (i < j)))) := Eq.trans rfl rfl
theorem x_le_i {i j : Int} : rLe (.int i) (.int j) = some (.fz (.bl (decide (i ≤ j)))) := Eq.trans rfl rfl
theorem x_gt_i {i j : Int} : rGt (.int i) (.int j) = some (.fz (.bl (decide (j < i)))) := Eq.trans rfl rfl
theorem x_ge_i {i j : Int} : rGe (.int i) (.int j) = some (.fz (.bl (decide (j ≤ i)))) := Eq.trans rfl rfl
theorem x_eq_p {x y : PV} : rEq x y = if plain x && plain y && decide (dep x ≤ 50) then some (.fz (.bl (peq x y))) else none := Eq.trans rfl rfl
theorem x_ne_p {x y : PV} : rNe x y = if plain x && plain y && decide (dep x ≤ 50) then some (.fz (.bl (!peq x y))) else none := Eq.trans rfl rfl
theorem x_in_l {x : PV} {ps : List PV} : rIn x (.lst ps) = if plain x && plains ps && decide (deps ps ≤ 50) then some (.fz (.bl (pin x ps))) else none := Eq.trans rfl rfl
theorem x_in_t {x : PV} {ps : List PV} : rIn x (.tup ps) = if plain x && plains ps && decide (deps ps ≤ 50) then some (.fz (.bl (pin x ps))) else none := Eq.trans rfl rfl
theorem x_nin_l {x : PV} {ps : List PV} : rNotIn x (.lst ps) = if plain x && plains ps && decide (deps ps ≤ 50) then some (.fz (.bl (!pin x ps))) else none := Eq.trans rfl rfl
theorem x_nin_t {x : PV} {ps : List PV} : rNotIn x (.tup ps) = if plain x && plains ps && decide (deps ps ≤ 50) then some (.fz (.bl (!pin x ps))) else none := Eq.trans rfl rfl
theorem x_is_n {x : PV} : rIs x .non = some (.fz (.bl (isNon x))) := Eq.trans rfl rfl
theorem x_isnot_n {x : PV} : rIsNot x .non = some (.fz (.bl (!isNon x))) := Eq.trans rfl rfl
theorem x_ix_t {ps : List PV} {i : Int} : rIx (.tup ps) (.int i) = (L2.atI ps i).map .fz := Eq.trans rfl rfl
theorem x_ix_l {ps : List PV} {i : Int} : rIx (.lst ps) (.int i) = (L2.atI ps i).map .fz := Eq.trans rfl rfl
theorem x_ix_s {ps : List PV} {i : Int} : rIx (.src ps) (.int i) = (L2.atI ps i).map .fz := Eq.trans rfl rfl
theorem x_sl {f : FE} {l h : FO} {ρ : PSt} : fSl f l h ρ = (f ρ).bind fun r => (l ρ).bind fun lo => (h ρ).bind fun hi => rSl r.pv lo hi := Eq.trans rfl rfl
theorem x_no {ρ : PSt} : fNo ρ = some none := Eq.trans rfl rfl
theorem x_pt {f : FE} {ρ : PSt} : fPt f ρ = (f ρ).bind fun r => oPt r.fr := Eq.trans rfl rfl
theorem x_pt_s {i : Int} : oPt (some (.int i)) = some (some i) := Eq.trans rfl rfl
theorem x_sl_l {ps : List PV} {l h : Option Int} : rSl (.lst ps) l h = some (.nw (cut ps l h)) := Eq.trans rfl rfl
theorem x_sl_s {ps : List PV} {l h : Option Int} : rSl (.src ps) l h = some (.nw (cut ps l h)) := Eq.trans rfl rfl
theorem x_sl_t {ps : List PV} {l h : Option Int} : rSl (.tup ps) l h = if HT.sIx ps.length 0 l = 0 ∧ HT.sIx ps.length ps.length h = ps.length then none else some (.fz (.tup (cut ps l h))) := Eq.trans rfl rfl
theorem x_b {g : List PV → Option RV} {fs : FA} {ρ : PSt} : fB g fs ρ = (fs ρ).bind fun rs => g (rs.map RV.pv) := Eq.trans rfl rfl
theorem x_len_l {ps : List PV} : kLen [.lst ps] = some (.fz (.int ps.length)) := Eq.trans rfl rfl
theorem x_len_t {ps : List PV} : kLen [.tup ps] = some (.fz (.int ps.length)) := Eq.trans rfl rfl
theorem x_len_s {ps : List PV} : kLen [.src ps] = some (.fz (.int ps.length)) := Eq.trans rfl rfl
theorem x_abs_i {i : Int} : kAbs [.int i] = some (.fz (.int (if i < 0 then -i else i))) := Eq.trans rfl rfl
theorem x_max_i {i j : Int} : kMax2 [.int i, .int j] = some (.fz (.int (if j > i then j else i))) := Eq.trans rfl rfl
theorem x_min_i {i j : Int} : kMin2 [.int i, .int j] = some (.fz (.int (if j < i then j else i))) := Eq.trans rfl rfl
theorem x_int_i {i : Int} : kInt [.int i] = some (.fz (.int i)) := Eq.trans rfl rfl
theorem x_int_b {b : Bool} : kInt [.bl b] = some (.fz (.int (if b then 1 else 0))) := Eq.trans rfl rfl
theorem x_all_l {ps : List PV} : kAll [.lst ps] = (bls ps).map fun bs => .fz (.bl (bs.all id)) := Eq.trans rfl rfl
theorem x_any_l {ps : List PV} : kAny [.lst ps] = (bls ps).map fun bs => .fz (.bl (bs.any id)) := Eq.trans rfl rfl
theorem x_tup_l {ps : List PV} : kTup [.lst ps] = some (.fz (.tup ps)) := Eq.trans rfl rfl
theorem x_tup_t {ps : List PV} : kTup [.tup ps] = some (.fz (.tup ps)) := Eq.trans rfl rfl
theorem x_list_r {lo j : Int} : kList [.rng lo j] = if lo = 0 ∧ 0 ≤ j ∧ j ≤ 1000000 then some (.nw (ups 0 j.toNat)) else none := Eq.trans rfl rfl
theorem x_list_l {ps : List PV} : kList [.lst ps] = some (.nw ps) := Eq.trans rfl rfl
theorem x_list_t {ps : List PV} : kList [.tup ps] = some (.nw ps) := Eq.trans rfl rfl
theorem x_rng_i {j : Int} : kRng [.int j] = if -(2 ^ 62) ≤ j ∧ j < 2 ^ 62 then some (.fz (.rng 0 j)) else none := Eq.trans rfl rfl
theorem x_sorted_l {ps : List PV} : kSorted [.lst ps] = (keysOf ps).bind fun ks => if ps.length < 64 then some (.nw ((ordI ks).map fun i => ps.getD i .non)) else none := Eq.trans rfl rfl
theorem x_call {F : List PV → Option PR} {fs : FA} {ρ : PSt} : fCall F fs ρ = (fs ρ).bind fun rs => oCall F (rs.mapM RV.fr) rs := Eq.trans rfl rfl
theorem x_call_s {F : List PV → Option PR} {ps : List PV} {rs : List RV} : oCall F (some ps) rs = (F ps).map rvOf := Eq.trans rfl rfl
theorem x_call_n {F : List PV → Option PR} {rs : List RV} : oCall F none rs = (F (rs.map RV.pv)).bind fun r => if tfR r = true then some (rvOf r) else none := Eq.trans rfl rfl
theorem x_rv_v {p : PV} : rvOf (.v p) = .fz p := Eq.trans rfl rfl
theorem x_rv_n {p : List PV} : rvOf (.n p) = .nw p := Eq.trans rfl rfl
theorem x_tfR_v {p : PV} : tfR (.v p) = tf p := Eq.trans rfl rfl
theorem x_tfR_n {p : List PV} : tfR (.n p) = tfs p := Eq.trans rfl rfl
theorem x_it {f : FE} {ρ : PSt} : fIt f ρ = (f ρ).bind fun r => r.fr.bind items := Eq.trans rfl rfl
theorem x_items_t {ps : List PV} : items (.tup ps) = some ps := Eq.trans rfl rfl
theorem x_items_l {ps : List PV} : items (.lst ps) = some ps := Eq.trans rfl rfl
theorem x_items_s {ps : List PV} : items (.src ps) = some ps := Eq.trans rfl rfl
theorem x_rng {g : List PV → Option (List PV)} {fs : FA} {ρ : PSt} : fRng g fs ρ = (fs ρ).bind fun rs => g (rs.map RV.pv) := Eq.trans rfl rfl
theorem x_rng1 {j : Int} : rng1 [.int j] = if okI j then some (ups 0 j.toNat) else none := Eq.trans rfl rfl
theorem x_rev {f : FE} {ρ : PSt} : fRev f ρ = (f ρ).bind fun r => (lstOf r.pv).map fun ps => .nw ps.reverse := Eq.trans rfl rfl
theorem x_lstOf_l {ps : List PV} : lstOf (.lst ps) = some ps := Eq.trans rfl rfl
theorem x_lstOf_s {ps : List PV} : lstOf (.src ps) = some ps := Eq.trans rfl rfl
theorem x_maxl {ps : List PV} : kMaxL [.lst ps] = (intsOf ps).bind fun is => if is.length = 0 then none else some (.fz (.int (maxI is))) := Eq.trans rfl rfl
theorem x_minl {ps : List PV} : kMinL [.lst ps] = (intsOf ps).bind fun is => if is.length = 0 then none else some (.fz (.int (minI is))) := Eq.trans rfl rfl
theorem x_suml {ps : List PV} : kSum [.lst ps] = (intsOf ps).map fun is => .fz (.int is.sum) := Eq.trans rfl rfl
theorem x_augIx {g : Int → Int → Int} {j : Nat} {fi f : FE} {ρ : PSt} : sAugIx g j fi f ρ = oAugIx g (sl ρ j) ((fi ρ).bind RV.fr) ((f ρ).bind RV.fr) j ρ := Eq.trans rfl rfl
theorem x_augIx_s {g : Int → Int → Int} {ps : List PV} {k b : Int} {j : Nat} {ρ : PSt} : oAugIx g (some (.own ps)) (some (.int k)) (some (.int b)) j ρ = if 0 ≤ k then oAugIx2 g ps[k.toNat]? ps k b j ρ else .bad := Eq.trans rfl rfl
theorem x_augIx_n {g : Int → Int → Int} {a : Int} {ps : List PV} {k b : Int} {j : Nat} {ρ : PSt} : oAugIx2 g (some (.int a)) ps k b j ρ = .nx (ρ.set j (some (.own (ps.set k.toNat (.int (g a b)))))) := Eq.trans rfl rfl
theorem x_enum {fs : FA} {ρ : PSt} : fEnum fs ρ = (fs ρ).bind fun rs => (rs.mapM RV.fr).bind oEnum := Eq.trans rfl rfl
theorem x_enum_l {ps : List PV} : oEnum [.lst ps] = some (enumP 0 ps) := Eq.trans rfl rfl
theorem x_gN {i : Nat} {p : PV} {ρ : PSt} : gN i p ρ = some (ρ.set i (some (.val p))) := Eq.trans rfl rfl
theorem x_g0 {ρ : PSt} : g0 [] ρ = some ρ := Eq.trans rfl rfl
theorem x_gC {t : FT} {ts : FTs} {p : PV} {ps : List PV} {ρ : PSt} : gC t ts (p :: ps) ρ = (t p ρ).bind fun ρ' => ts ps ρ' := Eq.trans rfl rfl
theorem x_gTn {n : Nat} {ts : FTs} {ps : List PV} {ρ : PSt} : gTn n ts (.tup ps) ρ = if ps.length = n then ts ps ρ else none := Eq.trans rfl rfl
theorem x_comp {fm : List (Option Nat)} {it : FI} {t : FT} {c : FB} {f : FE} {ρ : PSt} : fComp fm it t c f ρ = (it ρ).bind fun its => if its.length < 1000 then (goF t c f (subρ fm ρ) its).map .nw else none := Eq.trans rfl rfl
theorem x_yes {ρ : PSt} : fYes ρ = some true := Eq.trans rfl rfl
theorem x_sub_nil {ρ : PSt} : subρ [] ρ = [] := Eq.trans rfl rfl
theorem x_sub_none {fm : List (Option Nat)} {ρ : PSt} : subρ (none :: fm) ρ = none :: subρ fm ρ := Eq.trans rfl rfl
theorem x_sub_some {j : Nat} {fm : List (Option Nat)} {ρ : PSt} : subρ (some j :: fm) ρ = sl ρ j :: subρ fm ρ := Eq.trans rfl rfl
theorem x_set0 {s v : Option Sl} {ρ : PSt} : List.set (s :: ρ) 0 v = v :: ρ := Eq.trans rfl rfl
theorem x_setS {s v : Option Sl} {i : Nat} {ρ : PSt} : List.set (s :: ρ) (i + 1) v = s :: List.set ρ i v := Eq.trans rfl rfl
theorem x_kis {p : PV} {n : String} {b : Bool} (hn : n = "int" ∨ n = "bool" ∨ n = "str" ∨ n = "tuple" ∨ n = "list" ∨ n = "dict") (h : isI n p = some b) : kIs [p, .ty n] = some (.fz (.bl b)) := by
  unfold kIs; simp only [hn, if_true, h, Option.map_some]
theorem x_is_int_int {i : Int} : kIs [(.int i), .ty "int"] = some (.fz (.bl true)) := x_kis (by decide) rfl
theorem x_is_int_bool {i : Int} : kIs [(.int i), .ty "bool"] = some (.fz (.bl false)) := x_kis (by decide) rfl
theorem x_is_int_str {i : Int} : kIs [(.int i), .ty "str"] = some (.fz (.bl false)) := x_kis (by decide) rfl
theorem x_is_int_tuple {i : Int} : kIs [(.int i), .ty "tuple"] = some (.fz (.bl false)) := x_kis (by decide) rfl
theorem x_is_int_list {i : Int} : kIs [(.int i), .ty "list"] = some (.fz (.bl false)) := x_kis (by decide) rfl
theorem x_is_int_dict {i : Int} : kIs [(.int i), .ty "dict"] = some (.fz (.bl false)) := x_kis (by decide) rfl
theorem x_is_bl_int {i : Bool} : kIs [(.bl i), .ty "int"] = some (.fz (.bl true)) := x_kis (by decide) rfl
theorem x_is_bl_bool {i : Bool} : kIs [(.bl i), .ty "bool"] = some (.fz (.bl true)) := x_kis (by decide) rfl
theorem x_is_bl_str {i : Bool} : kIs [(.bl i), .ty "str"] = some (.fz (.bl false)) := x_kis (by decide) rfl
theorem x_is_bl_tuple {i : Bool} : kIs [(.bl i), .ty "tuple"] = some (.fz (.bl false)) := x_kis (by decide) rfl
theorem x_is_bl_list {i : Bool} : kIs [(.bl i), .ty "list"] = some (.fz (.bl false)) := x_kis (by decide) rfl
theorem x_is_bl_dict {i : Bool} : kIs [(.bl i), .ty "dict"] = some (.fz (.bl false)) := x_kis (by decide) rfl
theorem x_is_tup_int {i : List PV} : kIs [(.tup i), .ty "int"] = some (.fz (.bl false)) := x_kis (by decide) rfl
theorem x_is_tup_bool {i : List PV} : kIs [(.tup i), .ty "bool"] = some (.fz (.bl false)) := x_kis (by decide) rfl
theorem x_is_tup_str {i : List PV} : kIs [(.tup i), .ty "str"] = some (.fz (.bl false)) := x_kis (by decide) rfl
theorem x_is_tup_tuple {i : List PV} : kIs [(.tup i), .ty "tuple"] = some (.fz (.bl true)) := x_kis (by decide) rfl
theorem x_is_tup_list {i : List PV} : kIs [(.tup i), .ty "list"] = some (.fz (.bl false)) := x_kis (by decide) rfl
theorem x_is_tup_dict {i : List PV} : kIs [(.tup i), .ty "dict"] = some (.fz (.bl false)) := x_kis (by decide) rfl
theorem x_is_lst_int {i : List PV} : kIs [(.lst i), .ty "int"] = some (.fz (.bl false)) := x_kis (by decide) rfl
theorem x_is_lst_bool {i : List PV} : kIs [(.lst i), .ty "bool"] = some (.fz (.bl false)) := x_kis (by decide) rfl
theorem x_is_lst_str {i : List PV} : kIs [(.lst i), .ty "str"] = some (.fz (.bl false)) := x_kis (by decide) rfl
theorem x_is_lst_tuple {i : List PV} : kIs [(.lst i), .ty "tuple"] = some (.fz (.bl false)) := x_kis (by decide) rfl
theorem x_is_lst_list {i : List PV} : kIs [(.lst i), .ty "list"] = some (.fz (.bl true)) := x_kis (by decide) rfl
theorem x_is_lst_dict {i : List PV} : kIs [(.lst i), .ty "dict"] = some (.fz (.bl false)) := x_kis (by decide) rfl
theorem x_is_str_int {i : Str} : kIs [(.str i), .ty "int"] = some (.fz (.bl false)) := x_kis (by decide) rfl
theorem x_is_str_bool {i : Str} : kIs [(.str i), .ty "bool"] = some (.fz (.bl false)) := x_kis (by decide) rfl
theorem x_is_str_str {i : Str} : kIs [(.str i), .ty "str"] = some (.fz (.bl true)) := x_kis (by decide) rfl
theorem x_is_str_tuple {i : Str} : kIs [(.str i), .ty "tuple"] = some (.fz (.bl false)) := x_kis (by decide) rfl
theorem x_is_str_list {i : Str} : kIs [(.str i), .ty "list"] = some (.fz (.bl false)) := x_kis (by decide) rfl
theorem x_is_str_dict {i : Str} : kIs [(.str i), .ty "dict"] = some (.fz (.bl false)) := x_kis (by decide) rfl
theorem x_is_non_int  : kIs [.non, .ty "int"] = some (.fz (.bl false)) := x_kis (by decide) rfl
theorem x_is_non_bool  : kIs [.non, .ty "bool"] = some (.fz (.bl false)) := x_kis (by decide) rfl
theorem x_is_non_str  : kIs [.non, .ty "str"] = some (.fz (.bl false)) := x_kis (by decide) rfl
theorem x_is_non_tuple  : kIs [.non, .ty "tuple"] = some (.fz (.bl false)) := x_kis (by decide) rfl
theorem x_is_non_list  : kIs [.non, .ty "list"] = some (.fz (.bl false)) := x_kis (by decide) rfl
theorem x_is_non_dict  : kIs [.non, .ty "dict"] = some (.fz (.bl false)) := x_kis (by decide) rfl
theorem y_bind_some {α β : Type} {a : α} {f : α → Option β} : ((some a).bind f) = f a := Eq.trans rfl rfl
theorem y_bind_none {α β : Type} {f : α → Option β} : ((none : Option α).bind f) = none := Eq.trans rfl rfl
theorem y_map_some {α β : Type} {a : α} {f : α → β} : ((some a).map f) = some (f a) := Eq.trans rfl rfl
theorem y_map_none {α β : Type} {f : α → β} : ((none : Option α).map f) = none := Eq.trans rfl rfl
theorem y_map_cons {α β : Type} {a : α} {l : List α} {f : α → β} : ((a :: l).map f) = f a :: l.map f := Eq.trans rfl rfl
theorem y_map_nil {α β : Type} {f : α → β} : (([] : List α).map f) = [] := Eq.trans rfl rfl
theorem y_nil_app {α : Type} {l : List α} : ([] ++ l) = l := Eq.trans rfl rfl
theorem y_cons_app {α : Type} {a : α} {l m : List α} : ((a :: l) ++ m) = a :: (l ++ m) := Eq.trans rfl rfl
theorem y_len_cons {α : Type} {a : α} {l : List α} : ((a :: l).length) = l.length + 1 := Eq.trans rfl rfl
theorem y_len_nil {α : Type} : (([] : List α).length) = 0 := Eq.trans rfl rfl
theorem y_if_t {α : Type} {a b : α} : ((if True then a else b)) = a := Eq.trans rfl rfl
theorem y_if_f {α : Type} {a b : α} : ((if False then a else b)) = b := Eq.trans rfl rfl
theorem y_if_tt {α : Type} {a b : α} : ((if true = true then a else b)) = a := Eq.trans rfl rfl
theorem y_if_ff {α : Type} {a b : α} : ((if false = true then a else b)) = b := Eq.trans rfl rfl
theorem y_empty_c {α : Type} {a : α} {l : List α} : ((a :: l).isEmpty) = false := Eq.trans rfl rfl
theorem y_empty_n {α : Type} : (([] : List α).isEmpty) = true := Eq.trans rfl rfl
theorem y_plain_non  : (plain .non) = true := Eq.trans rfl rfl
theorem y_plain_bl {b : Bool} : (plain (.bl b)) = true := Eq.trans rfl rfl
theorem y_plain_int {b : Int} : (plain (.int b)) = true := Eq.trans rfl rfl
theorem y_plain_str {b : Str} : (plain (.str b)) = true := Eq.trans rfl rfl
theorem y_dep_non  : (dep .non) = 0 := Eq.trans rfl rfl
theorem y_dep_bl {b : Bool} : (dep (.bl b)) = 0 := Eq.trans rfl rfl
theorem y_dep_int {b : Int} : (dep (.int b)) = 0 := Eq.trans rfl rfl
theorem y_dep_str {b : Str} : (dep (.str b)) = 0 := Eq.trans rfl rfl
theorem y_nI {n : Nat} : (nI n) = PV.int n := Eq.trans rfl rfl
theorem y_isnon  : (isNon .non) = true := Eq.trans rfl rfl
theorem y_isnon_i {i : Int} : (isNon (.int i)) = false := Eq.trans rfl rfl
theorem y_isnon_b {i : Bool} : (isNon (.bl i)) = false := Eq.trans rfl rfl
theorem y_isnon_t {i : List PV} : (isNon (.tup i)) = false := Eq.trans rfl rfl
theorem y_isnon_l {i : List PV} : (isNon (.lst i)) = false := Eq.trans rfl rfl
theorem y_isnon_s {i : Str} : (isNon (.str i)) = false := Eq.trans rfl rfl
theorem y_okI {i : Int} : (okI i) = (decide (-4611686018427387904 ≤ i) && decide (i < 4611686018427387904)) := Eq.trans rfl rfl
theorem y_plain_t {ps : List PV} : plain (.tup ps) = plains ps := by rw [Pu.plain]
theorem y_plain_l {ps : List PV} : plain (.lst ps) = plains ps := by rw [Pu.plain]
theorem y_plains_n : plains [] = true := by rw [plains]
theorem y_plains_c {p : PV} {ps : List PV} : plains (p :: ps) = (plain p && plains ps) := by rw [plains]
theorem y_dep_t {ps : List PV} : dep (.tup ps) = deps ps + 1 := by rw [dep]
theorem y_dep_l {ps : List PV} : dep (.lst ps) = deps ps + 1 := by rw [dep]
theorem y_deps_n : deps [] = 0 := by rw [deps]
theorem y_deps_c {p : PV} {ps : List PV} : deps (p :: ps) = max (dep p) (deps ps) := by rw [deps]
noncomputable def E1 := (And.intro (And.intro @x_frzS (And.intro @x_mapM_cons @x_seq)) (And.intro @x_ol_nx (And.intro @x_ol_ct @x_ol_bk)))
noncomputable def E2 := (And.intro (And.intro @x_ol_rt (And.intro @x_ol_rn @x_ol0_s)) (And.intro @x_loop0 (And.intro @x_wl_nx @x_wl_ct)))
noncomputable def E3 := (And.intro (And.intro @x_wl_bk (And.intro @x_wl_rt @x_wh_t)) (And.intro @x_wh_f (And.intro @x_then_nx @x_then_rt)))
noncomputable def E4 := (And.intro (And.intro @x_then_rn (And.intro @x_then_bk @x_then_ct)) (And.intro @x_skip (And.intro @x_bk @x_ct)))
noncomputable def E5 := (And.intro (And.intro @x_drop (And.intro @x_drop_fz @x_ret)) (And.intro @x_ret_fz (And.intro @x_ret_nw @x_retV)))
noncomputable def E6 := (And.intro (And.intro @x_retV_v (And.intro @x_retV_o @x_if)) (And.intro @x_if_t (And.intro @x_if_f @x_set)))
noncomputable def E7 := (And.intro (And.intro @x_set_s (And.intro @x_own @x_own_fz)) (And.intro @x_own_nw (And.intro @x_asg @x_asg_s)))
noncomputable def E8 := (And.intro (And.intro @x_nx_s (And.intro @x_par @x_par_s)) (And.intro @x_frz (And.intro @x_frz0o @x_frz0v)))
noncomputable def E9 := (And.intro (And.intro @x_aug (And.intro @x_aug_s @x_app)) (And.intro @x_app_s (And.intro @x_put @x_put_s)))
noncomputable def E10 := (And.intro (And.intro @x_put_n (And.intro @x_for @x_for_s)) (And.intro @x_while (And.intro @x_res_nx @x_res_rt)))
noncomputable def E11 := (And.intro (And.intro @x_res_rn (And.intro @x_v @x_sl0)) (And.intro @x_slS (And.intro @x_slrv_v @x_slrv_o)))
noncomputable def E12 := (And.intro (And.intro @x_c (And.intro @x_op @x_pv_fz)) (And.intro @x_pv_nw (And.intro @x_pv_ln @x_fr_fz)))
noncomputable def E13 := (And.intro (And.intro @x_fr_nw (And.intro @x_fr_ln @x_t)) (And.intro @x_asB (And.intro @x_notB @x_andB)))
noncomputable def E14 := (And.intro (And.intro @x_orB (And.intro @x_fFr @x_andV)) (And.intro @x_orV (And.intro @x_notV @x_neg)))
noncomputable def E15 := (And.intro (And.intro @x_neg_s (And.intro @x_ifE @x_ch)) (And.intro @x_nil (And.intro @x_cons @x_mapM_nil)))
noncomputable def E16 := (And.intro (And.intro @x_tup (And.intro @x_lst @x_add_i)) (And.intro @x_add_l (And.intro @x_add_t @x_sub_i)))
noncomputable def E17 := (And.intro (And.intro @x_mul_i (And.intro @x_mul_l @x_mul_t)) (And.intro @x_div_i (And.intro @x_mod_i @x_pow_i)))
noncomputable def E18 := (And.intro (And.intro @x_band_i (And.intro @x_lt_i @x_le_i)) (And.intro @x_gt_i (And.intro @x_ge_i @x_eq_p)))
noncomputable def E19 := (And.intro (And.intro @x_ne_p (And.intro @x_in_l @x_in_t)) (And.intro @x_nin_l (And.intro @x_nin_t @x_is_n)))
noncomputable def E20 := (And.intro (And.intro @x_isnot_n (And.intro @x_ix_t @x_ix_l)) (And.intro @x_ix_s (And.intro @x_sl @x_no)))
noncomputable def E21 := (And.intro (And.intro @x_pt (And.intro @x_pt_s @x_sl_l)) (And.intro @x_sl_s (And.intro @x_sl_t @x_b)))
noncomputable def E22 := (And.intro (And.intro @x_len_l (And.intro @x_len_t @x_len_s)) (And.intro @x_abs_i (And.intro @x_max_i @x_min_i)))
noncomputable def E23 := (And.intro (And.intro @x_int_i (And.intro @x_int_b @x_all_l)) (And.intro @x_any_l (And.intro @x_tup_l @x_tup_t)))
noncomputable def E24 := (And.intro (And.intro @x_list_l (And.intro @x_list_t @x_sorted_l)) (And.intro @x_call (And.intro @x_call_s @x_call_n)))
noncomputable def E25 := (And.intro (And.intro @x_rv_v (And.intro @x_rv_n @x_tfR_v)) (And.intro @x_tfR_n (And.intro @x_it @x_items_t)))
noncomputable def E26 := (And.intro (And.intro @x_items_l (And.intro @x_items_s @x_rng)) (And.intro @x_rev (And.intro @x_lstOf_l @x_lstOf_s)))
noncomputable def E27 := (And.intro (And.intro @x_maxl (And.intro @x_minl @x_suml)) (And.intro @x_augIx (And.intro @x_augIx_s @x_augIx_n)))
noncomputable def E28 := (And.intro (And.intro @x_enum (And.intro @x_enum_l @x_gN)) (And.intro @x_g0 (And.intro @x_gC @x_gTn)))
noncomputable def E29 := (And.intro (And.intro @x_comp (And.intro @x_yes @x_sub_nil)) (And.intro @x_sub_none (And.intro @x_sub_some @x_set0)))
noncomputable def E30 := (And.intro (And.intro @x_setS (And.intro @x_is_int_int @x_is_int_bool)) (And.intro @x_is_int_str (And.intro @x_is_int_tuple @x_is_int_list)))
noncomputable def E31 := (And.intro (And.intro @x_is_int_dict (And.intro @x_is_bl_int @x_is_bl_bool)) (And.intro @x_is_bl_str (And.intro @x_is_bl_tuple @x_is_bl_list)))
noncomputable def E32 := (And.intro (And.intro @x_is_bl_dict (And.intro @x_is_tup_int @x_is_tup_bool)) (And.intro @x_is_tup_str (And.intro @x_is_tup_tuple @x_is_tup_list)))
noncomputable def E33 := (And.intro (And.intro @x_is_tup_dict (And.intro @x_is_lst_int @x_is_lst_bool)) (And.intro @x_is_lst_str (And.intro @x_is_lst_tuple @x_is_lst_list)))
noncomputable def E34 := (And.intro (And.intro @x_is_lst_dict (And.intro @x_is_str_int @x_is_str_bool)) (And.intro @x_is_str_str (And.intro @x_is_str_tuple @x_is_str_list)))
noncomputable def E35 := (And.intro (And.intro @x_is_str_dict (And.intro @x_is_non_int @x_is_non_bool)) (And.intro @x_is_non_str (And.intro @x_is_non_tuple @x_is_non_list)))
noncomputable def E36 := (And.intro (And.intro @x_is_non_dict (And.intro @y_bind_some @y_bind_none)) (And.intro @y_map_some (And.intro @y_map_none @y_map_cons)))
noncomputable def E37 := (And.intro (And.intro @y_map_nil (And.intro @y_nil_app @y_cons_app)) (And.intro @y_len_cons (And.intro @y_len_nil @y_if_t)))
noncomputable def E38 := (And.intro (And.intro @y_if_f (And.intro @y_if_tt @y_if_ff)) (And.intro @y_empty_c (And.intro @y_empty_n @y_plain_non)))
noncomputable def E39 := (And.intro (And.intro @y_plain_bl (And.intro @y_plain_int @y_plain_str)) (And.intro @y_dep_non (And.intro @y_dep_bl @y_dep_int)))
noncomputable def E40 := (And.intro (And.intro @y_dep_str (And.intro @y_nI @y_isnon)) (And.intro @y_isnon_i (And.intro @y_isnon_b @y_isnon_t)))
noncomputable def E41 := (And.intro (And.intro @y_isnon_l (And.intro @y_isnon_s @y_plain_t)) (And.intro @y_plain_l (And.intro @y_plains_n @y_plains_c)))
noncomputable def E42 := (And.intro (And.intro @y_dep_t (And.intro @y_dep_l @y_deps_n)) (And.intro @y_deps_c (And.intro @at0 @at1)))
noncomputable def E43 := (And.intro (And.intro @at2 (And.intro @at3 @peq_int)) (And.intro @peq_str (And.intro @peq_bl @peq_tup)))
noncomputable def E44 := (And.intro (And.intro @peq_lst (And.intro @peqs_cons @peqs_nil)) (And.intro @and_true (And.intro @true_and @false_and)))
noncomputable def E45 := (And.intro (And.intro @and_false (And.intro @Nat.add_zero @Nat.zero_add)) (And.intro @Int.toNat_natCast (And.intro @Bool.not_true @Bool.not_false)))
noncomputable def E46 := (And.intro (And.intro @Bool.true_and (And.intro @Bool.false_and @Bool.and_true)) (And.intro @Bool.and_false (And.intro @Bool.true_or @Bool.false_or)))
noncomputable def E47 := (And.intro (And.intro @Bool.or_true (And.intro @Bool.or_false @Nat.zero_le)) (And.intro @decide_true (And.intro @decide_false @nums_len)))
noncomputable def E48 := (And.intro (And.intro @plains_nums @deps_nums) (And.intro @Nat.max_self (And.intro @Nat.zero_max @Nat.max_zero)))
noncomputable def EE := (And.intro E1 (And.intro E2 (And.intro E3 (And.intro E4 (And.intro E5 (And.intro E6 (And.intro E7 (And.intro E8 (And.intro E9 (And.intro E10 (And.intro E11 (And.intro E12 (And.intro E13 (And.intro E14 (And.intro E15 (And.intro E16 (And.intro E17 (And.intro E18 (And.intro E19 (And.intro E20 (And.intro E21 (And.intro E22 (And.intro E23 (And.intro E24 (And.intro E25 (And.intro E26 (And.intro E27 (And.intro E28 (And.intro E29 (And.intro E30 (And.intro E31 (And.intro E32 (And.intro E33 (And.intro E34 (And.intro E35 (And.intro E36 (And.intro E37 (And.intro E38 (And.intro E39 (And.intro E40 (And.intro E41 (And.intro E42 (And.intro E43 (And.intro E44 (And.intro E45 (And.intro E46 (And.intro E47 E48)))))))))))))))))))))))))))))))))))))))))))))))
end Dp
end
section
namespace Dp
open PySem L2 Fo Pu
theorem go_map {t : FT} {f : FE} {ρ : PSt} (g : PV → PV) : ∀ {its : List PV}, (∀ p ∈ its, (t p ρ).bind (fun ρ2 => (f ρ2).bind RV.fr) = some (g p)) → goF t fYes f ρ its = some (its.map g) := fun {its} => by
  induction its with
  | nil => intro _; rfl
  | cons p ps ih =>
    intro h
    have h1 := h p List.mem_cons_self
    have h2 := ih fun q hq => h q (List.mem_cons_of_mem _ hq)
    obtain ⟨ρ2, e1, h1⟩ := Option.bind_eq_some_iff.mp h1
    obtain ⟨r, e2, h1⟩ := Option.bind_eq_some_iff.mp h1
    rw [goF, e1, h2]
    show (f ρ2).bind _ = _
    rw [e2]
    show r.fr.bind _ = _
    rw [h1]; rfl
theorem bls_b {α : Type} (f : α → Bool) (l : List α) : bls (l.map fun a => PV.bl (f a)) = some (l.map f) := by
  induction l with
  | nil => rfl
  | cons a l ih => rw [List.map_cons, bls, ih]; rfl
noncomputable def SST := (And.intro (And.intro (And.intro (And.intro (And.intro (show decide (("none" : Str) = "whole") = false by decide) (show decide (("none" : Str) = "halves") = false by decide)) (And.intro (show decide (("none" : Str) = "splits") = false by decide) (show decide (("none" : Str) = "one") = false by decide))) (And.intro (And.intro (show decide (("whole" : Str) = "none") = false by decide) (show decide (("whole" : Str) = "halves") = false by decide)) (And.intro (show decide (("whole" : Str) = "splits") = false by decide) (show decide (("whole" : Str) = "one") = false by decide)))) (And.intro (And.intro (And.intro (show decide (("halves" : Str) = "none") = false by decide) (show decide (("halves" : Str) = "whole") = false by decide)) (And.intro (show decide (("halves" : Str) = "splits") = false by decide) (show decide (("halves" : Str) = "one") = false by decide))) (And.intro (And.intro (show decide (("splits" : Str) = "none") = false by decide) (show decide (("splits" : Str) = "whole") = false by decide)) (And.intro (show decide (("splits" : Str) = "halves") = false by decide) (And.intro (show decide (("splits" : Str) = "one") = false by decide) (show decide (("one" : Str) = "none") = false by decide)))))) (And.intro (And.intro (And.intro (And.intro (show decide (("one" : Str) = "whole") = false by decide) (show decide (("one" : Str) = "halves") = false by decide)) (And.intro (show decide (("one" : Str) = "splits") = false by decide) (show decide (("size" : Str) = "rank") = false by decide))) (And.intro (And.intro (show decide (("size" : Str) = "told") = false by decide) (show decide (("size" : Str) = "names") = false by decide)) (And.intro (show decide (("rank" : Str) = "size") = false by decide) (show decide (("rank" : Str) = "told") = false by decide)))) (And.intro (And.intro (And.intro (show decide (("rank" : Str) = "names") = false by decide) (show decide (("told" : Str) = "size") = false by decide)) (And.intro (show decide (("told" : Str) = "rank") = false by decide) (show decide (("told" : Str) = "names") = false by decide))) (And.intro (And.intro (show decide (("names" : Str) = "size") = false by decide) (show decide (("names" : Str) = "rank") = false by decide)) (And.intro (show decide (("names" : Str) = "told") = false by decide) (And.intro (show decide (("find" : Str) = "join") = false by decide) (show decide (("join" : Str) = "find") = false by decide)))))))
theorem K1 {n : Nat} (h : n ≤ 100000) : rng1 [.int n] = some (nums (List.range n)) ∧ kRng [.int n] = some (.fz (.rng 0 n)) ∧ kList [.rng 0 n] = some (.nw (nums (List.range n))) := by
  refine ⟨?_, ?_, ?_⟩
  · rw [x_rng1, y_okI, decide_eq_true (by omega), decide_eq_true (by omega), Int.toNat_natCast, ups0]; rfl
  · rw [x_rng_i, if_pos ⟨by omega, by omega⟩]
  · rw [x_list_r, if_pos ⟨rfl, by omega, by omega⟩, Int.toNat_natCast, ups0]
theorem K1i {j : Int} (h0 : 0 ≤ j) (h : j ≤ 100000) : rng1 [.int j] = some (nums (List.range j.toNat)) ∧ kRng [.int j] = some (.fz (.rng 0 j)) ∧ kList [.rng 0 j] = some (.nw (nums (List.range j.toNat))) := by
  have := K1 (n := j.toNat) (by omega)
  rwa [Int.toNat_of_nonneg h0] at this
theorem t_whole (i : Int) : F_is_whole [.int i] = some (.v (.bl true)) := by
  simp only [q_F_is_whole, q_F_is_whole_s, EE]
theorem t_many {i : Int} (h1 : 1 ≤ i) (h2 : i ≤ 40) : F_is_many [.int i] = some (.v (.bl true)) := by
  simp only [q_F_is_many, q_F_is_many_s, EE, t_whole, decide_eq_true h1, decide_eq_true h2]
theorem t_thing (m x : Int) : F_is_thing [.int m, .int x] = some (.v (.bl (decide (0 ≤ x ∧ x < m)))) := by
  simp only [q_F_is_thing, q_F_is_thing_s, EE, t_whole]
  by_cases h : 0 ≤ x
  · simp only [decide_eq_true h, EE, h]
  · simp only [decide_eq_false h, EE, h, false_and]
theorem t_cshort {y : Str} (hy : y ∈ manners) : F_check_short [.str y] = some (.v .non) := by
  simp only [q_F_check_short, q_F_check_short_s, EE, t_is_short, decide_eq_true hy]
theorem ix2 {a b : PV} {c : Bool} : L2.atI [a, b] (if c = true then 1 else 0) = some (if c = true then b else a) := by
  cases c <;> rfl
theorem numbers_loop {s0 s1 : Option Sl} (vs : List PV) : ∀ (xs : List Nat) (st dg : Int) (z : Option Sl), (∀ v ∈ vs, ∃ i : Int, v = .int i) → 0 ≤ st → st < 1999999973 → 0 ≤ dg → xs.length + vs.length ≤ 1000 →
    ∃ (xs' : List Nat) (st' dg' : Int) (z' : Option Sl), xs'.length = xs.length + vs.length ∧ loopF (gN 5) F__law_numbers_b1 vs [s0, s1, some (.own (nums xs)), some (.val (.int st)), some (.val (.int dg)), z] = .nx [s0, s1, some (.own (nums xs')), some (.val (.int st')), some (.val (.int dg')), z'] := by
  induction vs with
  | nil => intro xs st dg z _ _ _ _ _; exact ⟨xs, st, dg, z, rfl, rfl⟩
  | cons v vs ih =>
    intro xs st dg z hv h1 h2 h3 hl
    obtain ⟨i, rfl⟩ := hv v List.mem_cons_self
    have m1 := Int.emod_nonneg st (show (65521 : Int) ≠ 0 by decide)
    have cm1 : (st.natAbs < 2 ^ 64 ∨ (st % 65521 + 40487).natAbs < 2 ^ 64) = True := eq_true (.inl (by omega))
    have cm2 : ((7 : Int).natAbs < 2 ^ 64 ∨ i.natAbs < 2 ^ 64) = True := eq_true (.inl (by decide))
    have hlen : (nums xs).length ≤ 100000 := by rw [nums_len]; simp at hl; omega
    have b1 : 0 ≤ (st * (st % 65521 + 40487) + 7 * i + 5) % 1999999973 := Int.emod_nonneg _ (by decide)
    have b2 : (st * (st % 65521 + 40487) + 7 * i + 5) % 1999999973 < 1999999973 := Int.emod_lt_of_pos _ (by decide)
    have d1 := Int.emod_nonneg dg (show (1000000 : Int) ≠ 0 by decide)
    have hlen' : xs.length ≤ 100000 := by rwa [nums_len] at hlen
    rw [loop_S]
    simp only [q_F__law_numbers_b1, EE, Nat.reduceAdd, Nat.reduceSub, Nat.reduceLeDiff, Nat.reduceLT, Nat.reduceEqDiff, Int.reduceLT, Int.reduceLE, Int.reduceAdd, Int.reduceSub, Int.reduceMul, Int.reduceMod, Int.reduceDiv, Int.reduceNeg, Int.reduceToNat, Int.reducePow, Int.reduceEq, cm1, cm2, ix2, hlen']
    generalize (st * (st % 65521 + 40487) + 7 * i + 5) % 1999999973 = st' at b1 b2
    have hv' : (if decide (0 < dg) = true then PV.int (dg % 1000000) else PV.int st') = nI (if decide (0 < dg) = true then dg % 1000000 else st').toNat := by
      split <;> rw [natOf (by omega)]
    rw [hv', nI, nums_snoc]
    obtain ⟨xs', st2, dg2, z2, e1, e2⟩ := ih (xs ++ [(if decide (0 < dg) = true then dg % 1000000 else st').toNat]) st' (dg / 1000000) (some (.val (.int i))) (fun u hu => hv u (List.mem_cons_of_mem _ hu)) b1 b2 (Int.ediv_nonneg h3 (by decide)) (by simp at hl ⊢; omega)
    exact ⟨xs', st2, dg2, z2, by rw [e1, List.length_append]; simp; omega, e2⟩
theorem t_numbers (c n : Int) (h0 : 0 ≤ n) (hn : n ≤ 1000) : ∃ xs : List Nat, xs.length = n.toNat ∧ F__law_numbers [.int c, .int n] = some (.n (nums xs)) := by
  have b1 : 0 ≤ (c % 1999999973 + 31) * 765432101 % 1999999973 := Int.emod_nonneg _ (by decide)
  have b2 : (c % 1999999973 + 31) * 765432101 % 1999999973 < 1999999973 := Int.emod_lt_of_pos _ (by decide)
  have cm : ((c % 1999999973 + 31).natAbs < 2 ^ 64 ∨ (765432101 : Int).natAbs < 2 ^ 64) = True := eq_true (.inr (by decide))
  have k1 := (K1i h0 (show n ≤ 100000 by omega)).1
  have ab : 0 ≤ (if c < 0 then -c else c) := by split <;> omega
  have fin : ∀ dg : Int, 0 ≤ dg → ∃ (xs : List Nat) (st' dg' : Int) (z' : Option Sl), xs.length = n.toNat ∧ loopF (gN 5) F__law_numbers_b1 (nums (List.range n.toNat)) [some (.val (.int c)), some (.val (.int n)), some (.own (nums [])), some (.val (.int ((c % 1999999973 + 31) * 765432101 % 1999999973))), some (.val (.int dg)), none] = .nx [some (.val (.int c)), some (.val (.int n)), some (.own (nums xs)), some (.val (.int st')), some (.val (.int dg')), z'] := fun dg hd => by
    obtain ⟨xs, st', dg', z', e1, e2⟩ := numbers_loop (s0 := some (.val (.int c))) (s1 := some (.val (.int n))) (ups 0 n.toNat) [] _ dg none (fun v hv => by obtain ⟨i, e, _⟩ := up_mem hv; exact ⟨i, e⟩) b1 b2 hd (by rw [ups_len]; simp; omega)
    rw [ups0] at e2
    exact ⟨xs, st', dg', z', by rw [e1, ups_len]; simp, e2⟩
  have hp : (10 : Int) ^ 18 = 1000000000000000000 := by decide
  by_cases hc : c < 0
  · obtain ⟨xs, st', dg', z', e1, e2⟩ := fin _ ab
    rw [nums_nil] at e2
    refine ⟨xs, e1, ?_⟩
    simp only [q_F__law_numbers, q_F__law_numbers_s, EE, Nat.reduceAdd, Nat.reduceSub, Nat.reduceLeDiff, Nat.reduceLT, Nat.reduceEqDiff, Int.reduceLT, Int.reduceLE, Int.reduceAdd, Int.reduceSub, Int.reduceMul, Int.reduceMod, Int.reduceDiv, Int.reduceNeg, Int.reduceToNat, Int.reducePow, Int.reduceEq, cm, k1, decide_eq_true hc, e2]
  · by_cases hd : 1000000000000000000 ≤ c
    · obtain ⟨xs, st', dg', z', e1, e2⟩ := fin _ ab
      rw [nums_nil] at e2
      refine ⟨xs, e1, ?_⟩
      simp only [q_F__law_numbers, q_F__law_numbers_s, EE, Nat.reduceAdd, Nat.reduceSub, Nat.reduceLeDiff, Nat.reduceLT, Nat.reduceEqDiff, Int.reduceLT, Int.reduceLE, Int.reduceAdd, Int.reduceSub, Int.reduceMul, Int.reduceMod, Int.reduceDiv, Int.reduceNeg, Int.reduceToNat, Int.reducePow, Int.reduceEq, cm, k1, decide_eq_false hc, show (0 : Int) ≤ 18 ∧ (18 : Int) ≤ 1000000 ∧ (10 : Int).natAbs < 2 ^ 64 from by decide, decide_eq_true hd, e2]
    · obtain ⟨xs, st', dg', z', e1, e2⟩ := fin 0 (by decide)
      rw [nums_nil] at e2
      refine ⟨xs, e1, ?_⟩
      simp only [q_F__law_numbers, q_F__law_numbers_s, EE, Nat.reduceAdd, Nat.reduceSub, Nat.reduceLeDiff, Nat.reduceLT, Nat.reduceEqDiff, Int.reduceLT, Int.reduceLE, Int.reduceAdd, Int.reduceSub, Int.reduceMul, Int.reduceMod, Int.reduceDiv, Int.reduceNeg, Int.reduceToNat, Int.reducePow, Int.reduceEq, cm, k1, decide_eq_false hc, show (0 : Int) ≤ 18 ∧ (18 : Int) ≤ 1000000 ∧ (10 : Int).natAbs < 2 ^ 64 from by decide, decide_eq_false hd, e2]
theorem cell_loop {s0 s1 : Option Sl} (ns : List Int) : ∀ (st : Int) (z : Option Sl), ∃ (st' : Int) (z' : Option Sl), loopF (gN 3) F__law_cell_b1 (iL ns) [s0, s1, some (.val (.int st)), z] = .nx [s0, s1, some (.val (.int st')), z'] := by
  induction ns with
  | nil => intro st z; exact ⟨st, z, rfl⟩
  | cons n ns ih =>
    intro st z
    have cm : (st.natAbs < 2 ^ 64 ∨ (69621 : Int).natAbs < 2 ^ 64) = True := eq_true (.inr (by decide))
    show ∃ st' z', loopF (gN 3) F__law_cell_b1 (.int n :: iL ns) _ = _
    rw [loop_S]
    simp only [q_F__law_cell_b1, EE, Nat.reduceAdd, Nat.reduceSub, Nat.reduceLeDiff, Nat.reduceLT, Nat.reduceEqDiff, Int.reduceLT, Int.reduceLE, Int.reduceAdd, Int.reduceSub, Int.reduceMul, Int.reduceMod, Int.reduceDiv, Int.reduceNeg, Int.reduceToNat, Int.reducePow, Int.reduceEq, cm]
    exact ih _ _
theorem t_cell (ns : List Int) (k : Int) (h0 : 0 ≤ k) (hk : k ≤ 1000) : ∃ i : Int, F__law_cell [.src (iL ns), .int k] = some (.v (.int i)) := by
  by_cases hl : k < ns.length
  · have hk' : k.toNat < ns.length := by omega
    have e : L2.atI (iL ns) k = some (.int ns[k.toNat]) := by
      have := atI_nat (ps := iL ns) (x := k.toNat) (p := .int ns[k.toNat]) (by unfold iL; rw [List.getElem?_map, List.getElem?_eq_getElem hk']; rfl)
      rwa [Int.toNat_of_nonneg h0] at this
    exact ⟨ns[k.toNat], by simp only [q_F__law_cell, q_F__law_cell_s, EE, Nat.reduceAdd, Nat.reduceSub, Nat.reduceLeDiff, Nat.reduceLT, Nat.reduceEqDiff, Int.reduceLT, Int.reduceLE, Int.reduceAdd, Int.reduceSub, Int.reduceMul, Int.reduceMod, Int.reduceDiv, Int.reduceNeg, Int.reduceToNat, Int.reducePow, Int.reduceEq, iL_len, decide_eq_true hl, e]⟩
  · have c1 : (k.natAbs < 2 ^ 64) = True := eq_true (by omega)
    have c2 : ((48271 : Int).natAbs < 2 ^ 64) = True := eq_true (by decide)
    have c3 : ((7 : Int).natAbs < 2 ^ 64) = True := eq_true (by decide)
    obtain ⟨st', z', e⟩ := cell_loop (s0 := some (.val (.src (iL ns)))) (s1 := some (.val (.int k))) (cut ns none (some 3)) (48271 * (k * k + 7 * k + 11) % 2147483647) none
    refine ⟨st', ?_⟩
    simp only [q_F__law_cell, q_F__law_cell_s, EE, Nat.reduceAdd, Nat.reduceSub, Nat.reduceLeDiff, Nat.reduceLT, Nat.reduceEqDiff, Int.reduceLT, Int.reduceLE, Int.reduceAdd, Int.reduceSub, Int.reduceMul, Int.reduceMod, Int.reduceDiv, Int.reduceNeg, Int.reduceToNat, Int.reducePow, Int.reduceEq, iL_len, decide_eq_false hl, c1, c2, c3, true_or, cut_iL, e]
theorem t_lmany (x : Nat) : ∃ n : Nat, 1 ≤ n ∧ n ≤ 40 ∧ F__law_many [.int x] = some (.v (.int n)) := by
  have a1 := Int.emod_nonneg ((x : Int) / 8) (show (12 : Int) ≠ 0 by decide)
  have a2 := Int.emod_lt_of_pos ((x : Int) / 8) (show (0 : Int) < 12 by decide)
  have a3 := Int.emod_nonneg ((x : Int) / 8) (show (40 : Int) ≠ 0 by decide)
  have a4 := Int.emod_lt_of_pos ((x : Int) / 8) (show (0 : Int) < 40 by decide)
  by_cases h : (x : Int) % 8 = 3
  · refine ⟨(1 + (x : Int) / 8 % 40).toNat, by omega, by omega, ?_⟩
    simp only [q_F__law_many, q_F__law_many_s, EE, Nat.reduceAdd, Nat.reduceSub, Nat.reduceLeDiff, Nat.reduceLT, Nat.reduceEqDiff, Int.reduceLT, Int.reduceLE, Int.reduceAdd, Int.reduceSub, Int.reduceMul, Int.reduceMod, Int.reduceDiv, Int.reduceNeg, Int.reduceToNat, Int.reducePow, Int.reduceEq, ix2, decide_eq_true h]
    rw [Int.toNat_of_nonneg (by omega)]
  · refine ⟨(1 + (x : Int) / 8 % 12).toNat, by omega, by omega, ?_⟩
    simp only [q_F__law_many, q_F__law_many_s, EE, Nat.reduceAdd, Nat.reduceSub, Nat.reduceLeDiff, Nat.reduceLT, Nat.reduceEqDiff, Int.reduceLT, Int.reduceLE, Int.reduceAdd, Int.reduceSub, Int.reduceMul, Int.reduceMod, Int.reduceDiv, Int.reduceNeg, Int.reduceToNat, Int.reducePow, Int.reduceEq, ix2, decide_eq_false h]
    rw [Int.toNat_of_nonneg (by omega)]
end Dp
end
section
namespace Lo
open PySem PySem.Spec L2 Fo Pu Dp
noncomputable abbrev At := Nat × List Nat × Addr
noncomputable def kv (t : At) : Key × V := (.inl (t.1 : Int), .ref t.2.2)
noncomputable def nv (n : Nat) : V := .int (n : Int)
structure St (F H F1 H1 : Hp) (d : Addr) (acc : List At) : Prop where
  gr : Grow F H F1 H1
  d0 : H d = none
  dF : F1 d = none
  dH : H1 d = some (.dK (acc.map kv))
  ls : ∀ t ∈ acc, H t.2.2 = none ∧ F1 t.2.2 = none ∧ H1 t.2.2 = some (.lst (t.2.1.map nv))
  nd : (acc.map (·.2.2)).Nodup
  nk : (acc.map (·.1)).Nodup
end Lo
end
section
namespace Fo
open PySem L2
theorem s5 {y : Str} (hy : y ∈ manners) : y = "none" ∨ y = "whole" ∨ y = "halves" ∨ y = "splits" ∨ y = "one" := by simpa [manners] using hy
theorem n1 : (("halves" : Str) = "whole") = False := eq_false (by decide)
theorem n2 : (("halves" : Str) = "splits") = False := eq_false (by decide)
theorem n3 : (("splits" : Str) = "whole") = False := eq_false (by decide)
theorem n4 : (("one" : Str) = "whole") = False := eq_false (by decide)
theorem n5 : (("one" : Str) = "splits") = False := eq_false (by decide)
theorem n6 : (("one" : Str) = "halves") = False := eq_false (by decide)
theorem n7 : (("none" : Str) = "whole") = False := eq_false (by decide)
theorem n8 : (("none" : Str) = "splits") = False := eq_false (by decide)
theorem n9 : (("none" : Str) = "halves") = False := eq_false (by decide)
theorem n10 : (("none" : Str) = "one") = False := eq_false (by decide)
theorem n11 : (("splits" : Str) = "halves") = False := eq_false (by decide)
theorem n12 : (("whole" : Str) = "halves") = False := eq_false (by decide)
end Fo
end
section
namespace Dp
open PySem L2 Fo Pu Lo
theorem lway_loop {p : PV} {us : List Nat} (hp : p = .tup (nums us) ∨ p = .lst (nums us)) (hm : us.length ≤ 40) (hb : ∀ x, x < us.length → up us x < us.length) {s1 : Option Sl} {y : Nat} {l2 : List Nat} (w : Way us y l2) : ∀ (pre : List Nat), pre.length + l2.length ≤ us.length → y < us.length →
    ∀ n, l2.length < n → whileF F__law_way_c1 F__law_way_b2 n [some (.val p), s1, some (.own (nums (pre ++ [y])))] = .nx [some (.val p), s1, some (.own (nums (pre ++ l2)))] := by
  induction w with
  | @head y e =>
    intro pre hl hy n hn
    obtain ⟨n, rfl⟩ : ∃ k, n = k + 1 := ⟨n - 1, by simp at hn; omega⟩
    rw [while_S]
    rcases hp with rfl | rfl <;>
      simp only [q_F__law_way_c1, EE, Nat.reduceAdd, Nat.reduceSub, Nat.reduceLeDiff, Nat.reduceLT, Nat.reduceEqDiff, Int.reduceLT, Int.reduceLE, Int.reduceAdd, Int.reduceSub, Int.reduceMul, Int.reduceMod, Int.reduceDiv, Int.reduceNeg, Int.reduceToNat, Int.reducePow, Int.reduceEq, Pu.atI_last, atI_nums hy, e]
  | @step y l ne w ih =>
    intro pre hl hy n hn
    obtain ⟨n, rfl⟩ : ∃ k, n = k + 1 := ⟨n - 1, by simp at hn; omega⟩
    have ih := ih (pre ++ [y]) (by simp at hl ⊢; omega) (hb y hy) n (by simp at hn; omega)
    rw [List.append_assoc, List.append_assoc] at ih
    have pos := w.pos
    have hne : decide ((up us y : Int) = (y : Int)) = false := decide_eq_false (by omega)
    have hpl : (pre ++ [y]).length ≤ 100000 := by simp at hl ⊢; omega
    have hle : decide (((pre ++ [y]).length : Int) ≤ (us.length : Int)) = true := decide_eq_true (by simp at hl ⊢; omega)
    rw [while_S]
    rcases hp with rfl | rfl <;>
      (simp only [q_F__law_way_c1, q_F__law_way_b2, EE, Nat.reduceAdd, Nat.reduceSub, Nat.reduceLeDiff, Nat.reduceLT, Nat.reduceEqDiff, Int.reduceLT, Int.reduceLE, Int.reduceAdd, Int.reduceSub, Int.reduceMul, Int.reduceMod, Int.reduceDiv, Int.reduceNeg, Int.reduceToNat, Int.reducePow, Int.reduceEq, Pu.atI_last, atI_nums hy, hne, hle, hpl, nums_snoc, List.append_assoc]; exact ih)
theorem t_lway {p : PV} {us : List Nat} (hp : p = .tup (nums us) ∨ p = .lst (nums us)) (f : Frst us) {x : Nat} (hx : x < us.length) : F__law_way [p, .int x] = some (.n (nums (way us x))) := by
  have hl := way_len f.fst hx
  have hm := f.most
  have e := lway_loop hp f.most f.fst.bnd (s1 := some (.val (.int x))) (way_ok f.fst hx) [] (by simpa using hl) hx 10000 (by omega)
  rw [List.nil_append, List.nil_append] at e
  have e' : whileF F__law_way_c1 F__law_way_b2 10000 [some (.val p), some (.val (.int x)), some (.own [.int x])] = _ := e
  simp only [q_F__law_way, q_F__law_way_s, EE, Nat.reduceAdd, Nat.reduceSub, Nat.reduceLeDiff, Nat.reduceLT, Nat.reduceEqDiff, Int.reduceLT, Int.reduceLE, Int.reduceAdd, Int.reduceSub, Int.reduceMul, Int.reduceMod, Int.reduceDiv, Int.reduceNeg, Int.reduceToNat, Int.reducePow, Int.reduceEq, e']
theorem atI_hd {us : List Nat} (f : Frst us) {x : Nat} (hx : x < us.length) : L2.atI (nums (way us x)) (-1) = some (.int (hd us x : Nat)) := Pu.atI_last' (way_ok f.fst hx).ne
end Dp
end
section
namespace L2
open PySem PySem.Spec PyProof.Rows
section
variable {prog : Program} {w : World} {A : Around} {E : Value → Shared → Prop} {s : Shared}
theorem nx_tup {it t : Addr} {i : Nat} {items : Array Value} {x : Value} {Q : Value → Shared → Prop} (hit : s.heap.IsTupleIter it t i) (ht : s.heap.IsTuple t items) (hx : items[i]? = some x)
    (hQ : ∀ h', h'.IsTupleIter it t (i + 1) → Heap.SameBut it s.heap h' → Q x { s with heap := h' }) : wpAny (model prog w) A (Builtin.SmallTypes.nextOf (.ref it)) Q E s := by
  have hT := hit.typeIs
  obtain ⟨o, ho, hc, hd⟩ := hit; obtain ⟨ol, hol, _, nl, hdl⟩ := ht
  unfold Builtin.SmallTypes.nextOf
  refine wpAny_bind (wpAny_callSpecial?_slot (name := Str.ofString "__next__") hT F.slot_tuple_iterator_next (wpAny_call_entry F.slot_tuple_iterator_next hT F.entry_tuple_iterator_next ?_ (F.args_tuple_iterator_next_1 _)))
  refine (?_ : wpAny _ _ (field (.ref it) 0 >>= _) _ _ s); refine wpAny_bind (wpAny_field ho hd (x := .ref t) rfl (?_ : wpAny _ _ (if (Value.ref t == Value.none) = true then _ else _) _ _ s))
  rw [if_neg (show ¬ ((Value.ref t == Value.none) = true) from Bool.false_ne_true)]; refine (?_ : wpAny _ _ (field (.ref it) 1 >>= _) _ _ s); refine wpAny_bind (wpAny_field ho hd (x := .int i 0) rfl (?_ : wpAny _ _ (seqItems? (.ref t) >>= _) _ _ s)); refine wpAny_bind (m := seqItems? (.ref t)) (wpAny_seqItems hol hdl ?_); simp only [Int.toNat_natCast, hx]
  refine wpAny_bind (wpAny_setField ho hd (by simp) (wpAny_pure ⟨x, rfl, wpAny_pure (hQ _ ⟨_, Heap.get?_update_self _ ho (Obj.isFreed_of_fields (Obj.data_mapFields hd _)), (Obj.cls_mapFields ..).trans hc, by rw [Obj.data_mapFields hd]; simp [rawInt]⟩ (Heap.SameBut.update ..))⟩))
theorem nx_tup0 {it t : Addr} {i : Nat} {items : Array Value} {Q : Value → Shared → Prop} (hh : A.handled = none) (hit : s.heap.IsTupleIter it t i) (ht : s.heap.IsTuple t items) (hx : items[i]? = none)
    (hE : ∀ h' e, Heap.ExtBut it s.heap h' → (∃ o, h'.get? e = some o ∧ o.cls = .type "StopIteration") → E (.ref e) { s with heap := h' }) : wpAny (model prog w) A (Builtin.SmallTypes.nextOf (.ref it)) Q E s := by
  have hT := hit.typeIs
  obtain ⟨o, ho, hc, hd⟩ := hit; obtain ⟨ol, hol, _, nl, hdl⟩ := ht
  unfold Builtin.SmallTypes.nextOf
  refine wpAny_bind (wpAny_callSpecial?_slot (name := Str.ofString "__next__") hT F.slot_tuple_iterator_next (wpAny_call_entry F.slot_tuple_iterator_next hT F.entry_tuple_iterator_next ?_ (F.args_tuple_iterator_next_1 _)))
  refine (?_ : wpAny _ _ (field (.ref it) 0 >>= _) _ _ s); refine wpAny_bind (wpAny_field ho hd (x := .ref t) rfl (?_ : wpAny _ _ (if (Value.ref t == Value.none) = true then _ else _) _ _ s))
  rw [if_neg (show ¬ ((Value.ref t == Value.none) = true) from Bool.false_ne_true)]; refine (?_ : wpAny _ _ (field (.ref it) 1 >>= _) _ _ s); refine wpAny_bind (wpAny_field ho hd (x := .int i 0) rfl (?_ : wpAny _ _ (seqItems? (.ref t) >>= _) _ _ s)); refine wpAny_bind (m := seqItems? (.ref t)) (wpAny_seqItems hol hdl ?_); simp only [Int.toNat_natCast, hx]
  refine wpAny_bind (wpAny_rule (wpAny_bind (wpAny_setField ho hd (by simp) (?_ : wpAny _ _ (newExc (.type "StopIteration") [] >>= _) _ _ _))))
  refine wpAny_bind ?_; simp only [newExc, newTuple]; refine wpAny_bind (wpAny_newObj_type ?_ (by size_fits))
  refine wpAny_bind (m := firstArgMember _ _) (wpAny_of_eq (a := Value.none) (by first | rfl | (simp only [firstArgMember]; rfl)) (wpAny_newObj_type ?_ (by size_fits)))
  simp only [raiseNew]; refine wpAny_bind (wpAny_handled ?_); first | rw [show A.in1.handled = none from hh] | rw [hh]
  exact wpAny_bind (wpAny_pure (wpAny_throw (hE _ _ (((Heap.SameBut.update ..).extBut.push _).push _) ⟨_, Heap.get?_push_size _ rfl, rfl⟩)))
end
theorem itup_at {h h' : Heap} {a t : Addr} {i : Nat} (x : h.IsTupleIter a t i) (k : ∀ o, h.get? a = some o → h'.get? a = some o) : h'.IsTupleIter a t i := let ⟨o, ho, r⟩ := x; ⟨o, k o ho, r⟩
theorem ktup_at {h h' : Heap} {a : Addr} {its : Array Value} (x : h.IsTuple a its) (k : ∀ o, h.get? a = some o → h'.get? a = some o) : h'.IsTuple a its := let ⟨o, ho, r⟩ := x; ⟨o, k o ho, r⟩
theorem dr_tup {prog : Program} {w : World} {A : Around} (hh : A.handled = none) (it l : Addr) (hne : l ≠ it) (items : Array Value) : Draws prog w A it [it, l] items.size (fun i v => items[i]? = some v) (fun i h => h.IsTupleIter it l i ∧ h.IsTuple l items) where
  live := fun _ _ ⟨⟨o, ho, _⟩, _⟩ => ⟨o, ho⟩
  frame := fun _ _ _ ⟨a, b⟩ hk => ⟨itup_at a fun o e => hk it (by simp) o e, ktup_at b fun o e => hk l (by simp) o e⟩
  item := fun i s Q E hi ⟨a, b⟩ hQ => nx_tup a b (x := items[i]) (by simp [hi]) fun h' hit' hs' => hQ _ h' s.toks (by simp [hi]) ⟨hit', b.extBut hs'.extBut hne⟩ hs'
  done := fun s Q E ⟨a, b⟩ hE => nx_tup0 hh a b (by simp) hE
open AutoSeq1 (wpAny_loadPart') in
theorem en_newT (l : Addr) (items : Array Value) (n : Nat) (dct : Option Addr) (sl : Array (Option Value)) : Meets (Builtin.«enumerate.__new__» ⟨[.type "enumerate", .ref l], []⟩) (fun _ R s => s.heap.get? l = some { cls := .type "tuple", dict := dct, data := .seq items n, slots := sl } ∧ R (.ok (.ret (.ref (s.heap.push { cls := .type "tuple_iterator", data := .fields #[.ref l, .int 0 0] }).objs.size))) { s with heap := (s.heap.push { cls := .type "tuple_iterator", data := .fields #[.ref l, .int 0 0] }).push { cls := .type "enumerate", data := .fields #[.none, .bool false, .ref s.heap.objs.size, rawInt 0, .none, .none] } }) :=
  .of_wp fun prog w A R s h => by
    obtain ⟨hp, g, d, tk, os⟩ := s; obtain ⟨hl, h⟩ := h
    have hsub := sub_enumerate; have hL : Heap.IsTuple (Shared.heap ⟨hp, g, d, tk, os⟩) l items := ⟨_, hl, rfl, n, rfl⟩
    wp_walk using wpAny_loadPart' hl; refine wpAny_stack_any fun st => wpAny_pure ?_
    split
    · rename_i c _ _ _ _ _; cases (c == Value.type "enumerate") <;> (wp_walk using wpAny_loadPart' hl, wpAny_pyIter_tuple hL; exact ⟨_, rfl, h⟩)
    · wp_walk using wpAny_loadPart' hl, wpAny_pyIter_tuple hL; exact ⟨_, rfl, h⟩
section
variable {prog : Program} {w : World} {A : Around} {E : Value → Shared → Prop} {s : Shared}
theorem call_enT {l : Addr} {items : Array Value} {Q : Value → Shared → Prop} (hL : s.heap.IsTuple l items)
    (h : ∀ h', IsEnum h' (s.heap.objs.size + 1) s.heap.objs.size 0 .none → h'.IsTupleIter s.heap.objs.size l 0 → h'.objs.size = s.heap.objs.size + 2 → (∀ b o, s.heap.get? b = some o → h'.get? b = some o) → Q (.ref (s.heap.objs.size + 1)) { s with heap := h' }) : wpAny (model prog w) A (call (.type "enumerate") [.ref l]) Q E s := by
  obtain ⟨⟨c, dct, dt, sl⟩, hl, hc, n, hd⟩ := hL; replace hc : c = .type "tuple" := hc; replace hd : dt = .seq items n := hd; subst hc hd
  refine callType_new F.called_enumerate (by decide) (F.typeCall_enumerate_1 _) (F.newCall_enumerate_1 _) (fun obj => F.args_object_init_2 obj _) F.entry_enumerate_new (en_newT l items n dct sl) ⟨hl, ?_⟩
  have hz : (s.heap.push { cls := .type "tuple_iterator", data := .fields #[.ref l, .int 0 0] }).objs.size = s.heap.objs.size + 1 := Heap.size_push ..
  refine (?_ : _ ∧ _); rw [hz]
  have he : IsEnum ((s.heap.push { cls := .type "tuple_iterator", data := .fields #[.ref l, .int 0 0] }).push { cls := .type "enumerate", data := .fields #[.none, .bool false, .ref s.heap.objs.size, rawInt 0, .none, .none] }) (s.heap.objs.size + 1) s.heap.objs.size 0 .none := by
    have := Heap.get?_push_size (s.heap.push { cls := .type "tuple_iterator", data := .fields #[.ref l, .int 0 0] }) (o := { cls := .type "enumerate", data := .fields #[.none, .bool false, .ref s.heap.objs.size, rawInt 0, .none, .none] }) rfl
    rw [hz] at this; exact this
  exact ⟨⟨_, he, rfl⟩, h _ he ⟨_, Heap.get?_push_of_some _ (Heap.get?_push_size _ rfl), rfl, rfl⟩ (by rw [Heap.size_push, hz]) fun b o x => Heap.get?_push_of_some _ (Heap.get?_push_of_some _ x)⟩
end
noncomputable def ItT (K : PySem.W.Frag) (a : Addr) : It :=
  ⟨fun i H => ∃ xs x, SqT K H a xs ∧ xs[i]? = some x, fun i H v H' => ∃ p x, v = .ref p ∧ H p = none ∧ H' = upd H p (.tup [.int i, x]) ∧ ∀ xs, SqT K H a xs → xs[i]? = some x, fun i H => ∃ xs, SqT K H a xs ∧ xs.length ≤ i⟩
theorem turn_enumT {P : Program} {w : World} {K : PySem.W.Frag} {elts : List Expr} {x1} {pos : Pos} (a e it : Addr) (hne : e ≠ it) : Turn P w K (.Tuple elts x1 pos) (ItT K a) [e, it] e (fun i h => (∃ old, IsEnum h e it i old) ∧ h.IsTupleIter it a i) where
  mem := by simp
  obj := fun i h st b hb => by
    obtain ⟨⟨old, he⟩, o, e', c, d⟩ := st
    rcases List.mem_cons.mp hb with z | z
    · subst z
      exact ⟨_, he, fun v q => by
        have q' : Data.fields _ = Data.cell v := q
        cases q'⟩
    · have e2 : b = it := by simpa using z
      subst e2
      exact ⟨o, e', fun v q => by rw [d] at q; cases q⟩
  keep := fun i h h' st k => ⟨⟨st.1.choose, k e (by simp) _ st.1.choose_spec⟩, itup_at st.2 fun o q => k it (by simp) o q⟩
  item := by
    intro X hP hw hK hc i pins s σ H E I hf st hg
    subst hP hw hK
    obtain ⟨xs, x, hq, hx⟩ := hg
    obtain ⟨its, rv, p, hz⟩ := I.tuple hq
    obtain ⟨u, hu, ru⟩ := rv.get hx
    obtain ⟨⟨old, he⟩, hit⟩ := st
    have pt : s.heap.IsTuple a its.toArray := p
    have nai : a ≠ it := fun q => by
      obtain ⟨o1, h1, c1, _⟩ := pt
      obtain ⟨o2, h2, c2, _⟩ := hit
      rw [q, h2] at h1; cases h1; rw [c2] at c1; exact absurd (Value.type.inj c1) (by decide)
    have nae : e ≠ a := fun q => by
      obtain ⟨o1, h1, c1, _⟩ := pt
      rw [← q, he] at h1; cases h1; exact absurd (Value.type.inj c1) (by decide)
    have hlt : i < its.toArray.size := by
      have := (List.getElem?_eq_some_iff.mp hu).1
      simpa using this
    refine wpAny_pyNext_enum_itemD (dr_tup (A := X.A.in1) (I.ok.hd hc) it a nai its.toArray) he ⟨hit, pt⟩ hlt hne (by simp [hne, nae]) fun u' h' tk hu' out lit tup sz kp => ⟨_, rfl, ?_⟩
    obtain rfl : u' = u := by
      have h1 : its[i]? = some u' := by simpa using hu'
      rw [hu] at h1; exact (Option.some.inj h1).symm
    refine wpAny_letOwnedTupleGo_enum out fun h2 he2 sb => ?_
    have fr : H s.heap.objs.size = none := I.hok.fresh (Nat.le_refl _)
    have I1 : Inv X pins σ (upd H s.heap.objs.size (.tup [.int i, x])) { s with heap := s.heap.push { cls := .type "tuple", data := .seq #[.int i tk, u'] }, toks := s.toks } := by
      refine I.laid (t' := s.toks) (fun b u e => Heap.get?_push_of_some _ e) (Nat.le_refl _) ?_
      exact ⟨by simp; decide, [.int i tk, u'], .cons ⟨_, rfl⟩ (.cons ru .nil), ⟨_, Heap.get?_push_size _ rfl, rfl, _, rfl⟩⟩
    have ltE : e < s.heap.objs.size := Heap.lt_size he
    have ltI : it < s.heap.objs.size := by obtain ⟨o, q, _⟩ := hit; exact Heap.lt_size q
    have f1 : ∀ b ∈ [e, it], FpOk X pins (upd H s.heap.objs.size (.tup [.int i, x])) b := fun b hb => by
      have hb' : b ≠ s.heap.objs.size := by
        rcases List.mem_cons.mp hb with z | z
        · rw [z]; exact Nat.ne_of_lt ltE
        · rw [show b = it by simpa using z]; exact Nat.ne_of_lt ltI
      exact ⟨by rw [upd_ne hb']; exact (hf b hb).1, (hf b hb).2⟩
    have I2 : Inv X pins σ (upd H s.heap.objs.size (.tup [.int i, x])) { s with heap := h2, toks := tk + 1 } := by
      refine Inv.turned2 (e := e) (it := it) (t' := tk + 1) (h' := h2) (s := { s with heap := s.heap.push { cls := .type "tuple", data := .seq #[.int i tk, u'] }, toks := s.toks }) I1 (fun b o n1 n2 q => ?_) f1
      rw [sb.2 b n1]
      rcases Heap.get?_push_cases q with ⟨z1, z2⟩ | z
      · subst z1 z2; exact tup
      · exact kp b o n1 n2 z
    refine ⟨.ref s.heap.objs.size, _, I2, rfl, ⟨_, x, rfl, fr, rfl, fun ys hy => by rw [I.tuple_inj hy hq]; exact hx⟩, ⟨⟨_, he2⟩, ?_⟩, fun b hb => (f1 b hb).1⟩
    exact itup_at lit.1 fun o q => (sb.2 it (Ne.symm hne)).trans q
  done := by
    intro X hP hw hK hc i pins s σ H E I hf st hg
    subst hP hw hK
    obtain ⟨xs, hq, hx⟩ := hg
    obtain ⟨its, rv, p, hz⟩ := I.tuple hq
    obtain ⟨⟨old, he⟩, hit⟩ := st
    obtain ⟨f0, f1, f2, f3, f4, f5⟩ := hf it (by simp)
    have hl := rv.length
    have hT : s.TypeIs (.ref e) "enumerate" := ⟨_, he, rfl⟩
    unfold pyNext
    refine wpAny_bind (wpAny_attempt (wpAny_callSpecial?_slot (name := Str.ofString "__next__") hT F.slot_enumerate_next (wpAny_call_entry F.slot_enumerate_next hT F.entry_enumerate_next ?_ (F.args_enumerate_next_1 _))))
    refine (?_ : wpAny _ _ (field (.ref e) 2 >>= _) _ _ _); refine wpAny_bind (wpAny_field he rfl (x := .ref it) rfl ?_)
    refine wpAny_bind (nx_tup0 (I.ok.hd hc) hit (items := its.toArray) p (by simp; omega) fun h' x he' hx' => ?_)
    obtain ⟨o, ho, hc⟩ := hx'
    exact wpAny_bind (wpAny_isInstance (T := "StopIteration") (b := true) ⟨o, ho, hc⟩ isSubtype_stop (wpAny_pure ⟨rfl, I.turned (t' := s.toks) (fun b o hb e => he' b o hb e) f0 f1 f3 f4 f5⟩))
  self := fun _ _ _ _ _ st h => wpAny_pyIter_enum st.1.choose_spec h
noncomputable def iEnumT (K : PySem.W.Frag) (ta : TA) : TI := fun σ H R => ta σ H fun vs H1 => ∃ a, vs = [.ref a] ∧ (∃ xs, SqT K H1 a xs) ∧ R (ItT K a) H1
section
variable {X : Cx} {elts : List Expr} {tpos : Pos}
theorem pi_enumT {x1} {a : Expr} {ta : TA} {p pos : Pos} (hg : Gl X "enumerate") (hm : X.mg "enumerate" = none) (ha : PA X [a] ta) (hs : starEach [a] X.env = [(false, eval a X.env)] := by rfl) : PI X (.Tuple elts x1 tpos) (.Call (.Name "enumerate" p) [a] [] pos) (iEnumT X.K ta) := by
  intro pins s σ H R I h
  refine Call_ (ld_blt I hg hm bt_enumerate (PyProof.Rows.callWith_type1 (thn (ha pos pins s σ H _ I h) fun us s1 ⟨vs, H1, I1, r1, q1⟩ => ?_) hs rfl))
  obtain ⟨l, e, ⟨xs, hq⟩, q⟩ := q1
  subst e
  cases r1 with
  | cons r rr =>
    cases rr
    cases r
    obtain ⟨its, rv, pl, hz⟩ := I1.tuple hq
    refine call_enT (items := its.toArray) pl fun h' he hit sz kp => ?_
    refine wpAny_pyIter_enum he ?_
    have I2 : Inv X pins σ H1 { s1 with heap := h', toks := s1.toks } := I1.kept kp
    refine ⟨s1.heap.objs.size + 1, [s1.heap.objs.size + 1, s1.heap.objs.size], _, _, H1, rfl, I2, turn_enumT l _ _ (Nat.succ_ne_self _), ⟨⟨_, he⟩, hit⟩, fun b hb => ?_, q⟩
    have hb' : s1.heap.objs.size ≤ b := by
      rcases List.mem_cons.mp hb with z | z
      · rw [z]; exact Nat.le_succ _
      · have e : b = s1.heap.objs.size := by simpa using z
        rw [e]; exact Nat.le_refl _
    exact I1.fpOk hb' (I1.hok.fresh hb')
end
end L2
end
section
namespace L2
open PySem PySem.Spec PyProof.Rows
inductive NumEs (w : World) : List DictEntry → List (Str × Int) → List (Key × Value) → Prop where
  | nil : NumEs w [] [] []
  | cons {x : Str} {t u : Tok} {i : Int} {es : List DictEntry} {kvs : List (Str × Int)} {vs : List (Key × Value)} : NumEs w es kvs vs → NumEs w (⟨PyData.keyHash w.params x, .str x t, .int i u⟩ :: es) ((x, i) :: kvs) ((.inr x, .int i u) :: vs)
structure NumTab (w : World) (K : PySem.W.Frag) (a : Addr) (kvs : List (Str × Int)) : Prop where
  sys : (a == sysModules) = false
  nd : (kvs.map (·.1)).Nodup
  it : ∃ (es : Array DictEntry) (ep : Nat) (vs : List (Key × Value)), K.lookup a = some ⟨.type "dict", none, .dict es ep, #[]⟩ ∧ NumEs w es.toList kvs vs
noncomputable def numGet (kvs : List (Str × Int)) (x : Str) : Option Int := (kvs.find? fun p => decide (p.1 = x)).map (·.2)
theorem NumEs.ok {P : Program} {w : World} : ∀ {es : List DictEntry} {kvs : List (Str × Int)} {vs : List (Key × Value)}, NumEs w es kvs vs → (∀ e ∈ es, ∃ k, (mixKind P w).is k e.key = true ∧ e.hash = (mixKind P w).hash k) ∧ Pairs (mixKind P w) es vs ∧ vs.map (·.1) = kvs.map (fun p => (.inr p.1 : Key))
  | _, _, _, .nil => ⟨fun _ h => (by cases h), .nil, rfl⟩
  | _, _, _, @NumEs.cons _ x t u i es kvs vs r => by
    obtain ⟨a, b, c⟩ := r.ok (P := P)
    refine ⟨fun e he => ?_, .cons (mixKind_str P w x t) rfl b, by rw [List.map_cons, List.map_cons, c]⟩
    rcases List.mem_cons.mp he with rfl | he
    · exact ⟨.inr x, mixKind_str P w x t, rfl⟩
    · exact a e he
theorem NumEs.val {w : World} {es : List DictEntry} {kvs : List (Str × Int)} {vs : List (Key × Value)} (h : NumEs w es kvs vs) (x : Str) : RelV ((numGet kvs x).elim .non .int) ((valueAt vs (.inr x)).getD .none) := by
  induction h with
  | nil => rfl
  | @cons y t u i es kvs vs r ih =>
    by_cases e : y = x
    · simp only [valueAt, numGet, List.find?_cons, decide_eq_true e, e]
      simp [RelV]
    · have e' : ¬ ((Sum.inr y : Key) = Sum.inr x) := fun q => e (Sum.inr.inj q)
      simp only [valueAt, numGet, List.find?_cons, decide_eq_false e, decide_eq_false e'] at ih ⊢
      exact ih
end L2
end
section
namespace L2
open PySem PyProof.Rows PySem.W
section
variable {n : Nat} {lt : Nat → Nat → Bool} {p : Array Nat}
end
end L2
end
section
namespace L2
open PySem PySem.Spec PyProof.Rows PySem.W
section
variable {prog : Program} {w : World} {A : Around} {E : Value → Shared → Prop} {s : Shared}
noncomputable abbrev RItems (a c : Int) : Nat → Value → Prop := fun i v => ∃ t, v = .int (a + i * c) t
theorem collect_rng {Q : List Value → Shared → Prop} {r : Addr} {a b c : Int} {t u v : Tok} {n : Nat} (hh : A.handled = none) (hr : IsRange s.heap r a b c t u v) (h1 : Builtin.Range.small a b c = true) (h2 : Builtin.Range.rangeSize a b c = n) (h3 : n ≤ 2 ^ 24)
    (hQ : ∀ h' tk acc, (∀ x o, s.heap.get? x = some o → h'.get? x = some o) → ItemsOf (RItems a c) acc n → Q acc.toList { s with heap := h', toks := tk }) : wpAny (model prog w) A (collect (.ref r)) Q E s := by
  unfold collect; refine wpAny_bind (wpAny_runValue (codeAny_builtin F.entry_proto_collect ?_)); rw [Around.under_plainId F.plain_proto_collect _]
  show wpAny _ A.in1 (newList [] >>= fun z => again (.builtin "list.__iadd__" ⟨[z, .ref r], []⟩)) _ _ s
  refine wpAny_bind (wpAny_newObj_type (wpAny_pure ⟨plainId_quiet F.plain_list_iadd _, codeAny_builtin F.entry_list_iadd ?_⟩))
  rw [Around.under_plainId F.plain_list_iadd _]; show wpAny _ A.in1 (Builtin.List.listExtendWith (.ref s.heap.objs.size) (.ref r) (.ref s.heap.objs.size)) _ _ _
  have hS0 : (s.heap.push { cls := .type "list", data := .seq ([] : List Value).toArray }).get? s.heap.objs.size = some { cls := .type "list", data := .seq #[] } := Heap.get?_push_size _ rfl
  have hr0 := Heap.get?_push_of_some { cls := .type "list", data := .seq ([] : List Value).toArray } hr
  refine wpAny_extend_range (R := fun z s' => match z with
    | .ok (.ret v) => wpAny (model prog w) A (match v with
      | .ref a => do
        let o ← load a
        match o.data with
          | .seq xs _ => pure xs.toList
          | _ => unsupported "internal:collect"
      | _ => unsupported "internal:collect") Q E s'
    | .ok _ => False
    | .error e => E e s') (s := { s with heap := s.heap.push { cls := .type "list", data := .seq ([] : List Value).toArray } }) hh hr0 h1 h2 h3 s.heap.objs.size _ 0 hS0 fun h' tk acc c' hk hS hacc => ?_
  show wpAny _ A (load s.heap.objs.size >>= fun _ => _) _ _ _
  refine wpAny_bind (wpAny_load hS (wpAny_pure (hQ h' tk acc (fun x o e => ?_) hacc)))
  exact hk x o (Nat.ne_of_lt (Heap.lt_size e)) (Heap.get?_push_of_some _ e)
end
theorem tuple_new_rng (r : Addr) {a b c : Int} {t u v : Tok} {n : Nat} (h1 : Builtin.Range.small a b c = true) (h2 : Builtin.Range.rangeSize a b c = n) (h3 : n ≤ 2 ^ 24) :
    Meets (Builtin.«tuple.__new__» ⟨[.type "tuple", .ref r], []⟩) (fun A R s => (A.handled = none ∧ IsRange s.heap r a b c t u v) ∧ ∀ (h' : Heap) (tk : Nat) (acc : Array Value), (∀ x o, s.heap.get? x = some o → h'.get? x = some o) → ItemsOf (RItems a c) acc n →
      R (.ok (.ret (.ref h'.objs.size))) { s with heap := h'.push { cls := .type "tuple", data := .seq acc }, toks := tk }) :=
  .of_wp fun prog w A R s h => by
    obtain ⟨⟨hh, hr⟩, h⟩ := h
    have hsub := sub_tuple_self
    have hinit := init_tuple_lookup
    have hmh := madeHere_tuple
    have hT : s.TypeIs (.ref r) "range" := ⟨_, hr, rfl⟩
    have hh1 : A.in1.handled = none := hh
    wp_walk using wpAny_typeOf hT, collect_rng hh1 hr h1 h2 h3
    intro h' tk acc hk hacc
    show wpAny _ _ (Builtin.Tuple.tupleExact acc.toList.toArray >>= fun z => ret z) _ _ _
    unfold Builtin.Tuple.tupleExact
    have e : acc.toList.toArray = acc := by simp
    have hz : acc.toList.toArray.size ≤ sizeLine := by rw [e, hacc.1, sizeLine_eq]; omega
    refine wpAny_bind (wpAny_newObj_type (wpAny_pure ⟨_, rfl, ?_⟩) hz)
    rw [e]
    exact h h' tk acc hk hacc
theorem call_tuple_rng {X : Cx} (hc : X.calm = true) : CallR X (.type "tuple") (fun xs H Q => ∃ p j, xs = [.ref p] ∧ H p = some (.rng 0 j) ∧ 0 ≤ j ∧ j ≤ 1000000 ∧ ∀ l, H l = none → Q (.ref l) (upd H l (.tup (upTo j.toNat)))) := by
  intro pins s σ H xs us Q I r h
  obtain ⟨p, j, rfl, hp, h1, h2, q⟩ := h
  obtain ⟨u, rfl, rx⟩ := vals1 r
  cases rx
  obtain ⟨t, u, v, e⟩ := (show ObjOk X.prog X.w H s.heap p (.rng 0 j) from I.hok p _ hp)
  have z : sizeLine ≥ 1000000 := by decide
  refine callType_new F.called_tuple (by decide) (F.typeCall_tuple_1 _) (F.newCall_tuple_1 _) (fun obj => F.args_object_init_2 obj _) F.entry_tuple_new
    (tuple_new_rng p (a := 0) (b := j) (c := 1) (n := j.toNat) (small_one (by omega) (by omega) (by omega) (by omega)) (by rw [rangeSize_one]; split <;> omega) (by omega)) ⟨⟨I.ok.hd hc, e⟩, fun h' tk acc hk hacc => ⟨⟨_, Heap.get?_push_size _ rfl, rfl⟩, ?_⟩⟩
  have I1 : Inv X pins σ H { s with heap := h', toks := tk } := I.kept (t' := tk) hk
  exact ⟨.ref h'.objs.size, _, I1.laid (t' := tk) (fun b o e => Heap.get?_push_of_some _ e) (Nat.le_refl _) (show ObjOk X.prog X.w _ _ _ (.tup (upTo j.toNat)) from ⟨by rw [upTo_length]; omega, acc.toList, vals_items hacc, by simpa using IsTup.new h' acc⟩), rfl, q _ (I1.hok.fresh (Nat.le_refl _))⟩
end L2
end
section
namespace Dp
open PySem L2 Fo Pu
section
variable {X : Cx} {tg iter : Expr} {t : PTA} {fs : FA}
noncomputable def tupOf : PV → Option (List PV)
  | .tup ps => some ps
  | .ktu ps => some ps
  | _ => none
theorem tupOf_ok {K : PySem.W.Frag} {F : Hp} {p : PV} {ps : List PV} {v : V} (h : tupOf p = some ps) (r : Rep K F p v) : ∃ a vs, v = .ref a ∧ SqT K F a vs ∧ Reps K F ps vs := by
  cases p with
  | tup qs => cases h; obtain ⟨a, vs, e1, e2, rs⟩ := r; exact ⟨a, vs, e1, SqT.of e2, rs⟩
  | ktu qs => cases h; exact r
  | _ => cases h
noncomputable def pEnumT (t : PTA) : PTI := fun ρ Q => t ρ fun ps => ∃ p qs, ps = [p] ∧ tupOf p = some qs ∧ Q (enumP 0 qs)
theorem pui_enumT (h : PI X tg iter (iEnumT X.K (lA X.K t))) : PuI X tg iter (pEnumT t) := PI.weak h fun σ H R hh => by
  obtain ⟨F, ρ, Qp, er, q, k⟩ := hh
  refine ⟨F, ρ, _, er, q, fun ps vs F1 H1 h1 g1 r1 => ?_⟩
  obtain ⟨p, qs, rfl, hp, h⟩ := h1
  obtain ⟨v, r, rfl, r1, er'⟩ := r1
  cases (show r = [] from er')
  obtain ⟨a, vs, rfl, hs, rs⟩ := tupOf_ok hp r1
  refine ⟨a, rfl, ⟨vs, SqTm g1.fh hs⟩, k _ _ F1 H1 h g1 fun F2 H2 i s1 s2 => ?_⟩
  have h2 := SqTm (s1.trans s2) hs
  refine ⟨fun p e => ?_, fun hl => ⟨vs, h2, by rw [rs.length]; rw [enumP_len] at hl; exact hl⟩⟩
  rw [enumP_get] at e
  obtain ⟨p', e1, rfl⟩ := Option.map_eq_some_iff.mp e
  obtain ⟨v, ev, rv⟩ := rs.get e1
  refine ⟨⟨vs, v, h2, ev⟩, fun x H3 hy => ?_⟩
  obtain ⟨q, y, ex, hq, e2, hy⟩ := hy
  subst ex e2
  have := hy vs h2
  rw [ev] at this
  cases this
  refine ⟨L2.upd F2 q (.tup [.int i, v]), .new s2 hq _, q, [.int i, v], rfl, upd_same, ?_⟩
  refine ⟨_, _, rfl, ?_, _, _, rfl, (rv.mono s1).mono (same_new (s2.free hq) _), rfl⟩
  show V.int i = V.int ((0 + i : Nat) : Int)
  rw [Nat.zero_add]
noncomputable def fEnumT (fs : FA) : FI := fun ρ => (fs ρ).bind fun rs => (rs.mapM RV.fr).bind fun ps => match ps with
  | [p] => (tupOf p).map (enumP 0)
  | _ => none
theorem i_enumT (h : PI X tg iter (iEnumT X.K (lA X.K (tFs fs)))) : DI X tg iter (fEnumT fs) := PuI_weak (pui_enumT h) fun ρ Q hh => by
  obtain ⟨its, e, q⟩ := hh
  obtain ⟨rs, e1, e⟩ := Option.bind_eq_some_iff.mp e
  obtain ⟨ps, e2, e⟩ := Option.bind_eq_some_iff.mp e
  split at e
  · next p =>
    obtain ⟨qs, e3, rfl⟩ := Option.map_eq_some_iff.mp e
    exact ⟨rs, _, e1, e2, _, _, rfl, e3, q⟩
  · cases e
structure KTup (K : PySem.W.Frag) (a : Addr) (ps : List PV) : Prop where
  it : ∃ vs, ∀ F, SqT K F a vs ∧ Reps K F ps vs
theorem pu_k {x : Str} {a : Addr} {ps : List PV} {pos : Pos} (hg : Gl X x) (hm : X.mg x = some (.ref a)) (h : KTup X.K a ps) (hd : (x == ("__debug__" : Str)) = false := by decide) : PuE X (.Name x pos) (pC (.ktu ps)) :=
  PE.weak (pe_glob (v := .ref a) hg hm rfl hd) fun σ H Q hh => by
    obtain ⟨F, ρ, Qp, er, q, k⟩ := hh
    obtain ⟨vs, hv⟩ := h.it
    exact k (.ktu ps) _ F H q (.refl er.fz) ⟨a, vs, rfl, (hv F).1, (hv F).2⟩
inductive TupEs : List Value → List PV → List V → Prop where
  | nil : TupEs [] [] []
  | str {x : Str} {t : Tok} {us : List Value} {ps : List PV} {vs : List V} : TupEs us ps vs → TupEs (.str x t :: us) (.str x :: ps) (.str x :: vs)
  | int {x : Int} {t : Tok} {us : List Value} {ps : List PV} {vs : List V} : TupEs us ps vs → TupEs (.int x t :: us) (.int x :: ps) (.int x :: vs)
theorem TupEs.ok {K : PySem.W.Frag} {F : Hp} : ∀ {us : List Value} {ps : List PV} {vs : List V}, TupEs us ps vs → Vals vs us ∧ Reps K F ps vs
  | _, _, _, .nil => ⟨.nil, rfl⟩
  | _, _, _, .str h => ⟨.cons ⟨_, rfl⟩ (h.ok (K := K) (F := F)).1, _, _, rfl, rfl, (h.ok (K := K) (F := F)).2⟩
  | _, _, _, .int h => ⟨.cons ⟨_, rfl⟩ (h.ok (K := K) (F := F)).1, _, _, rfl, rfl, (h.ok (K := K) (F := F)).2⟩
theorem ktup_mk {K : PySem.W.Frag} {a : Addr} {ps : List PV} {vs : List V} {us : Array Value} {n : Nat} {d : Option Addr} {sl : Array (Option Value)} (l : K.lookup a = some ⟨.type "tuple", d, .seq us n, sl⟩) (h : TupEs us.toList ps vs) (hz : us.size ≤ sizeLine) : KTup K a ps :=
  ⟨vs, fun F => ⟨.inr ⟨_, us, n, l, rfl, rfl, hz, (h.ok (K := K) (F := F)).1⟩, h.ok.2⟩⟩
end
end Dp
end
section
namespace Dp
open PySem PySem.Spec L2 Pu
section
variable {X : Cx} {st : Stmt} {i : Nat}
theorem reps_ints {K : PySem.W.Frag} {F : Hp} : ∀ is : List Int, Reps K F (is.map PV.int) (is.map V.int)
  | [] => rfl
  | i :: is => ⟨.int i, _, rfl, rfl, reps_ints is⟩
end
end Dp
end
section
namespace Dp
open PySem PySem.Spec L2 Pu
end Dp
end
section
namespace Dp
open PySem PySem.Spec L2 Pu
section
variable {X : Cx} {e : Expr} {es : List Expr} {p pos apos cpos : Pos} {f : FE} {fs : FA} {x : Str} {ps : List PV} {kvs : List (Str × Int)}
noncomputable def kTupR : List PV → Option RV
  | [.rng lo j] => if lo = 0 ∧ 0 ≤ j ∧ j ≤ 1000000 then some (.fz (.tup (ups 0 j.toNat))) else none
  | _ => none
noncomputable def cTupR : PGC := fun ps Q => One ps fun p => OkR p fun j => 0 ≤ j ∧ j ≤ 1000000 ∧ Q (.tup (ups 0 j.toNat))
theorem rc_tupR : RefC X.K (fun xs H Q => ∃ p j, xs = [.ref p] ∧ H p = some (.rng 0 j) ∧ 0 ≤ j ∧ j ≤ 1000000 ∧ ∀ l, H l = none → Q (.ref l) (upd H l (.tup (upTo j.toNat)))) cTupR := fun F H xs ps Qp Q s r h k => by
  obtain ⟨p, v, rfl, rfl, r, h⟩ := h.rd r
  cases p <;> first | exact h.elim | skip
  obtain ⟨rfl, h1, h2, h⟩ := h
  cases r with
  | frz r =>
    obtain ⟨a, rfl, e⟩ := r
    exact ⟨a, _, rfl, s _ _ e, h1, h2, fun l hl => k _ _ _ _ h (.new s hl _) ⟨l, _, rfl, upd_same, reps_upTo _⟩⟩
theorem kTupR_ok : ∀ ps r, kTupR ps = some r → ∃ p, r = .fz p ∧ cTupR ps (fun z => z = p) := fun ps r h => by
  unfold kTupR at h
  split at h
  · split at h
    · next z => cases h; exact ⟨_, rfl, z.1, z.2.1, z.2.2, rfl⟩
    · cases h
  · cases h
theorem d_tupR (hm : X.mg "tuple" = none) (ha : DA X (e :: es) fs) (hc : X.calm = true := by rfl) (hg : Gl X "tuple" := by rfl) (he : starEach (e :: es) X.env = (false, eval e X.env) :: starEach es X.env := by rfl) (hpl : (backTo pos (starEach es X.env)).any (·.1) = false := by rfl) :
    DE X (.Call (.Name "tuple" p) (e :: es) [] pos) (fB kTupR fs) := d_cb rc_tupR kTupR_ok (pe_callTy (call_tuple_rng hc) hg hm bt_tuple ha.t (by decide) (by decide) he hpl)
theorem d_ktu (h : ∃ a, X.mg x = some (.ref a) ∧ KTup X.K a ps) (hg : Gl X x := by rfl) (hd : (x == ("__debug__" : Str)) = false := by decide) : DE X (.Name x pos) (fC (.ktu ps)) := by
  obtain ⟨a, h1, h2⟩ := h
  exact d_c (pu_k hg h1 h2 hd)
end
end Dp
namespace Dp
open PySem PySem.Spec L2 Pu
section
variable {X : Cx} {st : Stmt} {i j : Nat} {f1 f2 : FE}
noncomputable def pParN (i j : Nat) (n1 n2 : PTN) : PTS := fun D ρ => n1 ρ fun ps => n2 ρ fun qs => D.nx ((ρ.set i (some (.own ps))).set j (some (.own qs)))
theorem pus_parN {n1 n2 : PTN} (h : PS X st (tPar i j (tCons (lN X.K n1) (tCons (lN X.K n2) tNil)))) : PuS X st (pParN i j n1 n2) := PS.weak h fun D σ H hh_ => hh_.elim fun F0 H0 F ρ Dp br h ft =>
  ⟨F, ρ, _, br.er, h, fun ps a vs F1 H1 h1 g1 h0 hF hH r1 => ⟨F1, ρ, _, (br.grow g1).er, h1, fun qs b ws F2 H2 h2 g2 k0 kF kH r2 => ⟨_, _, rfl, ft.nx F2 H2 _ _ h2 ((br.setN g1 h0 hF hH r1).setN g2 k0 kF kH r2)⟩⟩⟩
noncomputable def sParN (i j : Nat) (f1 f2 : FE) : FS := fun ρ => match f1 ρ, f2 ρ with
  | some (.nw ps), some (.nw qs) => .nx ((ρ.set i (some (.own ps))).set j (some (.own qs)))
  | _, _ => .bad
theorem s_parN (h : PS X st (tPar i j (tCons (lN X.K (tN f1)) (tCons (lN X.K (tN f2)) tNil)))) : DS X st (sParN i j f1 f2) := PuS_weak (pus_parN h) fun D ρ q => by
  unfold fnS sParN at q
  split at q
  · next ps qs e1 e2 => exact ⟨_, e1, _, e2, q⟩
  · exact q.elim
end
end Dp
end
section
namespace Dp
open PySem PySem.Spec L2 Pu
noncomputable abbrev FTab := List (Addr × (List PV → Option PR))
noncomputable def look : FTab → Addr → Option (List PV → Option PR)
  | [], _ => none
  | (b, F) :: t, a => if a = b then some F else look t a
theorem look1 {b a : Addr} {F G : List PV → Option PR} (h : look [(b, F)] a = some G) : a = b ∧ G = F := by
  unfold look at h
  split at h
  · cases h; exact ⟨by assumption, rfl⟩
  · cases h
theorem look_at {b : Addr} {F : List PV → Option PR} : look [(b, F)] b = some F := by unfold look; rw [if_pos rfl]
section
variable {X : Cx} {e : Expr} {es : List Expr} {p pos : Pos} {fs : FA} {x : Str} {i j k : Nat} {qs : List Str} {t : FTab} {a : Addr}
theorem d_fn (hm : X.mg x = some (.ref a)) (hg : Gl X x := by rfl) (hd : (x == ("__debug__" : Str)) = false := by decide) : DE X (.Name x pos) (fC (.fn a)) := d_c (pu_c (p := .fn a) (pe_glob (v := .ref a) hg hm rfl hd))
noncomputable def oCallL (t : FTab) (o : Option Sl) (as : Option (List PV)) : Option RV := match o, as with
  | some (.val (.fn a)), some ps => (look t a).bind fun F => (F ps).map rvOf
  | _, _ => none
noncomputable def fCallL (t : FTab) (i : Nat) (fs : FA) : FE := fun ρ => oCallL t (sl ρ i) ((fs ρ).bind fun rs => rs.mapM RV.fr)
theorem d_callL (hd : ∀ a F, look t a = some F → DefA X.prog X.w X.K X.mg X.base j a qs (spP X.K (fnP F))) (hr : Room k X.A) (hN : X.N[i]? = some x) (ha : DA X (e :: es) fs) (hv : Vis X.env.scope x := by first | exact Or.inl rfl | exact Or.inr rfl) (hj : j ≤ k := by decide) (hdb : (x == ("__debug__" : Str)) = false := by decide) (hcd : (x == ("__classdict__" : Str)) = false := by decide)
    (he : starEach (e :: es) X.env = (false, eval e X.env) :: starEach es X.env := by rfl) (hpl : (backTo pos (starEach es X.env)).any (·.1) = false := by rfl) : DE X (.Call (.Name x p) (e :: es) [] pos) (fCallL t i fs) :=
  PE.weak (pe_callL (D := fun f sp => ∃ F, look t f = some F ∧ sp = spP X.K (fnP F)) (fun f sp h => by obtain ⟨F, h1, rfl⟩ := h; exact hd f F h1) hr hN hv ha.f hj hdb hcd he hpl) fun σ H Q hh_ => hh_.elim fun F0 ρ r er e k => by
    unfold fCallL oCallL at e
    split at e
    · next a ps es ep =>
      obtain ⟨rs, e2, e3⟩ := Option.bind_eq_some_iff.mp ep
      obtain ⟨F, e1, e⟩ := Option.bind_eq_some_iff.mp e
      obtain ⟨q, e4, rfl⟩ := Option.map_eq_some_iff.mp e
      obtain ⟨v, ev, rd⟩ := er.rd (sl_some es)
      have hs := er.sl i _ (sl_some es)
      rw [ev] at hs
      obtain rfl : v = .ref a := hs
      refine ⟨a, _, ev, ⟨F, e1, rfl⟩, F0, ρ, (fun z => z = ps), er, ⟨rs, ps, e2, e3, rfl⟩, fun ps' vs F1 H1 h1 g1 r1 => ?_⟩
      subst h1
      refine ⟨F1, ps', (fun z => z = q), g1.fh, r1, ⟨q, e4, rfl⟩, fun r v F2 H2 h2 g2 rr => ?_⟩
      subst h2
      refine k v F2 H2 (g1.trans g2) ?_
      cases r with
      | v p => exact rr
      | n ps =>
        obtain ⟨a, vs, rfl, h0, hF, hH, rs⟩ := rr
        exact ⟨a, vs, rfl, g1.hh.free h0, hF, hH, rs⟩
    · cases e
end
end Dp
end
section
namespace Dp
open PySem L2 Fo Pu
noncomputable def F_check_many_s : FS := (sIf (fNotB (fT (fCall F_is_many (fCons (fV 0) fNil)))) sBad sSkip)
theorem q_F_check_many_s {ρ : PSt} : F_check_many_s ρ = (sIf (fNotB (fT (fCall F_is_many (fCons (fV 0) fNil)))) sBad sSkip) ρ := Eq.trans rfl rfl
noncomputable def F_check_many : List PV → Option PR := run 1 1 F_check_many_s
theorem q_F_check_many {a0 : PV} : F_check_many [a0] = (F_check_many_s [some (.val a0)]).res := Eq.trans rfl rfl
noncomputable def F_is_way_of_joining_s : FS := (sRet (fAndV (fB kIs (fCons (fV 0) (fCons (fC (.ty "str")) fNil))) (fFr (fOp rIn (fV 0) (fC (.ktu [.str "size", .str "rank", .str "told", .str "names"]))))))
theorem q_F_is_way_of_joining_s {ρ : PSt} : F_is_way_of_joining_s ρ = (sRet (fAndV (fB kIs (fCons (fV 0) (fCons (fC (.ty "str")) fNil))) (fFr (fOp rIn (fV 0) (fC (.ktu [.str "size", .str "rank", .str "told", .str "names"])))))) ρ := Eq.trans rfl rfl
noncomputable def F_is_way_of_joining : List PV → Option PR := run 1 1 F_is_way_of_joining_s
theorem q_F_is_way_of_joining {a0 : PV} : F_is_way_of_joining [a0] = (F_is_way_of_joining_s [some (.val a0)]).res := Eq.trans rfl rfl
noncomputable def F_check_join_s : FS := (sIf (fNotB (fT (fCall F_is_way_of_joining (fCons (fV 0) fNil)))) sBad sSkip)
theorem q_F_check_join_s {ρ : PSt} : F_check_join_s ρ = (sIf (fNotB (fT (fCall F_is_way_of_joining (fCons (fV 0) fNil)))) sBad sSkip) ρ := Eq.trans rfl rfl
noncomputable def F_check_join : List PV → Option PR := run 1 1 F_check_join_s
theorem q_F_check_join {a0 : PV} : F_check_join [a0] = (F_check_join_s [some (.val a0)]).res := Eq.trans rfl rfl
noncomputable def F_new_store_s : FS := (sSeq (sDrop (fCall F_check_many (fCons (fV 0) fNil)))
    (sSeq (sDrop (fCall F_check_join (fCons (fV 1) fNil)))
    (sSeq (sDrop (fCall F_check_short (fCons (fV 2) fNil)))
    (sSeq (sSet 3 (fIf (fT (fOp rEq (fV 1) (fC (.str "size")))) (fC (.int 1)) (fC (.int 0))))
    (sRet (fTup (fCons (fV 1) (fCons (fV 2) (fCons (fB kTupR (fCons (fB kRng (fCons (fV 0) fNil)) fNil)) (fCons (fOp rMul (fTup (fCons (fV 3) fNil)) (fV 0)) fNil))))))))))
theorem q_F_new_store_s {ρ : PSt} : F_new_store_s ρ = (sSeq (sDrop (fCall F_check_many (fCons (fV 0) fNil)))
    (sSeq (sDrop (fCall F_check_join (fCons (fV 1) fNil)))
    (sSeq (sDrop (fCall F_check_short (fCons (fV 2) fNil)))
    (sSeq (sSet 3 (fIf (fT (fOp rEq (fV 1) (fC (.str "size")))) (fC (.int 1)) (fC (.int 0))))
    (sRet (fTup (fCons (fV 1) (fCons (fV 2) (fCons (fB kTupR (fCons (fB kRng (fCons (fV 0) fNil)) fNil)) (fCons (fOp rMul (fTup (fCons (fV 3) fNil)) (fV 0)) fNil)))))))))) ρ := Eq.trans rfl rfl
noncomputable def F_new_store : List PV → Option PR := run 3 4 F_new_store_s
theorem q_F_new_store {a0 a1 a2 : PV} : F_new_store [a0, a1, a2] = (F_new_store_s [some (.val a0), some (.val a1), some (.val a2), none]).res := Eq.trans rfl rfl
noncomputable def F__law_joins_b1 : FS := (sSeq (sSet 7 (fSl (fCall F__law_numbers (fCons (fCall F__law_cell (fCons (fV 0) (fCons (fOp rAdd (fOp rAdd (fV 1) (fC (.int 1))) (fOp rDiv (fV 6) (fC (.int 5)))) fNil))) (fCons (fC (.int 20)) fNil))) (fPt (fOp rMul (fC (.int 4)) (fOp rMod (fV 6) (fC (.int 5))))) fNo))
    (sSeq (sPar 8 9 (fCons (fOp rMod (fOp rIx (fV 7) (fC (.int 0))) (fV 2)) (fCons (fOp rMod (fOp rIx (fV 7) (fC (.int 1))) (fV 2)) fNil)))
    (sSeq (sIf (fT (fOp rEq (fOp rMod (fOp rIx (fV 4) (fC (.int 1))) (fC (.int 4))) (fC (.int 1)))) (sPar 8 9 (fCons (fOp rMod (fV 6) (fV 2)) (fCons (fOp rMod (fOp rAdd (fV 6) (fC (.int 1))) (fV 2)) fNil))) sSkip)
    (sSeq (sIf (fAndB (fT (fOp rEq (fOp rMod (fOp rIx (fV 4) (fC (.int 1))) (fC (.int 4))) (fC (.int 2)))) (fT (fOp rGt (fOp rMod (fOp rIx (fV 7) (fC (.int 2))) (fC (.int 3))) (fC (.int 0))))) (sSeq (sSet 8 (fOp rMod (fOp rMul (fOp rDiv (fV 8) (fC (.int 2))) (fC (.int 2))) (fV 2)))
    (sSet 9 (fB kMin2 (fCons (fOp rSub (fV 2) (fC (.int 1))) (fCons (fOp rAdd (fV 8) (fC (.int 1))) fNil))))) sSkip)
    (sSeq (sIf (fAndB (fT (fOp rNe (fV 5) (fLst fNil))) (fT (fOp rEq (fOp rMod (fOp rIx (fV 7) (fC (.int 2))) (fC (.int 7))) (fC (.int 1))))) (sAsg (fOp rIx (fV 5) (fOp rMod (fOp rIx (fV 7) (fC (.int 3))) (fB kLen (fCons (fV 5) fNil)))) (gTn 2 (gC (gN 8) (gC (gN 9) g0)))) sSkip)
    (sApp 5 (fCons (fOp rIx (fLst (fCons (fTup (fCons (fV 8) (fCons (fV 9) fNil))) (fCons (fTup (fCons (fV 9) (fCons (fV 8) fNil))) fNil))) (fOp rMod (fOp rDiv (fOp rIx (fV 7) (fC (.int 2))) (fC (.int 7))) (fC (.int 2)))) fNil)))))))
noncomputable def F__law_joins_s : FS := (sSeq (sSet 4 (fCall F__law_numbers (fCons (fCall F__law_cell (fCons (fV 0) (fCons (fV 1) fNil))) (fCons (fC (.int 4)) fNil))))
    (sSeq (sOwn 5 (fLst fNil))
    (sSeq (sFor (fRng rng1 (fCons (fOp rMod (fOp rIx (fV 4) (fC (.int 0))) (fOp rAdd (fV 3) (fC (.int 1)))) fNil)) (gN 6) F__law_joins_b1)
    (sRet (fB kTup (fCons (fV 5) fNil))))))
theorem q_F__law_joins_s {ρ : PSt} : F__law_joins_s ρ = (sSeq (sSet 4 (fCall F__law_numbers (fCons (fCall F__law_cell (fCons (fV 0) (fCons (fV 1) fNil))) (fCons (fC (.int 4)) fNil))))
    (sSeq (sOwn 5 (fLst fNil))
    (sSeq (sFor (fRng rng1 (fCons (fOp rMod (fOp rIx (fV 4) (fC (.int 0))) (fOp rAdd (fV 3) (fC (.int 1)))) fNil)) (gN 6) F__law_joins_b1)
    (sRet (fB kTup (fCons (fV 5) fNil)))))) ρ := Eq.trans rfl rfl
noncomputable def F__law_joins : List PV → Option PR := run 4 10 F__law_joins_s
theorem q_F__law_joins {a0 a1 a2 a3 : PV} : F__law_joins [a0, a1, a2, a3] = (F__law_joins_s [some (.val a0), some (.val a1), some (.val a2), some (.val a3), none, none, none, none, none, none]).res := Eq.trans rfl rfl
noncomputable def F__law_find_b1 : FS := (sPut 0 (fV 5) (fV 4))
theorem q_F__law_find_b1 {ρ : PSt} : F__law_find_b1 ρ = (sPut 0 (fV 5) (fV 4)) ρ := Eq.trans rfl rfl
noncomputable def F__law_find_c2 : FB := (fT (fOp rNe (fOp rIx (fV 0) (fV 7)) (fV 7)))
theorem q_F__law_find_c2 {ρ : PSt} : F__law_find_c2 ρ = (fT (fOp rNe (fOp rIx (fV 0) (fV 7)) (fV 7))) ρ := Eq.trans rfl rfl
noncomputable def F__law_find_b3 : FS := (sSeq (sSet 8 (fOp rIx (fV 0) (fV 7)))
    (sSeq (sPut 0 (fV 7) (fOp rIx (fV 0) (fV 8)))
    (sSeq (sSet 7 (fOp rIx (fLst (fCons (fV 8) (fCons (fOp rIx (fV 0) (fV 7)) fNil))) (fB kInt (fCons (fOp rEq (fV 1) (fC (.str "halves"))) fNil))))
    (sSet 6 (fOp rAdd (fV 6) (fC (.int 1)))))))
theorem q_F__law_find_b3 {ρ : PSt} : F__law_find_b3 ρ = (sSeq (sSet 8 (fOp rIx (fV 0) (fV 7)))
    (sSeq (sPut 0 (fV 7) (fOp rIx (fV 0) (fV 8)))
    (sSeq (sSet 7 (fOp rIx (fLst (fCons (fV 8) (fCons (fOp rIx (fV 0) (fV 7)) fNil))) (fB kInt (fCons (fOp rEq (fV 1) (fC (.str "halves"))) fNil))))
    (sSet 6 (fOp rAdd (fV 6) (fC (.int 1))))))) ρ := Eq.trans rfl rfl
noncomputable def F__law_find_s : FS := (sSeq (sOwn 0 (fB kList (fCons (fV 0) fNil)))
    (sSeq (sSet 3 (fCall F__law_way (fCons (fV 0) (fCons (fV 2) fNil))))
    (sSeq (sSet 4 (fOp rIx (fV 3) (fNeg (fC (.int 1)))))
    (sSeq (sIf (fOrB (fT (fOp rEq (fV 1) (fC (.str "none")))) (fOrB (fT (fOp rEq (fV 1) (fC (.str "whole")))) (fT (fOp rEq (fV 1) (fC (.str "one")))))) (sSeq (sIf (fT (fOp rEq (fV 1) (fC (.str "whole")))) (sFor (fIt (fV 3)) (gN 5) F__law_find_b1) sSkip)
    (sSeq (sIf (fT (fOp rEq (fV 1) (fC (.str "one")))) (sPut 0 (fV 2) (fOp rIx (fV 0) (fOp rIx (fV 0) (fV 2)))) sSkip)
    (sRet (fTup (fCons (fV 4) (fCons (fB kTup (fCons (fV 0) fNil)) (fCons (fOp rSub (fB kLen (fCons (fV 3) fNil)) (fC (.int 1))) fNil))))))) sSkip)
    (sSeq (sSet 6 (fC (.int 0)))
    (sSeq (sSet 7 (fV 2))
    (sSeq (sWhile F__law_find_c2 F__law_find_b3)
    (sRet (fTup (fCons (fV 4) (fCons (fB kTup (fCons (fV 0) fNil)) (fCons (fV 6) fNil))))))))))))
theorem q_F__law_find_s {ρ : PSt} : F__law_find_s ρ = (sSeq (sOwn 0 (fB kList (fCons (fV 0) fNil)))
    (sSeq (sSet 3 (fCall F__law_way (fCons (fV 0) (fCons (fV 2) fNil))))
    (sSeq (sSet 4 (fOp rIx (fV 3) (fNeg (fC (.int 1)))))
    (sSeq (sIf (fOrB (fT (fOp rEq (fV 1) (fC (.str "none")))) (fOrB (fT (fOp rEq (fV 1) (fC (.str "whole")))) (fT (fOp rEq (fV 1) (fC (.str "one")))))) (sSeq (sIf (fT (fOp rEq (fV 1) (fC (.str "whole")))) (sFor (fIt (fV 3)) (gN 5) F__law_find_b1) sSkip)
    (sSeq (sIf (fT (fOp rEq (fV 1) (fC (.str "one")))) (sPut 0 (fV 2) (fOp rIx (fV 0) (fOp rIx (fV 0) (fV 2)))) sSkip)
    (sRet (fTup (fCons (fV 4) (fCons (fB kTup (fCons (fV 0) fNil)) (fCons (fOp rSub (fB kLen (fCons (fV 3) fNil)) (fC (.int 1))) fNil))))))) sSkip)
    (sSeq (sSet 6 (fC (.int 0)))
    (sSeq (sSet 7 (fV 2))
    (sSeq (sWhile F__law_find_c2 F__law_find_b3)
    (sRet (fTup (fCons (fV 4) (fCons (fB kTup (fCons (fV 0) fNil)) (fCons (fV 6) fNil)))))))))))) ρ := Eq.trans rfl rfl
noncomputable def F__law_find : List PV → Option PR := run 3 9 F__law_find_s
theorem q_F__law_find {a0 a1 a2 : PV} : F__law_find [a0, a1, a2] = (F__law_find_s [some (.val a0), some (.val a1), some (.val a2), none, none, none, none, none, none]).res := Eq.trans rfl rfl
noncomputable def F__law_linked_s : FS := (sSeq (sParN 1 2 (fB kList (fCons (fV 1) fNil)) (fB kList (fCons (fV 2) fNil)))
    (sSeq (sPar 5 6 (fCons (fV 3) (fCons (fV 4) fNil)))
    (sSeq (sIf (fOrB (fAndB (fT (fOp rIn (fV 0) (fTup (fCons (fC (.str "size")) (fCons (fC (.str "rank")) fNil))))) (fT (fOp rGt (fOp rIx (fV 2) (fV 4)) (fOp rIx (fV 2) (fV 3))))) (fAndB (fT (fOp rEq (fV 0) (fC (.str "names")))) (fT (fOp rLt (fV 4) (fV 3))))) (sPar 5 6 (fCons (fV 4) (fCons (fV 3) fNil))) sSkip)
    (sSeq (sPut 1 (fV 6) (fV 5))
    (sSeq (sIf (fT (fOp rEq (fV 0) (fC (.str "size")))) (sPut 2 (fV 5) (fOp rAdd (fOp rIx (fV 2) (fV 5)) (fOp rIx (fV 2) (fV 6)))) sSkip)
    (sSeq (sIf (fAndB (fT (fOp rEq (fV 0) (fC (.str "rank")))) (fT (fOp rEq (fOp rIx (fV 2) (fV 5)) (fOp rIx (fV 2) (fV 6))))) (sPut 2 (fV 5) (fOp rAdd (fOp rIx (fV 2) (fV 5)) (fC (.int 1)))) sSkip)
    (sRet (fTup (fCons (fB kTup (fCons (fV 1) fNil)) (fCons (fB kTup (fCons (fV 2) fNil)) fNil))))))))))
theorem q_F__law_linked_s {ρ : PSt} : F__law_linked_s ρ = (sSeq (sParN 1 2 (fB kList (fCons (fV 1) fNil)) (fB kList (fCons (fV 2) fNil)))
    (sSeq (sPar 5 6 (fCons (fV 3) (fCons (fV 4) fNil)))
    (sSeq (sIf (fOrB (fAndB (fT (fOp rIn (fV 0) (fTup (fCons (fC (.str "size")) (fCons (fC (.str "rank")) fNil))))) (fT (fOp rGt (fOp rIx (fV 2) (fV 4)) (fOp rIx (fV 2) (fV 3))))) (fAndB (fT (fOp rEq (fV 0) (fC (.str "names")))) (fT (fOp rLt (fV 4) (fV 3))))) (sPar 5 6 (fCons (fV 4) (fCons (fV 3) fNil))) sSkip)
    (sSeq (sPut 1 (fV 6) (fV 5))
    (sSeq (sIf (fT (fOp rEq (fV 0) (fC (.str "size")))) (sPut 2 (fV 5) (fOp rAdd (fOp rIx (fV 2) (fV 5)) (fOp rIx (fV 2) (fV 6)))) sSkip)
    (sSeq (sIf (fAndB (fT (fOp rEq (fV 0) (fC (.str "rank")))) (fT (fOp rEq (fOp rIx (fV 2) (fV 5)) (fOp rIx (fV 2) (fV 6))))) (sPut 2 (fV 5) (fOp rAdd (fOp rIx (fV 2) (fV 5)) (fC (.int 1)))) sSkip)
    (sRet (fTup (fCons (fB kTup (fCons (fV 1) fNil)) (fCons (fB kTup (fCons (fV 2) fNil)) fNil)))))))))) ρ := Eq.trans rfl rfl
noncomputable def F__law_linked : List PV → Option PR := run 5 7 F__law_linked_s
theorem q_F__law_linked {a0 a1 a2 a3 a4 : PV} : F__law_linked [a0, a1, a2, a3, a4] = (F__law_linked_s [some (.val a0), some (.val a1), some (.val a2), some (.val a3), some (.val a4), none, none]).res := Eq.trans rfl rfl
noncomputable def F__law_deed_s : FS := (sSeq (sAsg (fV 0) (gTn 4 (gC (gN 2) (gC (gN 3) (gC (gN 4) (gC (gN 5) g0))))))
    (sSeq (sAsg (fCall F__law_find (fCons (fV 4) (fCons (fV 3) (fCons (fOp rIx (fV 1) (fC (.int 1))) fNil)))) (gTn 3 (gC (gN 6) (gC (gN 4) (gC (gN 7) g0)))))
    (sSeq (sIf (fT (fOp rEq (fOp rIx (fV 1) (fC (.int 0))) (fC (.str "find")))) (sRet (fTup (fCons (fTup (fCons (fV 2) (fCons (fV 3) (fCons (fV 4) (fCons (fV 5) fNil))))) (fCons (fV 6) (fCons (fV 7) fNil))))) sSkip)
    (sSeq (sAsg (fCall F__law_find (fCons (fV 4) (fCons (fV 3) (fCons (fOp rIx (fV 1) (fC (.int 2))) fNil)))) (gTn 3 (gC (gN 8) (gC (gN 4) (gC (gN 9) g0)))))
    (sSeq (sIf (fT (fOp rNe (fV 6) (fV 8))) (sAsg (fCall F__law_linked (fCons (fV 2) (fCons (fV 4) (fCons (fV 5) (fCons (fV 6) (fCons (fV 8) fNil)))))) (gTn 2 (gC (gN 4) (gC (gN 5) g0)))) sSkip)
    (sRet (fTup (fCons (fTup (fCons (fV 2) (fCons (fV 3) (fCons (fV 4) (fCons (fV 5) fNil))))) (fCons (fOp rNe (fV 6) (fV 8)) (fCons (fOp rAdd (fV 7) (fV 9)) fNil))))))))))
theorem q_F__law_deed_s {ρ : PSt} : F__law_deed_s ρ = (sSeq (sAsg (fV 0) (gTn 4 (gC (gN 2) (gC (gN 3) (gC (gN 4) (gC (gN 5) g0))))))
    (sSeq (sAsg (fCall F__law_find (fCons (fV 4) (fCons (fV 3) (fCons (fOp rIx (fV 1) (fC (.int 1))) fNil)))) (gTn 3 (gC (gN 6) (gC (gN 4) (gC (gN 7) g0)))))
    (sSeq (sIf (fT (fOp rEq (fOp rIx (fV 1) (fC (.int 0))) (fC (.str "find")))) (sRet (fTup (fCons (fTup (fCons (fV 2) (fCons (fV 3) (fCons (fV 4) (fCons (fV 5) fNil))))) (fCons (fV 6) (fCons (fV 7) fNil))))) sSkip)
    (sSeq (sAsg (fCall F__law_find (fCons (fV 4) (fCons (fV 3) (fCons (fOp rIx (fV 1) (fC (.int 2))) fNil)))) (gTn 3 (gC (gN 8) (gC (gN 4) (gC (gN 9) g0)))))
    (sSeq (sIf (fT (fOp rNe (fV 6) (fV 8))) (sAsg (fCall F__law_linked (fCons (fV 2) (fCons (fV 4) (fCons (fV 5) (fCons (fV 6) (fCons (fV 8) fNil)))))) (gTn 2 (gC (gN 4) (gC (gN 5) g0)))) sSkip)
    (sRet (fTup (fCons (fTup (fCons (fV 2) (fCons (fV 3) (fCons (fV 4) (fCons (fV 5) fNil))))) (fCons (fOp rNe (fV 6) (fV 8)) (fCons (fOp rAdd (fV 7) (fV 9)) fNil)))))))))) ρ := Eq.trans rfl rfl
noncomputable def F__law_deed : List PV → Option PR := run 2 10 F__law_deed_s
theorem q_F__law_deed {a0 a1 : PV} : F__law_deed [a0, a1] = (F__law_deed_s [some (.val a0), some (.val a1), none, none, none, none, none, none, none, none]).res := Eq.trans rfl rfl
noncomputable def F_copied_s : FS := (sRet (fB kTup (fCons (fB kList (fCons (fV 0) fNil)) fNil)))
theorem q_F_copied_s {ρ : PSt} : F_copied_s ρ = (sRet (fB kTup (fCons (fB kList (fCons (fV 0) fNil)) fNil))) ρ := Eq.trans rfl rfl
noncomputable def F_copied : List PV → Option PR := run 1 1 F_copied_s
theorem q_F_copied {a0 : PV} : F_copied [a0] = (F_copied_s [some (.val a0)]).res := Eq.trans rfl rfl
noncomputable def F_find_done_s : FS := (sSeq (sAsg (fV 0) (gTn 4 (gC (gN 2) (gC (gN 3) (gC (gN 4) (gC (gN 5) g0))))))
    (sSeq (sAsg (fCall F_find_in (fCons (fV 4) (fCons (fV 3) (fCons (fV 1) fNil)))) (gTn 3 (gC (gN 6) (gC (gN 7) (gC (gN 8) g0)))))
    (sRet (fTup (fCons (fTup (fCons (fV 2) (fCons (fV 3) (fCons (fV 7) (fCons (fCall F_copied (fCons (fV 5) fNil)) fNil))))) (fCons (fV 6) (fCons (fV 8) fNil)))))))
theorem q_F_find_done_s {ρ : PSt} : F_find_done_s ρ = (sSeq (sAsg (fV 0) (gTn 4 (gC (gN 2) (gC (gN 3) (gC (gN 4) (gC (gN 5) g0))))))
    (sSeq (sAsg (fCall F_find_in (fCons (fV 4) (fCons (fV 3) (fCons (fV 1) fNil)))) (gTn 3 (gC (gN 6) (gC (gN 7) (gC (gN 8) g0)))))
    (sRet (fTup (fCons (fTup (fCons (fV 2) (fCons (fV 3) (fCons (fV 7) (fCons (fCall F_copied (fCons (fV 5) fNil)) fNil))))) (fCons (fV 6) (fCons (fV 8) fNil))))))) ρ := Eq.trans rfl rfl
noncomputable def F_find_done : List PV → Option PR := run 2 9 F_find_done_s
theorem q_F_find_done {a0 a1 : PV} : F_find_done [a0, a1] = (F_find_done_s [some (.val a0), some (.val a1), none, none, none, none, none, none, none]).res := Eq.trans rfl rfl
noncomputable def F_first_stays_s : FS := (sSeq (sIf (fT (fOp rEq (fV 0) (fC (.str "told")))) (sRet (fC (.bl true))) sSkip)
    (sSeq (sIf (fT (fOp rEq (fV 0) (fC (.str "names")))) (sRet (fOp rLt (fV 2) (fV 3))) sSkip)
    (sRet (fOp rGe (fOp rIx (fV 1) (fV 2)) (fOp rIx (fV 1) (fV 3))))))
theorem q_F_first_stays_s {ρ : PSt} : F_first_stays_s ρ = (sSeq (sIf (fT (fOp rEq (fV 0) (fC (.str "told")))) (sRet (fC (.bl true))) sSkip)
    (sSeq (sIf (fT (fOp rEq (fV 0) (fC (.str "names")))) (sRet (fOp rLt (fV 2) (fV 3))) sSkip)
    (sRet (fOp rGe (fOp rIx (fV 1) (fV 2)) (fOp rIx (fV 1) (fV 3)))))) ρ := Eq.trans rfl rfl
noncomputable def F_first_stays : List PV → Option PR := run 4 4 F_first_stays_s
theorem q_F_first_stays {a0 a1 a2 a3 : PV} : F_first_stays [a0, a1, a2, a3] = (F_first_stays_s [some (.val a0), some (.val a1), some (.val a2), some (.val a3)]).res := Eq.trans rfl rfl
noncomputable def F_mark_behind_s : FS := (sSeq (sIf (fT (fOp rEq (fV 0) (fC (.str "size")))) (sRet (fOp rAdd (fV 1) (fV 2))) sSkip)
    (sSeq (sIf (fAndB (fT (fOp rEq (fV 0) (fC (.str "rank")))) (fT (fOp rEq (fV 1) (fV 2)))) (sRet (fOp rAdd (fV 1) (fC (.int 1)))) sSkip)
    (sRetV 1)))
theorem q_F_mark_behind_s {ρ : PSt} : F_mark_behind_s ρ = (sSeq (sIf (fT (fOp rEq (fV 0) (fC (.str "size")))) (sRet (fOp rAdd (fV 1) (fV 2))) sSkip)
    (sSeq (sIf (fAndB (fT (fOp rEq (fV 0) (fC (.str "rank")))) (fT (fOp rEq (fV 1) (fV 2)))) (sRet (fOp rAdd (fV 1) (fC (.int 1)))) sSkip)
    (sRetV 1))) ρ := Eq.trans rfl rfl
noncomputable def F_mark_behind : List PV → Option PR := run 3 3 F_mark_behind_s
theorem q_F_mark_behind {a0 a1 a2 : PV} : F_mark_behind [a0, a1, a2] = (F_mark_behind_s [some (.val a0), some (.val a1), some (.val a2)]).res := Eq.trans rfl rfl
noncomputable def F_with_heads_joined_s : FS := (sSeq (sAsg (fV 0) (gTn 4 (gC (gN 3) (gC (gN 4) (gC (gN 5) (gC (gN 6) g0))))))
    (sSeq (sSet 7 (fCall F_first_stays (fCons (fV 3) (fCons (fV 6) (fCons (fV 1) (fCons (fV 2) fNil))))))
    (sSeq (sAsg (fIf (fT (fV 7)) (fTup (fCons (fV 1) (fCons (fV 2) fNil))) (fTup (fCons (fV 2) (fCons (fV 1) fNil)))) (gTn 2 (gC (gN 8) (gC (gN 9) g0))))
    (sSeq (sOwn 10 (fB kList (fCons (fV 5) fNil)))
    (sSeq (sPut 10 (fV 9) (fV 8))
    (sSeq (sOwn 11 (fB kList (fCons (fV 6) fNil)))
    (sSeq (sPut 11 (fV 8) (fCall F_mark_behind (fCons (fV 3) (fCons (fOp rIx (fV 6) (fV 8)) (fCons (fOp rIx (fV 6) (fV 9)) fNil)))))
    (sRet (fTup (fCons (fV 3) (fCons (fV 4) (fCons (fB kTup (fCons (fV 10) fNil)) (fCons (fB kTup (fCons (fV 11) fNil)) fNil)))))))))))))
theorem q_F_with_heads_joined_s {ρ : PSt} : F_with_heads_joined_s ρ = (sSeq (sAsg (fV 0) (gTn 4 (gC (gN 3) (gC (gN 4) (gC (gN 5) (gC (gN 6) g0))))))
    (sSeq (sSet 7 (fCall F_first_stays (fCons (fV 3) (fCons (fV 6) (fCons (fV 1) (fCons (fV 2) fNil))))))
    (sSeq (sAsg (fIf (fT (fV 7)) (fTup (fCons (fV 1) (fCons (fV 2) fNil))) (fTup (fCons (fV 2) (fCons (fV 1) fNil)))) (gTn 2 (gC (gN 8) (gC (gN 9) g0))))
    (sSeq (sOwn 10 (fB kList (fCons (fV 5) fNil)))
    (sSeq (sPut 10 (fV 9) (fV 8))
    (sSeq (sOwn 11 (fB kList (fCons (fV 6) fNil)))
    (sSeq (sPut 11 (fV 8) (fCall F_mark_behind (fCons (fV 3) (fCons (fOp rIx (fV 6) (fV 8)) (fCons (fOp rIx (fV 6) (fV 9)) fNil)))))
    (sRet (fTup (fCons (fV 3) (fCons (fV 4) (fCons (fB kTup (fCons (fV 10) fNil)) (fCons (fB kTup (fCons (fV 11) fNil)) fNil))))))))))))) ρ := Eq.trans rfl rfl
noncomputable def F_with_heads_joined : List PV → Option PR := run 3 12 F_with_heads_joined_s
theorem q_F_with_heads_joined {a0 a1 a2 : PV} : F_with_heads_joined [a0, a1, a2] = (F_with_heads_joined_s [some (.val a0), some (.val a1), some (.val a2), none, none, none, none, none, none, none, none, none]).res := Eq.trans rfl rfl
noncomputable def F_join_done_s : FS := (sSeq (sAsg (fCall F_find_done (fCons (fV 0) (fCons (fV 1) fNil))) (gTn 3 (gC (gN 3) (gC (gN 4) (gC (gN 5) g0)))))
    (sSeq (sAsg (fCall F_find_done (fCons (fV 3) (fCons (fV 2) fNil))) (gTn 3 (gC (gN 6) (gC (gN 7) (gC (gN 8) g0)))))
    (sSeq (sSet 9 (fOp rAdd (fV 5) (fV 8)))
    (sSeq (sIf (fT (fOp rEq (fV 4) (fV 7))) (sRet (fTup (fCons (fV 6) (fCons (fC (.bl false)) (fCons (fV 9) fNil))))) sSkip)
    (sRet (fTup (fCons (fCall F_with_heads_joined (fCons (fV 6) (fCons (fV 4) (fCons (fV 7) fNil)))) (fCons (fC (.bl true)) (fCons (fV 9) fNil)))))))))
theorem q_F_join_done_s {ρ : PSt} : F_join_done_s ρ = (sSeq (sAsg (fCall F_find_done (fCons (fV 0) (fCons (fV 1) fNil))) (gTn 3 (gC (gN 3) (gC (gN 4) (gC (gN 5) g0)))))
    (sSeq (sAsg (fCall F_find_done (fCons (fV 3) (fCons (fV 2) fNil))) (gTn 3 (gC (gN 6) (gC (gN 7) (gC (gN 8) g0)))))
    (sSeq (sSet 9 (fOp rAdd (fV 5) (fV 8)))
    (sSeq (sIf (fT (fOp rEq (fV 4) (fV 7))) (sRet (fTup (fCons (fV 6) (fCons (fC (.bl false)) (fCons (fV 9) fNil))))) sSkip)
    (sRet (fTup (fCons (fCall F_with_heads_joined (fCons (fV 6) (fCons (fV 4) (fCons (fV 7) fNil)))) (fCons (fC (.bl true)) (fCons (fV 9) fNil))))))))) ρ := Eq.trans rfl rfl
noncomputable def F_join_done : List PV → Option PR := run 3 10 F_join_done_s
theorem q_F_join_done {a0 a1 a2 : PV} : F_join_done [a0, a1, a2] = (F_join_done_s [some (.val a0), some (.val a1), some (.val a2), none, none, none, none, none, none, none]).res := Eq.trans rfl rfl
end Dp
end
section
namespace Dp
open PySem L2 Fo Pu
noncomputable def F__law_drawn_s : FS := (sSeq (sSet 2 (fCall F__law_numbers (fCons (fCall F__law_cell (fCons (fV 0) (fCons (fOp rAdd (fC (.int 40)) (fOp rDiv (fV 1) (fC (.int 13)))) fNil))) (fCons (fC (.int 4)) fNil))))
    (sSeq (sSet 3 (fCall F__law_many (fCons (fOp rIx (fV 2) (fC (.int 0))) fNil)))
    (sRet (fTup (fCons (fV 3) (fCons (fCall F__law_joins (fCons (fV 0) (fCons (fV 1) (fCons (fV 3) (fCons (fOp rIx (fLst (fCons (fC (.int 12)) (fCons (fC (.int 60)) fNil))) (fB kInt (fCons (fOp rEq (fOp rMod (fOp rIx (fV 2) (fC (.int 1))) (fC (.int 4))) (fC (.int 1))) fNil))) fNil))))) fNil))))))
theorem q_F__law_drawn_s {ρ : PSt} : F__law_drawn_s ρ = (sSeq (sSet 2 (fCall F__law_numbers (fCons (fCall F__law_cell (fCons (fV 0) (fCons (fOp rAdd (fC (.int 40)) (fOp rDiv (fV 1) (fC (.int 13)))) fNil))) (fCons (fC (.int 4)) fNil))))
    (sSeq (sSet 3 (fCall F__law_many (fCons (fOp rIx (fV 2) (fC (.int 0))) fNil)))
    (sRet (fTup (fCons (fV 3) (fCons (fCall F__law_joins (fCons (fV 0) (fCons (fV 1) (fCons (fV 3) (fCons (fOp rIx (fLst (fCons (fC (.int 12)) (fCons (fC (.int 60)) fNil))) (fB kInt (fCons (fOp rEq (fOp rMod (fOp rIx (fV 2) (fC (.int 1))) (fC (.int 4))) (fC (.int 1))) fNil))) fNil))))) fNil)))))) ρ := Eq.trans rfl rfl
noncomputable def F__law_drawn : List PV → Option PR := run 2 4 F__law_drawn_s
theorem q_F__law_drawn {a0 a1 : PV} : F__law_drawn [a0, a1] = (F__law_drawn_s [some (.val a0), some (.val a1), none, none]).res := Eq.trans rfl rfl
noncomputable def F__law_new_s : FS := (sRet (fTup (fCons (fV 1) (fCons (fV 2) (fCons (fB kTupR (fCons (fB kRng (fCons (fV 0) fNil)) fNil)) (fCons (fOp rMul (fTup (fCons (fB kInt (fCons (fOp rEq (fV 1) (fC (.str "size"))) fNil)) fNil)) (fV 0)) fNil))))))
theorem q_F__law_new_s {ρ : PSt} : F__law_new_s ρ = (sRet (fTup (fCons (fV 1) (fCons (fV 2) (fCons (fB kTupR (fCons (fB kRng (fCons (fV 0) fNil)) fNil)) (fCons (fOp rMul (fTup (fCons (fB kInt (fCons (fOp rEq (fV 1) (fC (.str "size"))) fNil)) fNil)) (fV 0)) fNil)))))) ρ := Eq.trans rfl rfl
noncomputable def F__law_new : List PV → Option PR := run 3 3 F__law_new_s
theorem q_F__law_new {a0 a1 a2 : PV} : F__law_new [a0, a1, a2] = (F__law_new_s [some (.val a0), some (.val a1), some (.val a2)]).res := Eq.trans rfl rfl
noncomputable def F__law_times_b1 : FS := (sIf (fT (fOp rNe (fOp rIx (fOp rIx (fV 7) (fC (.int 2))) (fV 8)) (fOp rIx (fOp rIx (fV 2) (fC (.int 2))) (fV 8)))) (sPut 3 (fV 8) (fV 4)) sSkip)
theorem q_F__law_times_b1 {ρ : PSt} : F__law_times_b1 ρ = (sIf (fT (fOp rNe (fOp rIx (fOp rIx (fV 7) (fC (.int 2))) (fV 8)) (fOp rIx (fOp rIx (fV 2) (fC (.int 2))) (fV 8)))) (sPut 3 (fV 8) (fV 4)) sSkip) ρ := Eq.trans rfl rfl
noncomputable def F__law_times_b2 : FS := (sSeq (sSet 7 (fOp rIx (fCall F__law_deed (fCons (fV 2) (fCons (fTup (fCons (fC (.str "join")) (fCons (fV 5) (fCons (fV 6) fNil)))) fNil))) (fC (.int 0))))
    (sSeq (sFor (fRng rng1 (fCons (fV 0) fNil)) (gN 8) F__law_times_b1)
    (sSet 2 (fV 7))))
theorem q_F__law_times_b2 {ρ : PSt} : F__law_times_b2 ρ = (sSeq (sSet 7 (fOp rIx (fCall F__law_deed (fCons (fV 2) (fCons (fTup (fCons (fC (.str "join")) (fCons (fV 5) (fCons (fV 6) fNil)))) fNil))) (fC (.int 0))))
    (sSeq (sFor (fRng rng1 (fCons (fV 0) fNil)) (gN 8) F__law_times_b1)
    (sSet 2 (fV 7)))) ρ := Eq.trans rfl rfl
noncomputable def F__law_times_s : FS := (sSeq (sSet 2 (fCall F__law_new (fCons (fV 0) (fCons (fC (.str "size")) (fCons (fC (.str "none")) fNil)))))
    (sSeq (sOwn 3 (fOp rMul (fLst (fCons (fC .non) fNil)) (fV 0)))
    (sSeq (sFor (fEnumT (fCons (fV 1) fNil)) (gTn 2 (gC (gN 4) (gC (gTn 2 (gC (gN 5) (gC (gN 6) g0))) g0))) F__law_times_b2)
    (sRet (fTup (fCons (fOp rIx (fV 2) (fC (.int 2))) (fCons (fB kTup (fCons (fV 3) fNil)) fNil)))))))
theorem q_F__law_times_s {ρ : PSt} : F__law_times_s ρ = (sSeq (sSet 2 (fCall F__law_new (fCons (fV 0) (fCons (fC (.str "size")) (fCons (fC (.str "none")) fNil)))))
    (sSeq (sOwn 3 (fOp rMul (fLst (fCons (fC .non) fNil)) (fV 0)))
    (sSeq (sFor (fEnumT (fCons (fV 1) fNil)) (gTn 2 (gC (gN 4) (gC (gTn 2 (gC (gN 5) (gC (gN 6) g0))) g0))) F__law_times_b2)
    (sRet (fTup (fCons (fOp rIx (fV 2) (fC (.int 2))) (fCons (fB kTup (fCons (fV 3) fNil)) fNil))))))) ρ := Eq.trans rfl rfl
noncomputable def F__law_times : List PV → Option PR := run 2 9 F__law_times_s
theorem q_F__law_times {a0 a1 : PV} : F__law_times [a0, a1] = (F__law_times_s [some (.val a0), some (.val a1), none, none, none, none, none, none, none]).res := Eq.trans rfl rfl
noncomputable def F_check_row_b1 (t : FTab) : FS := (sIf (fNotB (fT (fCallL t 2 (fCons (fV 0) (fCons (fV 4) fNil))))) sBad sSkip)
theorem q_F_check_row_b1 {t : FTab} {ρ : PSt} : (F_check_row_b1 t) ρ = (sIf (fNotB (fT (fCallL t 2 (fCons (fV 0) (fCons (fV 4) fNil))))) sBad sSkip) ρ := Eq.trans rfl rfl
noncomputable def F_check_row_s (t : FTab) : FS := (sSeq (sIf (fNotB (fT (fB kIs (fCons (fV 1) (fCons (fC (.ty "tuple")) fNil))))) sBad sSkip)
    (sFor (fEnumT (fCons (fV 1) fNil)) (gTn 2 (gC (gN 3) (gC (gN 4) g0))) (F_check_row_b1 t)))
theorem q_F_check_row_s {t : FTab} {ρ : PSt} : (F_check_row_s t) ρ = (sSeq (sIf (fNotB (fT (fB kIs (fCons (fV 1) (fCons (fC (.ty "tuple")) fNil))))) sBad sSkip)
    (sFor (fEnumT (fCons (fV 1) fNil)) (gTn 2 (gC (gN 3) (gC (gN 4) g0))) (F_check_row_b1 t))) ρ := Eq.trans rfl rfl
noncomputable def F_check_row (t : FTab) : List PV → Option PR := run 3 5 (F_check_row_s t)
theorem q_F_check_row {t : FTab} {a0 a1 a2 : PV} : (F_check_row t) [a0, a1, a2] = ((F_check_row_s t) [some (.val a0), some (.val a1), some (.val a2), none, none]).res := Eq.trans rfl rfl
noncomputable def F_is_pair_s : FS := (sSeq (sIf (fOrB (fNotB (fT (fB kIs (fCons (fV 1) (fCons (fC (.ty "tuple")) fNil))))) (fT (fOp rNe (fB kLen (fCons (fV 1) fNil)) (fC (.int 2))))) (sRet (fC (.bl false))) sSkip)
    (sRet (fAndV (fCall F_is_thing (fCons (fV 0) (fCons (fOp rIx (fV 1) (fC (.int 0))) fNil))) (fFr (fCall F_is_thing (fCons (fV 0) (fCons (fOp rIx (fV 1) (fC (.int 1))) fNil)))))))
theorem q_F_is_pair_s {ρ : PSt} : F_is_pair_s ρ = (sSeq (sIf (fOrB (fNotB (fT (fB kIs (fCons (fV 1) (fCons (fC (.ty "tuple")) fNil))))) (fT (fOp rNe (fB kLen (fCons (fV 1) fNil)) (fC (.int 2))))) (sRet (fC (.bl false))) sSkip)
    (sRet (fAndV (fCall F_is_thing (fCons (fV 0) (fCons (fOp rIx (fV 1) (fC (.int 0))) fNil))) (fFr (fCall F_is_thing (fCons (fV 0) (fCons (fOp rIx (fV 1) (fC (.int 1))) fNil))))))) ρ := Eq.trans rfl rfl
noncomputable def F_is_pair : List PV → Option PR := run 2 2 F_is_pair_s
theorem q_F_is_pair {a0 a1 : PV} : F_is_pair [a0, a1] = (F_is_pair_s [some (.val a0), some (.val a1)]).res := Eq.trans rfl rfl
noncomputable def F_check_joins_s (a_is_pair : Addr) : FS := (sDrop (fCall (F_check_row [(a_is_pair, F_is_pair)]) (fCons (fV 0) (fCons (fV 1) (fCons (fC (.fn a_is_pair)) fNil)))))
theorem q_F_check_joins_s {a_is_pair : Addr} {ρ : PSt} : (F_check_joins_s a_is_pair) ρ = (sDrop (fCall (F_check_row [(a_is_pair, F_is_pair)]) (fCons (fV 0) (fCons (fV 1) (fCons (fC (.fn a_is_pair)) fNil))))) ρ := Eq.trans rfl rfl
noncomputable def F_check_joins (a_is_pair : Addr) : List PV → Option PR := run 2 2 (F_check_joins_s a_is_pair)
theorem q_F_check_joins {a_is_pair : Addr} {a0 a1 : PV} : (F_check_joins a_is_pair) [a0, a1] = ((F_check_joins_s a_is_pair) [some (.val a0), some (.val a1)]).res := Eq.trans rfl rfl
noncomputable def F_check_many_and_row_s (a_is_pair : Addr) : FS := (sSeq (sDrop (fCall F_check_many (fCons (fV 0) fNil)))
    (sDrop (fCall (F_check_joins a_is_pair) (fCons (fV 0) (fCons (fV 1) fNil)))))
theorem q_F_check_many_and_row_s {a_is_pair : Addr} {ρ : PSt} : (F_check_many_and_row_s a_is_pair) ρ = (sSeq (sDrop (fCall F_check_many (fCons (fV 0) fNil)))
    (sDrop (fCall (F_check_joins a_is_pair) (fCons (fV 0) (fCons (fV 1) fNil))))) ρ := Eq.trans rfl rfl
noncomputable def F_check_many_and_row (a_is_pair : Addr) : List PV → Option PR := run 2 2 (F_check_many_and_row_s a_is_pair)
theorem q_F_check_many_and_row {a_is_pair : Addr} {a0 a1 : PV} : (F_check_many_and_row a_is_pair) [a0, a1] = ((F_check_many_and_row_s a_is_pair) [some (.val a0), some (.val a1)]).res := Eq.trans rfl rfl
noncomputable def F_forest_and_times_b1 : FS := (sIf (fT (fOp rNe (fOp rIx (fOp rIx (fV 7) (fC (.int 2))) (fV 10)) (fOp rIx (fOp rIx (fV 2) (fC (.int 2))) (fV 10)))) (sPut 3 (fV 10) (fV 4)) sSkip)
theorem q_F_forest_and_times_b1 {ρ : PSt} : F_forest_and_times_b1 ρ = (sIf (fT (fOp rNe (fOp rIx (fOp rIx (fV 7) (fC (.int 2))) (fV 10)) (fOp rIx (fOp rIx (fV 2) (fC (.int 2))) (fV 10)))) (sPut 3 (fV 10) (fV 4)) sSkip) ρ := Eq.trans rfl rfl
noncomputable def F_forest_and_times_b2 : FS := (sSeq (sAsg (fCall F_join_done (fCons (fV 2) (fCons (fV 5) (fCons (fV 6) fNil)))) (gTn 3 (gC (gN 7) (gC (gN 8) (gC (gN 9) g0)))))
    (sSeq (sFor (fRng rng1 (fCons (fV 0) fNil)) (gN 10) F_forest_and_times_b1)
    (sSet 2 (fV 7))))
theorem q_F_forest_and_times_b2 {ρ : PSt} : F_forest_and_times_b2 ρ = (sSeq (sAsg (fCall F_join_done (fCons (fV 2) (fCons (fV 5) (fCons (fV 6) fNil)))) (gTn 3 (gC (gN 7) (gC (gN 8) (gC (gN 9) g0)))))
    (sSeq (sFor (fRng rng1 (fCons (fV 0) fNil)) (gN 10) F_forest_and_times_b1)
    (sSet 2 (fV 7)))) ρ := Eq.trans rfl rfl
noncomputable def F_forest_and_times_s : FS := (sSeq (sSet 2 (fCall F_new_store (fCons (fV 0) (fCons (fC (.str "size")) (fCons (fC (.str "none")) fNil)))))
    (sSeq (sOwn 3 (fOp rMul (fLst (fCons (fC .non) fNil)) (fV 0)))
    (sSeq (sFor (fEnumT (fCons (fV 1) fNil)) (gTn 2 (gC (gN 4) (gC (gTn 2 (gC (gN 5) (gC (gN 6) g0))) g0))) F_forest_and_times_b2)
    (sRet (fTup (fCons (fOp rIx (fV 2) (fC (.int 2))) (fCons (fB kTup (fCons (fV 3) fNil)) fNil)))))))
theorem q_F_forest_and_times_s {ρ : PSt} : F_forest_and_times_s ρ = (sSeq (sSet 2 (fCall F_new_store (fCons (fV 0) (fCons (fC (.str "size")) (fCons (fC (.str "none")) fNil)))))
    (sSeq (sOwn 3 (fOp rMul (fLst (fCons (fC .non) fNil)) (fV 0)))
    (sSeq (sFor (fEnumT (fCons (fV 1) fNil)) (gTn 2 (gC (gN 4) (gC (gTn 2 (gC (gN 5) (gC (gN 6) g0))) g0))) F_forest_and_times_b2)
    (sRet (fTup (fCons (fOp rIx (fV 2) (fC (.int 2))) (fCons (fB kTup (fCons (fV 3) fNil)) fNil))))))) ρ := Eq.trans rfl rfl
noncomputable def F_forest_and_times : List PV → Option PR := run 2 11 F_forest_and_times_s
theorem q_F_forest_and_times {a0 a1 : PV} : F_forest_and_times [a0, a1] = (F_forest_and_times_s [some (.val a0), some (.val a1), none, none, none, none, none, none, none, none, none]).res := Eq.trans rfl rfl
noncomputable def F_times_of_s (a_is_pair : Addr) : FS := (sSeq (sDrop (fCall (F_check_many_and_row a_is_pair) (fCons (fV 0) (fCons (fV 1) fNil))))
    (sRet (fCall F_forest_and_times (fCons (fV 0) (fCons (fV 1) fNil)))))
theorem q_F_times_of_s {a_is_pair : Addr} {ρ : PSt} : (F_times_of_s a_is_pair) ρ = (sSeq (sDrop (fCall (F_check_many_and_row a_is_pair) (fCons (fV 0) (fCons (fV 1) fNil))))
    (sRet (fCall F_forest_and_times (fCons (fV 0) (fCons (fV 1) fNil))))) ρ := Eq.trans rfl rfl
noncomputable def F_times_of (a_is_pair : Addr) : List PV → Option PR := run 2 2 (F_times_of_s a_is_pair)
theorem q_F_times_of {a_is_pair : Addr} {a0 a1 : PV} : (F_times_of a_is_pair) [a0, a1] = ((F_times_of_s a_is_pair) [some (.val a0), some (.val a1)]).res := Eq.trans rfl rfl
end Dp
end
section
namespace Fo
open PySem L2
theorem nodup_le {l : List Nat} {n : Nat} (nd : l.Nodup) (h : ∀ x ∈ l, x < n) : l.length ≤ n := by
  have p : l.Perm ((List.range n).filter fun x => decide (x ∈ l)) := (List.perm_ext_iff_of_nodup nd (List.nodup_range.filter _)).mpr fun x => by
    rw [List.mem_filter, List.mem_range, decide_eq_true_eq]
    exact ⟨fun q => ⟨h x q, q⟩, fun q => q.2⟩
  rw [p.length_eq]
  have := List.length_filter_le (fun x => decide (x ∈ l)) (List.range n)
  rwa [List.length_range] at this
theorem way_hd {us : List Nat} (f : Fst us) {x t : Nat} (hx : x < us.length) (h : t ∈ way us x) : hd us t = hd us x := by
  obtain ⟨l2, w2, e, _, _⟩ := (way_ok f hx).later t h
  have := way_of f (way_mem_lt f hx h) w2
  unfold hd
  rw [this, e]
theorem link_frst {us : List Nat} (f : Frst us) {u t : Nat} (hu : u < us.length) (ht : t < us.length) (eu : up us u = u) (et : up us t = t) (ne : t ≠ u) : Frst (us.set u t) := by
  have hl : (us.set u t).length = us.length := List.length_set
  refine ⟨by rw [hl]; exact f.one, by rw [hl]; exact f.most, ⟨fun x hx => ?_, fun x => if hd us x = u then dp us x + 1 else dp us x, fun x hx => ?_, fun x hx hn => ?_⟩⟩
  · rw [hl] at hx ⊢
    rw [up_set hu]
    split
    · exact ht
    · exact f.fst.bnd x hx
  · rw [hl] at hx ⊢
    have h1 := way_len f.fst hx
    have h2 := (way_ok f.fst hx).pos
    show (if hd us x = u then dp us x + 1 else dp us x) < us.length
    unfold dp
    split
    · next e =>
      have nm : t ∉ way us x := fun q => ne (by rw [← hd_head f.fst ht et, way_hd f.fst hx q, e])
      have : (t :: way us x).length ≤ us.length := nodup_le (List.nodup_cons.mpr ⟨nm, (way_ok f.fst hx).nodup f.fst hx⟩) fun z hz => by
        rcases List.mem_cons.mp hz with rfl | hz
        · exact ht
        · exact way_mem_lt f.fst hx hz
      rw [List.length_cons] at this
      omega
    · omega
  · rw [hl] at hx
    rw [up_set hu] at hn ⊢
    show (if hd us (if x = u then t else up us x) = u then _ else _) < (if hd us x = u then dp us x + 1 else dp us x)
    by_cases e : x = u
    · subst e
      rw [if_pos rfl, hd_head f.fst ht et, if_neg ne, hd_head f.fst hx eu, if_pos rfl]
      have : dp us t = 0 := by unfold dp; rw [way_head f.fst ht et]; rfl
      omega
    · rw [if_neg e] at hn ⊢
      rw [hd_up f.fst hx]
      have : dp us (up us x) + 1 = dp us x := by
        have h2 := (way_ok f.fst (f.fst.bnd x hx)).pos
        unfold dp
        rw [way_step f.fst hx hn, List.length_cons]
        omega
      split <;> omega
end Fo
namespace Dp
open PySem L2 Fo Pu
theorem tfs_nums : ∀ l : List Nat, tfs (nums l) = true
  | [] => rfl
  | x :: l => by rw [nums_cons, tfs, tfs_nums l]; rfl
theorem whole_loop {s1 s2 s3 s6 s7 s8 : Option Sl} {n h : Nat} : ∀ (l us : List Nat) (z5 : Option Sl), us.length = n → (∀ t ∈ l, t < n) → ∃ z5', loopF (gN 5) F__law_find_b1 (nums l) [some (.own (nums us)), s1, s2, s3, some (.val (.int h)), z5, s6, s7, s8] = .nx [some (.own (nums (setAll us l h))), s1, s2, s3, some (.val (.int h)), z5', s6, s7, s8]
  | [], us, z5, _, _ => ⟨z5, rfl⟩
  | t :: l, us, z5, hn, hl => by
    obtain ⟨z5', e⟩ := whole_loop (s1 := s1) (s2 := s2) (s3 := s3) (s6 := s6) (s7 := s7) (s8 := s8) (h := h) l (us.set t h) (some (.val (.int t))) (by rw [List.length_set]; exact hn) fun u hu => hl u (List.mem_cons_of_mem _ hu)
    refine ⟨z5', ?_⟩
    have ht : t < us.length := by rw [hn]; exact hl t List.mem_cons_self
    show _ = Out.nx [some (.own (nums (setAll (us.set t h) l h))), s1, s2, s3, some (.val (.int h)), z5', s6, s7, s8]
    rw [← e, nums_cons, loop_S]
    simp only [q_F__law_find_b1, EE, Nat.reduceAdd, Nat.reduceSub, Nat.reduceLeDiff, Nat.reduceLT, Nat.reduceEqDiff, Int.reduceLT, Int.reduceLE, Int.reduceAdd, Int.reduceSub, Int.reduceMul, Int.reduceMod, Int.reduceDiv, Int.reduceNeg, Int.reduceToNat, Int.reducePow, Int.reduceEq, ixN_nat ht, nums_set']
theorem halv_loop {s2 s3 s4 s5 : Option Sl} {us us' : List Nat} {x h n : Nat} (r : Halv us x h us' n) : ∀ (k : Nat) (z8 : Option Sl) (fuel : Nat), (∀ z, z < us.length → up us z < us.length) → x < us.length → n < fuel →
    ∃ z8', whileF F__law_find_c2 F__law_find_b3 fuel [some (.own (nums us)), some (.val (.str "halves")), s2, s3, s4, s5, some (.val (.int k)), some (.val (.int x)), z8] = .nx [some (.own (nums us')), some (.val (.str "halves")), s2, s3, s4, s5, some (.val (.int (k + n : Nat))), some (.val (.int h)), z8'] := by
  induction r with
  | @stop us x e =>
    intro k z8 fuel hb hx hf
    obtain ⟨fuel, rfl⟩ : ∃ g, fuel = g + 1 := ⟨fuel - 1, by omega⟩
    refine ⟨z8, ?_⟩
    rw [while_S]
    simp only [q_F__law_find_c2, EE, Nat.reduceAdd, Nat.reduceSub, Nat.reduceLeDiff, Nat.reduceLT, Nat.reduceEqDiff, Int.reduceLT, Int.reduceLE, Int.reduceAdd, Int.reduceSub, Int.reduceMul, Int.reduceMod, Int.reduceDiv, Int.reduceNeg, Int.reduceToNat, Int.reducePow, Int.reduceEq, atI_nums hx, e, Nat.add_zero]
  | @step us x h n us' ne r ih =>
    intro k z8 fuel hb hx hf
    obtain ⟨fuel, rfl⟩ : ∃ g, fuel = g + 1 := ⟨fuel - 1, by omega⟩
    have h1 := hb x hx
    have h2 := hb _ h1
    obtain ⟨z8', e⟩ := ih (k + 1) (some (.val (.int (up us x : Nat)))) fuel (fun z hz => by
      rw [List.length_set] at hz ⊢
      rw [up_set hx]
      split
      · exact h2
      · exact hb z hz) (by rw [List.length_set]; exact h2) (by omega)
    refine ⟨z8', ?_⟩
    have d : decide ((up us x : Int) = (x : Int)) = false := decide_eq_false (by omega)
    have hx' : x < (us.set x (up us (up us x))).length := by rw [List.length_set]; exact hx
    have e3 : up (us.set x (up us (up us x))) x = up us (up us x) := by rw [up_set hx, if_pos rfl]
    rw [while_S, show k + (n + 1) = k + 1 + n by omega, ← e]
    simp only [q_F__law_find_c2, q_F__law_find_b3, EE, Nat.reduceAdd, Nat.reduceSub, Nat.reduceLeDiff, Nat.reduceLT, Nat.reduceEqDiff, Int.reduceLT, Int.reduceLE, Int.reduceAdd, Int.reduceSub, Int.reduceMul, Int.reduceMod, Int.reduceDiv, Int.reduceNeg, Int.reduceToNat, Int.reducePow, Int.reduceEq, SST, atI_nums hx, atI_nums h1, d, ixN_nat hx, nums_set', atI_nums hx', e3]
    rfl
theorem splt_loop {s2 s3 s4 s5 : Option Sl} {us us' : List Nat} {x h n : Nat} (r : Splt us x h us' n) : ∀ (k : Nat) (z8 : Option Sl) (fuel : Nat), (∀ z, z < us.length → up us z < us.length) → x < us.length → n < fuel →
    ∃ z8', whileF F__law_find_c2 F__law_find_b3 fuel [some (.own (nums us)), some (.val (.str "splits")), s2, s3, s4, s5, some (.val (.int k)), some (.val (.int x)), z8] = .nx [some (.own (nums us')), some (.val (.str "splits")), s2, s3, s4, s5, some (.val (.int (k + n : Nat))), some (.val (.int h)), z8'] := by
  induction r with
  | @stop us x e =>
    intro k z8 fuel hb hx hf
    obtain ⟨fuel, rfl⟩ : ∃ g, fuel = g + 1 := ⟨fuel - 1, by omega⟩
    refine ⟨z8, ?_⟩
    rw [while_S]
    simp only [q_F__law_find_c2, EE, Nat.reduceAdd, Nat.reduceSub, Nat.reduceLeDiff, Nat.reduceLT, Nat.reduceEqDiff, Int.reduceLT, Int.reduceLE, Int.reduceAdd, Int.reduceSub, Int.reduceMul, Int.reduceMod, Int.reduceDiv, Int.reduceNeg, Int.reduceToNat, Int.reducePow, Int.reduceEq, atI_nums hx, e, Nat.add_zero]
  | @step us x h n us' ne r ih =>
    intro k z8 fuel hb hx hf
    obtain ⟨fuel, rfl⟩ : ∃ g, fuel = g + 1 := ⟨fuel - 1, by omega⟩
    have h1 := hb x hx
    have h2 := hb _ h1
    obtain ⟨z8', e⟩ := ih (k + 1) (some (.val (.int (up us x : Nat)))) fuel (fun z hz => by
      rw [List.length_set] at hz ⊢
      rw [up_set hx]
      split
      · exact h2
      · exact hb z hz) (by rw [List.length_set]; exact h1) (by omega)
    refine ⟨z8', ?_⟩
    have d : decide ((up us x : Int) = (x : Int)) = false := decide_eq_false (by omega)
    have hx' : x < (us.set x (up us (up us x))).length := by rw [List.length_set]; exact hx
    have e3 : up (us.set x (up us (up us x))) x = up us (up us x) := by rw [up_set hx, if_pos rfl]
    rw [while_S, show k + (n + 1) = k + 1 + n by omega, ← e]
    simp only [q_F__law_find_c2, q_F__law_find_b3, EE, Nat.reduceAdd, Nat.reduceSub, Nat.reduceLeDiff, Nat.reduceLT, Nat.reduceEqDiff, Int.reduceLT, Int.reduceLE, Int.reduceAdd, Int.reduceSub, Int.reduceMul, Int.reduceMod, Int.reduceDiv, Int.reduceNeg, Int.reduceToNat, Int.reducePow, Int.reduceEq, SST, atI_nums hx, atI_nums h1, d, ixN_nat hx, nums_set', atI_nums hx', e3]
    rfl
theorem t_lfind {us : List Nat} (f : Frst us) {y : Str} (hy : y ∈ manners) {x : Nat} (hx : x < us.length) : F__law_find [.tup (nums us), .str y, .int x] = some (.v (.tup [.int (hd us x : Nat), .tup (nums (beh y us x)), .int (stp y us x : Nat)])) := by
  have w := way_ok f.fst hx
  have nd := w.nodup f.fst hx
  have lt := w.lt f.fst.bnd hx
  have pos := w.pos
  have hl := way_len f.fst hx
  have hm := f.most
  have hd1 : ((way us x).length : Int) - 1 = (dp us x : Nat) := by unfold dp; omega
  have lw := t_lway (p := .lst (nums us)) (.inr rfl) f hx
  have h1 := f.fst.bnd x hx
  rcases s5 hy with rfl | rfl | rfl | rfl | rfl
  · have e : beh "none" us x = us := (eq_beh rfl fun t ht => by simp only [newUp, n7, n8, n9, n10, if_false]).symm
    have es : stp "none" us x = dp us x := by simp only [stp, n9, if_false]
    simp only [q_F__law_find, q_F__law_find_s, EE, Nat.reduceAdd, Nat.reduceSub, Nat.reduceLeDiff, Nat.reduceLT, Nat.reduceEqDiff, Int.reduceLT, Int.reduceLE, Int.reduceAdd, Int.reduceSub, Int.reduceMul, Int.reduceMod, Int.reduceDiv, Int.reduceNeg, Int.reduceToNat, Int.reducePow, Int.reduceEq, SST, lw, tfs_nums, atI_hd f hx, hd1, e, es]
  · obtain ⟨z5, el⟩ := whole_loop (s1 := some (.val (.str "whole"))) (s2 := some (.val (.int x))) (s3 := some (.val (.lst (nums (way us x))))) (s6 := none) (s7 := none) (s8 := none) (h := hd us x) (way us x) us none rfl lt
    have e : setAll us (way us x) (hd us x) = beh "whole" us x := eq_beh (setAll_len ..) fun t ht => by rw [setAll_up lt]; simp only [newUp, if_true]
    have es : stp "whole" us x = dp us x := by simp only [stp, n12, if_false]
    rw [e] at el
    simp only [q_F__law_find, q_F__law_find_s, EE, Nat.reduceAdd, Nat.reduceSub, Nat.reduceLeDiff, Nat.reduceLT, Nat.reduceEqDiff, Int.reduceLT, Int.reduceLE, Int.reduceAdd, Int.reduceSub, Int.reduceMul, Int.reduceMod, Int.reduceDiv, Int.reduceNeg, Int.reduceToNat, Int.reducePow, Int.reduceEq, SST, lw, tfs_nums, atI_hd f hx, hd1, el, es]
  · obtain ⟨us', r, g1, g2⟩ := halv_of _ w nd lt
    have e : us' = beh "halves" us x := eq_beh g1 fun t ht => by rw [g2]; simp only [newUp, n1, if_true, if_false]
    have es : stp "halves" us x = (way us x).length / 2 := by simp only [stp, if_true]
    obtain ⟨z8, el⟩ := halv_loop (s2 := some (.val (.int x))) (s3 := some (.val (.lst (nums (way us x))))) (s4 := some (.val (.int (hd us x : Nat)))) (s5 := none) r 0 none 10000 f.fst.bnd hx (by omega)
    rw [Nat.zero_add, e, ← es] at el
    have el : whileF F__law_find_c2 F__law_find_b3 10000 [some (.own (nums us)), some (.val (.str "halves")), some (.val (.int x)), some (.val (.lst (nums (way us x)))), some (.val (.int (hd us x : Nat))), none, some (.val (.int 0)), some (.val (.int x)), none] = _ := el
    simp only [q_F__law_find, q_F__law_find_s, EE, Nat.reduceAdd, Nat.reduceSub, Nat.reduceLeDiff, Nat.reduceLT, Nat.reduceEqDiff, Int.reduceLT, Int.reduceLE, Int.reduceAdd, Int.reduceSub, Int.reduceMul, Int.reduceMod, Int.reduceDiv, Int.reduceNeg, Int.reduceToNat, Int.reducePow, Int.reduceEq, SST, lw, tfs_nums, atI_hd f hx, hd1, el]
  · obtain ⟨us', r, g1, g2⟩ := splt_of w nd lt
    have e : us' = beh "splits" us x := eq_beh g1 fun t ht => by rw [g2]; simp only [newUp, n3, n11, if_true, if_false]
    have es : stp "splits" us x = (way us x).length - 1 := by simp only [stp, n11, if_false, dp]
    obtain ⟨z8, el⟩ := splt_loop (s2 := some (.val (.int x))) (s3 := some (.val (.lst (nums (way us x))))) (s4 := some (.val (.int (hd us x : Nat)))) (s5 := none) r 0 none 10000 f.fst.bnd hx (by omega)
    rw [Nat.zero_add, e, ← es] at el
    have el : whileF F__law_find_c2 F__law_find_b3 10000 [some (.own (nums us)), some (.val (.str "splits")), some (.val (.int x)), some (.val (.lst (nums (way us x)))), some (.val (.int (hd us x : Nat))), none, some (.val (.int 0)), some (.val (.int x)), none] = _ := el
    simp only [q_F__law_find, q_F__law_find_s, EE, Nat.reduceAdd, Nat.reduceSub, Nat.reduceLeDiff, Nat.reduceLT, Nat.reduceEqDiff, Int.reduceLT, Int.reduceLE, Int.reduceAdd, Int.reduceSub, Int.reduceMul, Int.reduceMod, Int.reduceDiv, Int.reduceNeg, Int.reduceToNat, Int.reducePow, Int.reduceEq, SST, lw, tfs_nums, atI_hd f hx, hd1, el]
  · have e : us.set x (up us (up us x)) = beh "one" us x := eq_beh (List.length_set) fun t ht => by
      rw [up_set hx]
      simp only [newUp, n4, n5, n6, if_true, if_false]
      by_cases q : t = x
      · rw [if_pos q, if_pos q, q]
      · rw [if_neg q, if_neg q]
    have es : stp "one" us x = dp us x := by simp only [stp, n6, if_false]
    simp only [q_F__law_find, q_F__law_find_s, EE, Nat.reduceAdd, Nat.reduceSub, Nat.reduceLeDiff, Nat.reduceLT, Nat.reduceEqDiff, Int.reduceLT, Int.reduceLE, Int.reduceAdd, Int.reduceSub, Int.reduceMul, Int.reduceMod, Int.reduceDiv, Int.reduceNeg, Int.reduceToNat, Int.reducePow, Int.reduceEq, SST, lw, tfs_nums, atI_hd f hx, hd1, atI_nums hx, atI_nums h1, ixN_nat hx, nums_set', e, es]
theorem x_in_k {x : PV} {ps : List PV} : rIn x (.ktu ps) = if plain x && plains ps && decide (deps ps ≤ 50) then some (.fz (.bl (pin x ps))) else none := Eq.trans rfl rfl
theorem x_tupR {lo j : Int} : kTupR [.rng lo j] = if lo = 0 ∧ 0 ≤ j ∧ j ≤ 1000000 then some (.fz (.tup (ups 0 j.toNat))) else none := Eq.trans rfl rfl
noncomputable def oParN (a b : Option RV) (i j : Nat) (ρ : PSt) : Out := match a, b with
  | some (.nw ps), some (.nw qs) => .nx ((ρ.set i (some (.own ps))).set j (some (.own qs)))
  | _, _ => .bad
theorem x_parN {i j : Nat} {f g : FE} {ρ : PSt} : sParN i j f g ρ = oParN (f ρ) (g ρ) i j ρ := Eq.trans rfl rfl
theorem x_parN_s {i j : Nat} {ps qs : List PV} {ρ : PSt} : oParN (some (.nw ps)) (some (.nw qs)) i j ρ = .nx ((ρ.set i (some (.own ps))).set j (some (.own qs))) := Eq.trans rfl rfl
noncomputable def jws : List Str := ["size", "rank", "told", "names"]
theorem j4 {j : Str} (h : j ∈ jws) : j = "size" ∨ j = "rank" ∨ j = "told" ∨ j = "names" := by
  simpa [jws] using h
noncomputable def stV (j y : Str) (us ms : List Nat) : PV := .tup [.str j, .str y, .tup (nums us), .tup (nums ms)]
noncomputable def mk0 (j : Str) : Nat := if j = "size" then 1 else 0
theorem t_many' {n : Nat} (h1 : 1 ≤ n) (h2 : n ≤ 40) : F_is_many [.int n] = some (.v (.bl true)) := t_many (by omega) (by omega)
theorem nums_setA (us : List Nat) (i v w : Nat) : (nums us).set i (PV.int ((v : Int) + (w : Int))) = nums (us.set i (v + w)) := nums_set us i (v + w)
theorem nums_setB (us : List Nat) (i v : Nat) : (nums us).set i (PV.int ((v : Int) + 1)) = nums (us.set i (v + 1)) := nums_set us i (v + 1)
theorem JJ : decide (("size" : Str) = "rank") = false ∧ decide (("size" : Str) = "told") = false ∧ decide (("size" : Str) = "names") = false ∧ decide (("rank" : Str) = "size") = false ∧ decide (("rank" : Str) = "told") = false ∧ decide (("rank" : Str) = "names") = false ∧
    decide (("told" : Str) = "size") = false ∧ decide (("told" : Str) = "rank") = false ∧ decide (("told" : Str) = "names") = false ∧ decide (("names" : Str) = "size") = false ∧ decide (("names" : Str) = "rank") = false ∧ decide (("names" : Str) = "told") = false := by decide
theorem t_isjoin {j : Str} (hj : j ∈ jws) : F_is_way_of_joining [.str j] = some (.v (.bl true)) := by
  have e : rIn (.str j) (.ktu [.str "size", .str "rank", .str "told", .str "names"]) = some (.fz (.bl true)) := by
    have h1 : (Pu.plain (.str j) && plains [.str "size", .str "rank", .str "told", .str "names"] && decide (deps [.str "size", .str "rank", .str "told", .str "names"] ≤ 50)) = true := by simp [Pu.plain, plains, deps, dep]
    have h2 : pin (.str j) [.str "size", .str "rank", .str "told", .str "names"] = true := by
      unfold pin
      simp only [List.any_cons, peq_str, List.any_nil]
      rcases j4 hj with rfl | rfl | rfl | rfl <;> decide
    rw [x_in_k, h1, h2]; rfl
  simp only [q_F_is_way_of_joining, q_F_is_way_of_joining_s, EE, Nat.reduceAdd, Nat.reduceSub, Nat.reduceLeDiff, Nat.reduceLT, Nat.reduceEqDiff, Int.reduceLT, Int.reduceLE, Int.reduceAdd, Int.reduceSub, Int.reduceMul, Int.reduceMod, Int.reduceDiv, Int.reduceNeg, Int.reduceToNat, Int.reducePow, Int.reduceEq, e]
theorem mulT {a n : Nat} (h1 : 1 ≤ n) (h2 : n ≤ 1000) : rMul (.tup [.int a]) (.int n) = some (.fz (.tup (nums (List.replicate n a)))) := by
  have r : ∀ n : Nat, (List.replicate n [PV.int a]).flatten = nums (List.replicate n a) := fun n => by
    induction n with
    | zero => rfl
    | succ n ih => rw [List.replicate_succ, List.flatten_cons, ih]; rfl
  show (if ([PV.int a].isEmpty = false ∧ 1 ≤ (n : Int) ∧ (n : Int) ≤ 1000 ∧ [PV.int a].length ≤ 1000) then some (RV.fz (.tup (List.replicate (n : Int).toNat [PV.int a]).flatten)) else none) = _
  rw [if_pos ⟨rfl, by omega, by omega, by simp⟩, Int.toNat_natCast, r]
theorem t_new {n : Nat} (h1 : 1 ≤ n) (h2 : n ≤ 40) {j y : Str} (hj : j ∈ jws) (hy : y ∈ manners) : F_new_store [.int n, .str j, .str y] = some (.v (stV j y (List.range n) (List.replicate n (mk0 j)))) := by
  have er : kTupR [.rng 0 n] = some (.fz (.tup (nums (List.range n)))) := by rw [x_tupR, if_pos ⟨rfl, by omega, by omega⟩, Int.toNat_natCast, ups0]
  have ek := (K1 (show n ≤ 100000 by omega)).2.1
  have m0 := mulT (a := 0) h1 (show n ≤ 1000 by omega)
  have m1 := mulT (a := 1) h1 (show n ≤ 1000 by omega)
  have m0 : rMul (.tup [.int 0]) (.int n) = _ := m0
  have m1 : rMul (.tup [.int 1]) (.int n) = _ := m1
  unfold stV
  rcases j4 hj with rfl | rfl | rfl | rfl <;>
    simp only [q_F_new_store, q_F_new_store_s, q_F_check_many, q_F_check_many_s, q_F_check_join, q_F_check_join_s, EE, Nat.reduceAdd, Nat.reduceSub, Nat.reduceLeDiff, Nat.reduceLT, Nat.reduceEqDiff, Int.reduceLT, Int.reduceLE, Int.reduceAdd, Int.reduceSub, Int.reduceMul, Int.reduceMod, Int.reduceDiv, Int.reduceNeg, Int.reduceToNat, Int.reducePow, Int.reduceEq, t_many' h1 h2, t_isjoin hj, t_cshort hy, JJ, ek, er, m0, m1, mk0] <;> rfl
theorem frst_range {n : Nat} (h1 : 1 ≤ n) (h2 : n ≤ 40) : Frst (List.range n) := by
  have u : ∀ x, x < n → up (List.range n) x = x := fun x hx => by unfold up; rw [List.getD_eq_getElem?_getD, List.getElem?_range hx]; rfl
  refine ⟨by rw [List.length_range]; exact h1, by rw [List.length_range]; exact h2, ⟨fun x hx => ?_, fun _ => 0, fun x hx => ?_, fun x hx hn => ?_⟩⟩
  · rw [List.length_range] at hx ⊢; rw [u x hx]; exact hx
  · show 0 < _; omega
  · rw [List.length_range] at hx; exact absurd (u x hx) hn
theorem t_copied (ms : List Nat) : F_copied [.tup (nums ms)] = some (.v (.tup (nums ms))) := by
  simp only [q_F_copied, q_F_copied_s, EE, Nat.reduceAdd, Nat.reduceSub, Nat.reduceLeDiff, Nat.reduceLT, Nat.reduceEqDiff, Int.reduceLT, Int.reduceLE, Int.reduceAdd, Int.reduceSub, Int.reduceMul, Int.reduceMod, Int.reduceDiv, Int.reduceNeg, Int.reduceToNat, Int.reducePow, Int.reduceEq]
theorem t_fdone {us ms : List Nat} (f : Frst us) {j y : Str} (hy : y ∈ manners) {x : Nat} (hx : x < us.length) : F_find_done [stV j y us ms, .int x] = some (.v (.tup [stV j y (beh y us x) ms, .int (hd us x : Nat), .int (stp y us x : Nat)])) := by
  have e := t_find_in f hy hx
  simp only [nI] at e
  unfold stV
  simp only [q_F_find_done, q_F_find_done_s, EE, Nat.reduceAdd, Nat.reduceSub, Nat.reduceLeDiff, Nat.reduceLT, Nat.reduceEqDiff, Int.reduceLT, Int.reduceLE, Int.reduceAdd, Int.reduceSub, Int.reduceMul, Int.reduceMod, Int.reduceDiv, Int.reduceNeg, Int.reduceToNat, Int.reducePow, Int.reduceEq, e, t_copied]
noncomputable def stay (j : Str) (ms : List Nat) (a b : Nat) : Bool := if j = "told" then true else if j = "names" then decide (a < b) else decide (up ms b ≤ up ms a)
noncomputable def mkb (j : Str) (p q : Nat) : Nat := if j = "size" then p + q else if j = "rank" ∧ p = q then p + 1 else p
noncomputable def tp (j : Str) (ms : List Nat) (a b : Nat) : Nat := if stay j ms a b then a else b
noncomputable def un (j : Str) (ms : List Nat) (a b : Nat) : Nat := if stay j ms a b then b else a
noncomputable def lkU (j : Str) (us ms : List Nat) (a b : Nat) : List Nat := us.set (un j ms a b) (tp j ms a b)
noncomputable def lkM (j : Str) (ms : List Nat) (a b : Nat) : List Nat := ms.set (tp j ms a b) (mkb j (up ms (tp j ms a b)) (up ms (un j ms a b)))
theorem t_stays {j : Str} (hj : j ∈ jws) {ms : List Nat} {a b : Nat} (ha : a < ms.length) (hb : b < ms.length) : F_first_stays [.str j, .tup (nums ms), .int a, .int b] = some (.v (.bl (stay j ms a b))) := by
  have d1 : decide ((a : Int) < (b : Int)) = decide (a < b) := decide_eq_decide.mpr (by omega)
  have d2 : decide ((up ms b : Int) ≤ (up ms a : Int)) = decide (up ms b ≤ up ms a) := decide_eq_decide.mpr (by omega)
  rcases j4 hj with rfl | rfl | rfl | rfl
  · rw [show stay "size" ms a b = decide (up ms b ≤ up ms a) from rfl]; simp only [q_F_first_stays, q_F_first_stays_s, EE, Nat.reduceAdd, Nat.reduceSub, Nat.reduceLeDiff, Nat.reduceLT, Nat.reduceEqDiff, Int.reduceLT, Int.reduceLE, Int.reduceAdd, Int.reduceSub, Int.reduceMul, Int.reduceMod, Int.reduceDiv, Int.reduceNeg, Int.reduceToNat, Int.reducePow, Int.reduceEq, JJ, atI_nums ha, atI_nums hb, d2]
  · rw [show stay "rank" ms a b = decide (up ms b ≤ up ms a) from rfl]; simp only [q_F_first_stays, q_F_first_stays_s, EE, Nat.reduceAdd, Nat.reduceSub, Nat.reduceLeDiff, Nat.reduceLT, Nat.reduceEqDiff, Int.reduceLT, Int.reduceLE, Int.reduceAdd, Int.reduceSub, Int.reduceMul, Int.reduceMod, Int.reduceDiv, Int.reduceNeg, Int.reduceToNat, Int.reducePow, Int.reduceEq, JJ, atI_nums ha, atI_nums hb, d2]
  · rw [show stay "told" ms a b = true from rfl]; simp only [q_F_first_stays, q_F_first_stays_s, EE, Nat.reduceAdd, Nat.reduceSub, Nat.reduceLeDiff, Nat.reduceLT, Nat.reduceEqDiff, Int.reduceLT, Int.reduceLE, Int.reduceAdd, Int.reduceSub, Int.reduceMul, Int.reduceMod, Int.reduceDiv, Int.reduceNeg, Int.reduceToNat, Int.reducePow, Int.reduceEq]
  · rw [show stay "names" ms a b = decide (a < b) from rfl]; simp only [q_F_first_stays, q_F_first_stays_s, EE, Nat.reduceAdd, Nat.reduceSub, Nat.reduceLeDiff, Nat.reduceLT, Nat.reduceEqDiff, Int.reduceLT, Int.reduceLE, Int.reduceAdd, Int.reduceSub, Int.reduceMul, Int.reduceMod, Int.reduceDiv, Int.reduceNeg, Int.reduceToNat, Int.reducePow, Int.reduceEq, JJ, d1]
theorem t_mark {j : Str} (hj : j ∈ jws) (p q : Nat) : F_mark_behind [.str j, .int p, .int q] = some (.v (.int (mkb j p q : Nat))) := by
  have d : decide ((p : Int) = (q : Int)) = decide (p = q) := decide_eq_decide.mpr (by omega)
  rcases j4 hj with rfl | rfl | rfl | rfl
  · rw [show mkb "size" p q = p + q from rfl]; simp only [q_F_mark_behind, q_F_mark_behind_s, EE, Nat.reduceAdd, Nat.reduceSub, Nat.reduceLeDiff, Nat.reduceLT, Nat.reduceEqDiff, Int.reduceLT, Int.reduceLE, Int.reduceAdd, Int.reduceSub, Int.reduceMul, Int.reduceMod, Int.reduceDiv, Int.reduceNeg, Int.reduceToNat, Int.reducePow, Int.reduceEq]; rfl
  · by_cases h : p = q
    · rw [show mkb "rank" p q = p + 1 by unfold mkb; rw [if_neg (by decide), if_pos ⟨rfl, h⟩]]; simp only [q_F_mark_behind, q_F_mark_behind_s, EE, Nat.reduceAdd, Nat.reduceSub, Nat.reduceLeDiff, Nat.reduceLT, Nat.reduceEqDiff, Int.reduceLT, Int.reduceLE, Int.reduceAdd, Int.reduceSub, Int.reduceMul, Int.reduceMod, Int.reduceDiv, Int.reduceNeg, Int.reduceToNat, Int.reducePow, Int.reduceEq, JJ, d, decide_eq_true h]; rfl
    · rw [show mkb "rank" p q = p by unfold mkb; rw [if_neg (by decide), if_neg fun z => h z.2]]; simp only [q_F_mark_behind, q_F_mark_behind_s, EE, Nat.reduceAdd, Nat.reduceSub, Nat.reduceLeDiff, Nat.reduceLT, Nat.reduceEqDiff, Int.reduceLT, Int.reduceLE, Int.reduceAdd, Int.reduceSub, Int.reduceMul, Int.reduceMod, Int.reduceDiv, Int.reduceNeg, Int.reduceToNat, Int.reducePow, Int.reduceEq, JJ, d, decide_eq_false h]
  · rw [show mkb "told" p q = p from rfl]; simp only [q_F_mark_behind, q_F_mark_behind_s, EE, Nat.reduceAdd, Nat.reduceSub, Nat.reduceLeDiff, Nat.reduceLT, Nat.reduceEqDiff, Int.reduceLT, Int.reduceLE, Int.reduceAdd, Int.reduceSub, Int.reduceMul, Int.reduceMod, Int.reduceDiv, Int.reduceNeg, Int.reduceToNat, Int.reducePow, Int.reduceEq, JJ]
  · rw [show mkb "names" p q = p from rfl]; simp only [q_F_mark_behind, q_F_mark_behind_s, EE, Nat.reduceAdd, Nat.reduceSub, Nat.reduceLeDiff, Nat.reduceLT, Nat.reduceEqDiff, Int.reduceLT, Int.reduceLE, Int.reduceAdd, Int.reduceSub, Int.reduceMul, Int.reduceMod, Int.reduceDiv, Int.reduceNeg, Int.reduceToNat, Int.reducePow, Int.reduceEq, JJ]
theorem t_whj {j y : Str} (hj : j ∈ jws) {us ms : List Nat} {a b : Nat} (hl : ms.length = us.length) (ha : a < us.length) (hb : b < us.length) : F_with_heads_joined [stV j y us ms, .int a, .int b] = some (.v (stV j y (lkU j us ms a b) (lkM j ms a b))) := by
  have st := t_stays hj (ms := ms) (show a < ms.length by omega) (show b < ms.length by omega)
  unfold stV lkU lkM tp un
  cases h : stay j ms a b with
  | true =>
    rw [h] at st
    simp only [q_F_with_heads_joined, q_F_with_heads_joined_s, EE, Nat.reduceAdd, Nat.reduceSub, Nat.reduceLeDiff, Nat.reduceLT, Nat.reduceEqDiff, Int.reduceLT, Int.reduceLE, Int.reduceAdd, Int.reduceSub, Int.reduceMul, Int.reduceMod, Int.reduceDiv, Int.reduceNeg, Int.reduceToNat, Int.reducePow, Int.reduceEq, st, ixN_nat ha, ixN_nat hb, ixN_nat (show a < ms.length by omega), nums_set', atI_nums (show a < ms.length by omega), atI_nums (show b < ms.length by omega), t_mark hj]
  | false =>
    rw [h] at st
    simp only [q_F_with_heads_joined, q_F_with_heads_joined_s, EE, Nat.reduceAdd, Nat.reduceSub, Nat.reduceLeDiff, Nat.reduceLT, Nat.reduceEqDiff, Int.reduceLT, Int.reduceLE, Int.reduceAdd, Int.reduceSub, Int.reduceMul, Int.reduceMod, Int.reduceDiv, Int.reduceNeg, Int.reduceToNat, Int.reducePow, Int.reduceEq, st, ixN_nat ha, ixN_nat hb, ixN_nat (show b < ms.length by omega), nums_set', atI_nums (show a < ms.length by omega), atI_nums (show b < ms.length by omega), t_mark hj, Bool.false_eq_true, if_false]
theorem lkM_len {j : Str} {ms : List Nat} {a b : Nat} : (lkM j ms a b).length = ms.length := by unfold lkM; rw [List.length_set]
theorem lkU_len {j : Str} {us ms : List Nat} {a b : Nat} : (lkU j us ms a b).length = us.length := by unfold lkU; rw [List.length_set]
theorem lkU_frst {us : List Nat} (f : Frst us) {j : Str} {ms : List Nat} {a b : Nat} (ha : a < us.length) (hb : b < us.length) (ea : up us a = a) (eb : up us b = b) (ne : a ≠ b) : Frst (lkU j us ms a b) := by
  unfold lkU tp un
  cases stay j ms a b with
  | true => exact link_frst f hb ha eb ea ne
  | false => exact link_frst f ha hb ea eb ne.symm
theorem set_same {ms : List Nat} {t v : Nat} (h : v = up ms t) : ms.set t v = ms := by
  subst h
  by_cases ht : t < ms.length
  · refine up_ext (List.length_set) fun z => ?_
    rw [up_set ht]
    split
    · next e => rw [e]
    · rfl
  · rw [List.set_eq_of_length_le (by omega)]
theorem t_llinked {j : Str} (hj : j ∈ jws) {us ms : List Nat} {a b : Nat} (hl : ms.length = us.length) (ha : a < us.length) (hb : b < us.length) (ne : a ≠ b) : F__law_linked [.str j, .tup (nums us), .tup (nums ms), .int a, .int b] = some (.v (.tup [.tup (nums (lkU j us ms a b)), .tup (nums (lkM j ms a b))])) := by
  have a' : a < ms.length := by omega
  have b' : b < ms.length := by omega
  have d1 : decide ((b : Int) < (a : Int)) = decide (b < a) := decide_eq_decide.mpr (by omega)
  have d2 : decide ((up ms a : Int) < (up ms b : Int)) = decide (up ms a < up ms b) := decide_eq_decide.mpr (by omega)
  have d3 : decide ((up ms a : Int) = (up ms b : Int)) = decide (up ms a = up ms b) := decide_eq_decide.mpr (by omega)
  have d4 : decide ((up ms b : Int) = (up ms a : Int)) = decide (up ms b = up ms a) := decide_eq_decide.mpr (by omega)
  have ps : plains [PV.str "size", .str "rank"] = true := by simp [plains, Pu.plain]
  have ds : decide (deps [PV.str "size", .str "rank"] ≤ 50) = true := by simp [deps, dep]
  have pi : ∀ k : Str, pin (.str k) [.str "size", .str "rank"] = (decide (("size" : Str) = k) || decide (("rank" : Str) = k)) := fun k => by
    unfold pin; rw [List.any_cons, List.any_cons, List.any_nil, peq_str, peq_str, Bool.or_false]
  rcases j4 hj with rfl | rfl | rfl | rfl
  · by_cases h : up ms a < up ms b
    · have es : stay "size" ms a b = false := decide_eq_false (by omega)
      have e1 : lkU "size" us ms a b = us.set a b := by unfold lkU tp un; rw [es]; rfl
      have e2 : lkM "size" ms a b = ms.set b (up ms b + up ms a) := by unfold lkM tp un; rw [es]; rfl
      rw [e1, e2]
      simp only [q_F__law_linked, q_F__law_linked_s, EE, Nat.reduceAdd, Nat.reduceSub, Nat.reduceLeDiff, Nat.reduceLT, Nat.reduceEqDiff, Int.reduceLT, Int.reduceLE, Int.reduceAdd, Int.reduceSub, Int.reduceMul, Int.reduceMod, Int.reduceDiv, Int.reduceNeg, Int.reduceToNat, Int.reducePow, Int.reduceEq, x_parN, x_parN_s, ps, ds, pi, JJ, atI_nums a', atI_nums b', d2, decide_eq_true h, ixN_nat ha, ixN_nat b', nums_set', nums_setA]
    · have es : stay "size" ms a b = true := decide_eq_true (by omega)
      have e1 : lkU "size" us ms a b = us.set b a := by unfold lkU tp un; rw [es]; rfl
      have e2 : lkM "size" ms a b = ms.set a (up ms a + up ms b) := by unfold lkM tp un; rw [es]; rfl
      rw [e1, e2]
      simp only [q_F__law_linked, q_F__law_linked_s, EE, Nat.reduceAdd, Nat.reduceSub, Nat.reduceLeDiff, Nat.reduceLT, Nat.reduceEqDiff, Int.reduceLT, Int.reduceLE, Int.reduceAdd, Int.reduceSub, Int.reduceMul, Int.reduceMod, Int.reduceDiv, Int.reduceNeg, Int.reduceToNat, Int.reducePow, Int.reduceEq, x_parN, x_parN_s, ps, ds, pi, JJ, atI_nums a', atI_nums b', d2, decide_eq_false h, ixN_nat hb, ixN_nat a', nums_set', nums_setA]
  · by_cases h : up ms a < up ms b
    · have es : stay "rank" ms a b = false := decide_eq_false (by omega)
      have e1 : lkU "rank" us ms a b = us.set a b := by unfold lkU tp un; rw [es]; rfl
      have h2 : decide (up ms b = up ms a) = false := decide_eq_false (by omega)
      have e2 : lkM "rank" ms a b = ms := by
        unfold lkM tp un; rw [es]
        refine set_same ?_
        show mkb "rank" (up ms b) (up ms a) = up ms b
        unfold mkb
        rw [if_neg (by decide), if_neg fun z => by have := z.2; omega]
      rw [e1, e2]
      simp only [q_F__law_linked, q_F__law_linked_s, EE, Nat.reduceAdd, Nat.reduceSub, Nat.reduceLeDiff, Nat.reduceLT, Nat.reduceEqDiff, Int.reduceLT, Int.reduceLE, Int.reduceAdd, Int.reduceSub, Int.reduceMul, Int.reduceMod, Int.reduceDiv, Int.reduceNeg, Int.reduceToNat, Int.reducePow, Int.reduceEq, x_parN, x_parN_s, ps, ds, pi, JJ, atI_nums a', atI_nums b', d2, d4, h2, decide_eq_true h, ixN_nat ha, ixN_nat b', nums_set']
    · have es : stay "rank" ms a b = true := decide_eq_true (by omega)
      have e1 : lkU "rank" us ms a b = us.set b a := by unfold lkU tp un; rw [es]; rfl
      rw [e1]
      by_cases q : up ms a = up ms b
      · have e2 : lkM "rank" ms a b = ms.set a (up ms a + 1) := by
          unfold lkM tp un; rw [es]
          show ms.set a (mkb "rank" (up ms a) (up ms b)) = _
          unfold mkb
          rw [if_neg (by decide), if_pos ⟨rfl, q⟩]
        rw [e2]
        simp only [q_F__law_linked, q_F__law_linked_s, EE, Nat.reduceAdd, Nat.reduceSub, Nat.reduceLeDiff, Nat.reduceLT, Nat.reduceEqDiff, Int.reduceLT, Int.reduceLE, Int.reduceAdd, Int.reduceSub, Int.reduceMul, Int.reduceMod, Int.reduceDiv, Int.reduceNeg, Int.reduceToNat, Int.reducePow, Int.reduceEq, x_parN, x_parN_s, ps, ds, pi, JJ, atI_nums a', atI_nums b', d2, d3, decide_eq_true q, decide_eq_false h, ixN_nat hb, ixN_nat a', nums_set', nums_setB]
      · have e2 : lkM "rank" ms a b = ms := by
          unfold lkM tp un; rw [es]
          refine set_same ?_
          show mkb "rank" (up ms a) (up ms b) = _
          unfold mkb
          rw [if_neg (by decide), if_neg fun z => q z.2]
          rfl
        rw [e2]
        simp only [q_F__law_linked, q_F__law_linked_s, EE, Nat.reduceAdd, Nat.reduceSub, Nat.reduceLeDiff, Nat.reduceLT, Nat.reduceEqDiff, Int.reduceLT, Int.reduceLE, Int.reduceAdd, Int.reduceSub, Int.reduceMul, Int.reduceMod, Int.reduceDiv, Int.reduceNeg, Int.reduceToNat, Int.reducePow, Int.reduceEq, x_parN, x_parN_s, ps, ds, pi, JJ, atI_nums a', atI_nums b', d2, d3, decide_eq_false q, decide_eq_false h, ixN_nat hb, ixN_nat a', nums_set']
  · have e1 : lkU "told" us ms a b = us.set b a := rfl
    have e2 : lkM "told" ms a b = ms := set_same rfl
    rw [e1, e2]
    simp only [q_F__law_linked, q_F__law_linked_s, EE, Nat.reduceAdd, Nat.reduceSub, Nat.reduceLeDiff, Nat.reduceLT, Nat.reduceEqDiff, Int.reduceLT, Int.reduceLE, Int.reduceAdd, Int.reduceSub, Int.reduceMul, Int.reduceMod, Int.reduceDiv, Int.reduceNeg, Int.reduceToNat, Int.reducePow, Int.reduceEq, x_parN, x_parN_s, ps, ds, pi, JJ, ixN_nat hb, nums_set']
  · by_cases h : b < a
    · have es : stay "names" ms a b = false := decide_eq_false (by omega)
      have e1 : lkU "names" us ms a b = us.set a b := by unfold lkU tp un; rw [es]; rfl
      have e2 : lkM "names" ms a b = ms := by unfold lkM tp un; rw [es]; exact set_same rfl
      rw [e1, e2]
      simp only [q_F__law_linked, q_F__law_linked_s, EE, Nat.reduceAdd, Nat.reduceSub, Nat.reduceLeDiff, Nat.reduceLT, Nat.reduceEqDiff, Int.reduceLT, Int.reduceLE, Int.reduceAdd, Int.reduceSub, Int.reduceMul, Int.reduceMod, Int.reduceDiv, Int.reduceNeg, Int.reduceToNat, Int.reducePow, Int.reduceEq, x_parN, x_parN_s, ps, ds, pi, JJ, d1, decide_eq_true h, ixN_nat ha, nums_set']
    · have es : stay "names" ms a b = true := decide_eq_true (by omega)
      have e1 : lkU "names" us ms a b = us.set b a := by unfold lkU tp un; rw [es]; rfl
      have e2 : lkM "names" ms a b = ms := by unfold lkM tp un; rw [es]; exact set_same rfl
      rw [e1, e2]
      simp only [q_F__law_linked, q_F__law_linked_s, EE, Nat.reduceAdd, Nat.reduceSub, Nat.reduceLeDiff, Nat.reduceLT, Nat.reduceEqDiff, Int.reduceLT, Int.reduceLE, Int.reduceAdd, Int.reduceSub, Int.reduceMul, Int.reduceMod, Int.reduceDiv, Int.reduceNeg, Int.reduceToNat, Int.reducePow, Int.reduceEq, x_parN, x_parN_s, ps, ds, pi, JJ, d1, decide_eq_false h, ixN_nat hb, nums_set']
inductive Deed where
  | find (x : Nat) | join (x y : Nat)
noncomputable def Deed.pv : Deed → PV
  | .find x => .tup [.str "find", .int x]
  | .join x y => .tup [.str "join", .int x, .int y]
noncomputable def Deed.ok (n : Nat) : Deed → Prop
  | .find x => x < n
  | .join x y => x < n ∧ y < n
structure Sto (n : Nat) (us ms : List Nat) : Prop where
  f : Frst us
  lu : us.length = n
  lm : ms.length = n
noncomputable def dU (j y : Str) (us ms : List Nat) : Deed → List Nat
  | .find x => beh y us x
  | .join x z => if hd us x = hd us z then beh y (beh y us x) z else lkU j (beh y (beh y us x) z) ms (hd us x) (hd us z)
noncomputable def dM (j : Str) (us ms : List Nat) : Deed → List Nat
  | .find _ => ms
  | .join x z => if hd us x = hd us z then ms else lkM j ms (hd us x) (hd us z)
noncomputable def dA (us : List Nat) : Deed → PV
  | .find x => .int (hd us x : Nat)
  | .join x z => .bl (!decide (hd us x = hd us z))
noncomputable def dS (y : Str) (us : List Nat) : Deed → Nat
  | .find x => stp y us x
  | .join x z => stp y us x + stp y (beh y us x) z
noncomputable def toldV (j y : Str) (us ms : List Nat) (d : Deed) : PV := .tup [stV j y (dU j y us ms d) (dM j us ms d), dA us d, .int (dS y us d : Nat)]
theorem hd_beh {us : List Nat} (f : Frst us) {x : Nat} (hx : x < us.length) {y : Str} (hy : y ∈ manners) {t : Nat} (ht : t < us.length) : hd (beh y us x) t = hd us t := (beh_keep f.fst hx hy ht).1
theorem sto_deed {n : Nat} {us ms : List Nat} (S : Sto n us ms) {j y : Str} (hy : y ∈ manners) {d : Deed} (hd' : d.ok n) : Sto n (dU j y us ms d) (dM j us ms d) := by
  obtain ⟨f, lu, lm⟩ := S
  cases d with
  | find x =>
    have hx : x < us.length := by rw [lu]; exact hd'
    exact ⟨beh_frst f hx hy, by show (beh y us x).length = n; rw [beh_len, lu], lm⟩
  | join x z =>
    have hx : x < us.length := by rw [lu]; exact hd'.1
    have hz : z < us.length := by rw [lu]; exact hd'.2
    have f1 := beh_frst f hx hy
    have l1 := beh_len y us x
    have hz1 : z < (beh y us x).length := by omega
    have f2 := beh_frst f1 hz1 hy
    have l2 := beh_len y (beh y us x) z
    show Sto n (if hd us x = hd us z then _ else _) (if hd us x = hd us z then _ else _)
    by_cases e : hd us x = hd us z
    · rw [if_pos e, if_pos e]; exact ⟨f2, by omega, lm⟩
    · rw [if_neg e, if_neg e]
      have hd2 : ∀ t, t < us.length → hd (beh y (beh y us x) z) t = hd us t := fun t ht => by rw [hd_beh f1 hz1 hy (by omega), hd_beh f hx hy ht]
      have top : ∀ t, t < us.length → up (beh y (beh y us x) z) (hd us t) = hd us t := fun t ht => by
        have := hd_is f2.fst (show t < (beh y (beh y us x) z).length by omega)
        rwa [hd2 t ht] at this
      have a1 := hd_lt f.fst hx
      have a2 := hd_lt f.fst hz
      exact ⟨lkU_frst f2 (by omega) (by omega) (top x hx) (top z hz) e, by rw [lkU_len]; omega, by rw [lkM_len]; exact lm⟩
theorem t_jdone {n : Nat} {us ms : List Nat} (S : Sto n us ms) {j y : Str} (hj : j ∈ jws) (hy : y ∈ manners) {x z : Nat} (hx' : x < n) (hz' : z < n) : F_join_done [stV j y us ms, .int x, .int z] = some (.v (toldV j y us ms (.join x z))) := by
  obtain ⟨f, lu, lm⟩ := S
  have hx : x < us.length := by omega
  have hz : z < us.length := by omega
  have f1 := beh_frst f hx hy
  have l1 := beh_len y us x
  have hz1 : z < (beh y us x).length := by omega
  have l2 := beh_len y (beh y us x) z
  have e1 := t_fdone f hy hx (ms := ms) (j := j)
  have e2 := t_fdone f1 hy hz1 (ms := ms) (j := j)
  rw [hd_beh f hx hy hz] at e2
  have a1 := hd_lt f.fst hx
  have a2 := hd_lt f.fst hz
  have d : decide ((hd us x : Int) = (hd us z : Int)) = decide (hd us x = hd us z) := decide_eq_decide.mpr (by omega)
  by_cases e : hd us x = hd us z
  · have r : toldV j y us ms (.join x z) = .tup [stV j y (beh y (beh y us x) z) ms, .bl false, .int (stp y us x + stp y (beh y us x) z : Nat)] := by
      unfold toldV
      show PV.tup [stV j y (if hd us x = hd us z then _ else _) (if hd us x = hd us z then _ else _), .bl (!decide (hd us x = hd us z)), _] = _
      rw [if_pos e, if_pos e, decide_eq_true e]; rfl
    rw [r]
    simp only [q_F_join_done, q_F_join_done_s, EE, Nat.reduceAdd, Nat.reduceSub, Nat.reduceLeDiff, Nat.reduceLT, Nat.reduceEqDiff, Int.reduceLT, Int.reduceLE, Int.reduceAdd, Int.reduceSub, Int.reduceMul, Int.reduceMod, Int.reduceDiv, Int.reduceNeg, Int.reduceToNat, Int.reducePow, Int.reduceEq, e1, e2, d, decide_eq_true e]
    rfl
  · have e3 := t_whj (y := y) hj (us := beh y (beh y us x) z) (ms := ms) (a := hd us x) (b := hd us z) (by omega) (by omega) (by omega)
    have r : toldV j y us ms (.join x z) = .tup [stV j y (lkU j (beh y (beh y us x) z) ms (hd us x) (hd us z)) (lkM j ms (hd us x) (hd us z)), .bl true, .int (stp y us x + stp y (beh y us x) z : Nat)] := by
      unfold toldV
      show PV.tup [stV j y (if hd us x = hd us z then _ else _) (if hd us x = hd us z then _ else _), .bl (!decide (hd us x = hd us z)), _] = _
      rw [if_neg e, if_neg e, decide_eq_false e]; rfl
    rw [r]
    simp only [q_F_join_done, q_F_join_done_s, EE, Nat.reduceAdd, Nat.reduceSub, Nat.reduceLeDiff, Nat.reduceLT, Nat.reduceEqDiff, Int.reduceLT, Int.reduceLE, Int.reduceAdd, Int.reduceSub, Int.reduceMul, Int.reduceMod, Int.reduceDiv, Int.reduceNeg, Int.reduceToNat, Int.reducePow, Int.reduceEq, e1, e2, e3, d, decide_eq_false e]
    rfl
theorem DD : decide (("find" : Str) = "join") = false ∧ decide (("join" : Str) = "find") = false := by decide
theorem t_ldeed {n : Nat} {us ms : List Nat} (S : Sto n us ms) {j y : Str} (hj : j ∈ jws) (hy : y ∈ manners) {d : Deed} (h : d.ok n) : F__law_deed [stV j y us ms, d.pv] = some (.v (toldV j y us ms d)) := by
  obtain ⟨f, lu, lm⟩ := S
  cases d with
  | find x =>
    have hx : x < us.length := by rw [lu]; exact h
    have a0 : L2.atI [PV.str "find", .int (x : Int)] 0 = some (.str "find") := rfl
    have a1 : L2.atI [PV.str "find", .int (x : Int)] 1 = some (.int x) := rfl
    simp only [Deed.pv, toldV, dU, dM, dA, dS, stV]
    simp only [q_F__law_deed, q_F__law_deed_s, EE, Nat.reduceAdd, Nat.reduceSub, Nat.reduceLeDiff, Nat.reduceLT, Nat.reduceEqDiff, Int.reduceLT, Int.reduceLE, Int.reduceAdd, Int.reduceSub, Int.reduceMul, Int.reduceMod, Int.reduceDiv, Int.reduceNeg, Int.reduceToNat, Int.reducePow, Int.reduceEq, DD, a0, a1, t_lfind f hy hx]
  | join x z =>
    have hx : x < us.length := by rw [lu]; exact h.1
    have hz : z < us.length := by rw [lu]; exact h.2
    have f1 := beh_frst f hx hy
    have l1 := beh_len y us x
    have hz1 : z < (beh y us x).length := by omega
    have l2 := beh_len y (beh y us x) z
    have e1 := t_lfind f hy hx
    have e2 := t_lfind f1 hy hz1
    rw [hd_beh f hx hy hz] at e2
    have a1' := hd_lt f.fst hx
    have a2' := hd_lt f.fst hz
    have d : decide ((hd us x : Int) = (hd us z : Int)) = decide (hd us x = hd us z) := decide_eq_decide.mpr (by omega)
    have a0 : L2.atI [PV.str "join", .int (x : Int), .int (z : Int)] 0 = some (.str "join") := rfl
    have a1 : L2.atI [PV.str "join", .int (x : Int), .int (z : Int)] 1 = some (.int x) := rfl
    have a2 : L2.atI [PV.str "join", .int (x : Int), .int (z : Int)] 2 = some (.int z) := rfl
    by_cases e : hd us x = hd us z
    · have r : toldV j y us ms (.join x z) = .tup [stV j y (beh y (beh y us x) z) ms, .bl false, .int (stp y us x + stp y (beh y us x) z : Nat)] := by
        unfold toldV
        show PV.tup [stV j y (if hd us x = hd us z then _ else _) (if hd us x = hd us z then _ else _), .bl (!decide (hd us x = hd us z)), _] = _
        rw [if_pos e, if_pos e, decide_eq_true e]; rfl
      rw [r]
      simp only [Deed.pv, stV]
      simp only [q_F__law_deed, q_F__law_deed_s, EE, Nat.reduceAdd, Nat.reduceSub, Nat.reduceLeDiff, Nat.reduceLT, Nat.reduceEqDiff, Int.reduceLT, Int.reduceLE, Int.reduceAdd, Int.reduceSub, Int.reduceMul, Int.reduceMod, Int.reduceDiv, Int.reduceNeg, Int.reduceToNat, Int.reducePow, Int.reduceEq, DD, a0, a1, a2, e1, e2, d, decide_eq_true e]
      rfl
    · have e3 := t_llinked hj (us := beh y (beh y us x) z) (ms := ms) (a := hd us x) (b := hd us z) (by omega) (by omega) (by omega) e
      have r : toldV j y us ms (.join x z) = .tup [stV j y (lkU j (beh y (beh y us x) z) ms (hd us x) (hd us z)) (lkM j ms (hd us x) (hd us z)), .bl true, .int (stp y us x + stp y (beh y us x) z : Nat)] := by
        unfold toldV
        show PV.tup [stV j y (if hd us x = hd us z then _ else _) (if hd us x = hd us z then _ else _), .bl (!decide (hd us x = hd us z)), _] = _
        rw [if_neg e, if_neg e, decide_eq_false e]; rfl
      rw [r]
      simp only [Deed.pv, stV]
      simp only [q_F__law_deed, q_F__law_deed_s, EE, Nat.reduceAdd, Nat.reduceSub, Nat.reduceLeDiff, Nat.reduceLT, Nat.reduceEqDiff, Int.reduceLT, Int.reduceLE, Int.reduceAdd, Int.reduceSub, Int.reduceMul, Int.reduceMod, Int.reduceDiv, Int.reduceNeg, Int.reduceToNat, Int.reducePow, Int.reduceEq, DD, a0, a1, a2, e1, e2, e3, d, decide_eq_false e]
      rfl
end Dp
end
section
namespace Dp
open PySem L2 Fo Pu
noncomputable def JA : FS := (sSet 7 (fSl (fCall F__law_numbers (fCons (fCall F__law_cell (fCons (fV 0) (fCons (fOp rAdd (fOp rAdd (fV 1) (fC (.int 1))) (fOp rDiv (fV 6) (fC (.int 5)))) fNil))) (fCons (fC (.int 20)) fNil))) (fPt (fOp rMul (fC (.int 4)) (fOp rMod (fV 6) (fC (.int 5))))) fNo))
theorem q_JA {ρ : PSt} : JA ρ = (sSet 7 (fSl (fCall F__law_numbers (fCons (fCall F__law_cell (fCons (fV 0) (fCons (fOp rAdd (fOp rAdd (fV 1) (fC (.int 1))) (fOp rDiv (fV 6) (fC (.int 5)))) fNil))) (fCons (fC (.int 20)) fNil))) (fPt (fOp rMul (fC (.int 4)) (fOp rMod (fV 6) (fC (.int 5))))) fNo)) ρ := Eq.trans rfl rfl
noncomputable def JB : FS := (sPar 8 9 (fCons (fOp rMod (fOp rIx (fV 7) (fC (.int 0))) (fV 2)) (fCons (fOp rMod (fOp rIx (fV 7) (fC (.int 1))) (fV 2)) fNil)))
theorem q_JB {ρ : PSt} : JB ρ = (sPar 8 9 (fCons (fOp rMod (fOp rIx (fV 7) (fC (.int 0))) (fV 2)) (fCons (fOp rMod (fOp rIx (fV 7) (fC (.int 1))) (fV 2)) fNil))) ρ := Eq.trans rfl rfl
noncomputable def JC1 : FS := (sIf (fT (fOp rEq (fOp rMod (fOp rIx (fV 4) (fC (.int 1))) (fC (.int 4))) (fC (.int 1)))) (sPar 8 9 (fCons (fOp rMod (fV 6) (fV 2)) (fCons (fOp rMod (fOp rAdd (fV 6) (fC (.int 1))) (fV 2)) fNil))) sSkip)
theorem q_JC1 {ρ : PSt} : JC1 ρ = (sIf (fT (fOp rEq (fOp rMod (fOp rIx (fV 4) (fC (.int 1))) (fC (.int 4))) (fC (.int 1)))) (sPar 8 9 (fCons (fOp rMod (fV 6) (fV 2)) (fCons (fOp rMod (fOp rAdd (fV 6) (fC (.int 1))) (fV 2)) fNil))) sSkip) ρ := Eq.trans rfl rfl
noncomputable def JC2 : FS := (sIf (fAndB (fT (fOp rEq (fOp rMod (fOp rIx (fV 4) (fC (.int 1))) (fC (.int 4))) (fC (.int 2)))) (fT (fOp rGt (fOp rMod (fOp rIx (fV 7) (fC (.int 2))) (fC (.int 3))) (fC (.int 0))))) (sSeq (sSet 8 (fOp rMod (fOp rMul (fOp rDiv (fV 8) (fC (.int 2))) (fC (.int 2))) (fV 2))) (sSet 9 (fB kMin2 (fCons (fOp rSub (fV 2) (fC (.int 1))) (fCons (fOp rAdd (fV 8) (fC (.int 1))) fNil))))) sSkip)
theorem q_JC2 {ρ : PSt} : JC2 ρ = (sIf (fAndB (fT (fOp rEq (fOp rMod (fOp rIx (fV 4) (fC (.int 1))) (fC (.int 4))) (fC (.int 2)))) (fT (fOp rGt (fOp rMod (fOp rIx (fV 7) (fC (.int 2))) (fC (.int 3))) (fC (.int 0))))) (sSeq (sSet 8 (fOp rMod (fOp rMul (fOp rDiv (fV 8) (fC (.int 2))) (fC (.int 2))) (fV 2))) (sSet 9 (fB kMin2 (fCons (fOp rSub (fV 2) (fC (.int 1))) (fCons (fOp rAdd (fV 8) (fC (.int 1))) fNil))))) sSkip) ρ := Eq.trans rfl rfl
noncomputable def JC3 : FS := (sIf (fAndB (fT (fOp rNe (fV 5) (fLst fNil))) (fT (fOp rEq (fOp rMod (fOp rIx (fV 7) (fC (.int 2))) (fC (.int 7))) (fC (.int 1))))) (sAsg (fOp rIx (fV 5) (fOp rMod (fOp rIx (fV 7) (fC (.int 3))) (fB kLen (fCons (fV 5) fNil)))) (gTn 2 (gC (gN 8) (gC (gN 9) g0)))) sSkip)
theorem q_JC3 {ρ : PSt} : JC3 ρ = (sIf (fAndB (fT (fOp rNe (fV 5) (fLst fNil))) (fT (fOp rEq (fOp rMod (fOp rIx (fV 7) (fC (.int 2))) (fC (.int 7))) (fC (.int 1))))) (sAsg (fOp rIx (fV 5) (fOp rMod (fOp rIx (fV 7) (fC (.int 3))) (fB kLen (fCons (fV 5) fNil)))) (gTn 2 (gC (gN 8) (gC (gN 9) g0)))) sSkip) ρ := Eq.trans rfl rfl
noncomputable def JD : FS := (sApp 5 (fCons (fOp rIx (fLst (fCons (fTup (fCons (fV 8) (fCons (fV 9) fNil))) (fCons (fTup (fCons (fV 9) (fCons (fV 8) fNil))) fNil))) (fOp rMod (fOp rDiv (fOp rIx (fV 7) (fC (.int 2))) (fC (.int 7))) (fC (.int 2)))) fNil))
theorem q_JD {ρ : PSt} : JD ρ = (sApp 5 (fCons (fOp rIx (fLst (fCons (fTup (fCons (fV 8) (fCons (fV 9) fNil))) (fCons (fTup (fCons (fV 9) (fCons (fV 8) fNil))) fNil))) (fOp rMod (fOp rDiv (fOp rIx (fV 7) (fC (.int 2))) (fC (.int 7))) (fC (.int 2)))) fNil)) ρ := Eq.trans rfl rfl
theorem q_jb {ρ : PSt} : F__law_joins_b1 ρ = (sSeq JA (sSeq JB (sSeq JC1 (sSeq JC2 (sSeq JC3 JD))))) ρ := Eq.trans rfl rfl
noncomputable def prV (ps : List (Nat × Nat)) : List PV := ps.map fun p => .tup [.int p.1, .int p.2]
theorem prV_len (ps : List (Nat × Nat)) : (prV ps).length = ps.length := List.length_map ..
theorem plains_prV : ∀ ps : List (Nat × Nat), plains (prV ps) = true
  | [] => by show plains [] = true; rw [plains]
  | p :: ps => by
    show plains (.tup [.int p.1, .int p.2] :: prV ps) = true
    rw [plains, plains_prV ps]; simp [Pu.plain, plains]
theorem deps_prV : ∀ ps : List (Nat × Nat), deps (prV ps) ≤ 1
  | [] => by show deps [] ≤ 1; rw [deps]; omega
  | p :: ps => by
    show deps (.tup [.int p.1, .int p.2] :: prV ps) ≤ 1
    have := deps_prV ps
    rw [deps]; simp [dep, deps]; omega
theorem peqs_prV0 (ps : List (Nat × Nat)) : peqs (prV ps) [] = ps.isEmpty := by
  cases ps with
  | nil => exact peqs_nil
  | cons p ps => exact peqs_len (by show (prV ps).length + 1 ≠ 0; omega)
theorem cut_from {α : Type} (l : List α) (k : Nat) : cut l (some (k : Int)) none = l.drop k := by
  unfold cut
  rw [HT.sIx_nat, HT.sIx_none]
  by_cases h : k ≤ l.length
  · rw [Nat.min_eq_left h, List.take_of_length_le (by rw [List.length_drop]; omega)]
  · rw [Nat.min_eq_right (by omega), List.drop_eq_nil_of_le (Nat.le_refl _), List.drop_eq_nil_of_le (by omega), List.take_nil]
section
variable {ns : List Int} {n : Nat} {hs ys : List Nat} {row : List (Nat × Nat)} {s3 : Option Sl} {at' k : Nat}
noncomputable def JR (ns : List Int) (at' n : Nat) (s3 : Option Sl) (hs : List Nat) (row : List (Nat × Nat)) (k : Nat) (ys : List Nat) (x z : Nat) : PSt := [some (.val (.src (iL ns))), some (.val (.int at')), some (.val (.int n)), s3, some (.val (.lst (nums hs))), some (.own (prV row)), some (.val (.int k)), some (.val (.lst (nums ys))), some (.val (.int x)), some (.val (.int z))]
theorem j_c1 (hn : 1 ≤ n) (hh : hs.length = 4) {x z : Nat} (hx : x < n) (hz : z < n) : ∃ x' z', x' < n ∧ z' < n ∧ JC1 (JR ns at' n s3 hs row k ys x z) = .nx (JR ns at' n s3 hs row k ys x' z') := by
  have i1 : L2.atI (nums hs) 1 = some (.int (up hs 1 : Nat)) := atI_nums (x := 1) (by omega)
  have pn : (0 : Int) < (n : Int) := by omega
  unfold JR
  by_cases q : (up hs 1 : Int) % 4 = 1
  · refine ⟨k % n, (k + 1) % n, Nat.mod_lt _ (by omega), Nat.mod_lt _ (by omega), ?_⟩
    simp only [q_JC1, EE, Nat.reduceAdd, Nat.reduceSub, Nat.reduceLeDiff, Nat.reduceLT, Nat.reduceEqDiff, Int.reduceLT, Int.reduceLE, Int.reduceAdd, Int.reduceSub, Int.reduceMul, Int.reduceMod, Int.reduceDiv, Int.reduceNeg, Int.reduceToNat, Int.reducePow, Int.reduceEq, i1, decide_eq_true q, pn]
    rfl
  · exact ⟨x, z, hx, hz, by simp only [q_JC1, EE, Nat.reduceAdd, Nat.reduceSub, Nat.reduceLeDiff, Nat.reduceLT, Nat.reduceEqDiff, Int.reduceLT, Int.reduceLE, Int.reduceAdd, Int.reduceSub, Int.reduceMul, Int.reduceMod, Int.reduceDiv, Int.reduceNeg, Int.reduceToNat, Int.reducePow, Int.reduceEq, i1, decide_eq_false q]⟩
theorem j_c2 (hn : 1 ≤ n) (hn2 : n ≤ 40) (hh : hs.length = 4) (hy : 4 ≤ ys.length) {x z : Nat} (hx : x < n) (hz : z < n) : ∃ x' z', x' < n ∧ z' < n ∧ JC2 (JR ns at' n s3 hs row k ys x z) = .nx (JR ns at' n s3 hs row k ys x' z') := by
  have i1 : L2.atI (nums hs) 1 = some (.int (up hs 1 : Nat)) := atI_nums (x := 1) (by omega)
  have i2 : L2.atI (nums ys) 2 = some (.int (up ys 2 : Nat)) := atI_nums (x := 2) (by omega)
  have pn : (0 : Int) < (n : Int) := by omega
  unfold JR
  by_cases q : (up hs 1 : Int) % 4 = 2
  · by_cases q2 : (0 : Int) < (up ys 2 : Int) % 3
    · have e1 : (x : Int) / 2 * 2 % (n : Int) = ((x / 2 * 2 % n : Nat) : Int) := by push_cast; rfl
      have em : (if ((x / 2 * 2 % n : Nat) : Int) + 1 < (n : Int) - 1 then ((x / 2 * 2 % n : Nat) : Int) + 1 else (n : Int) - 1) = ((min (n - 1) (x / 2 * 2 % n + 1) : Nat) : Int) := by split <;> omega
      refine ⟨x / 2 * 2 % n, min (n - 1) (x / 2 * 2 % n + 1), Nat.mod_lt _ (by omega), by omega, ?_⟩
      have ml : (((x : Int) / 2).natAbs < 2 ^ 64 ∨ (2 : Int).natAbs < 2 ^ 64) := .inr (by decide)
      simp only [q_JC2, EE, Nat.reduceAdd, Nat.reduceSub, Nat.reduceLeDiff, Nat.reduceLT, Nat.reduceEqDiff, Int.reduceLT, Int.reduceLE, Int.reduceAdd, Int.reduceSub, Int.reduceMul, Int.reduceMod, Int.reduceDiv, Int.reduceNeg, Int.reduceToNat, Int.reducePow, Int.reduceEq, i1, i2, decide_eq_true q, decide_eq_true q2, pn, ml, e1, em]
    · exact ⟨x, z, hx, hz, by simp only [q_JC2, EE, Nat.reduceAdd, Nat.reduceSub, Nat.reduceLeDiff, Nat.reduceLT, Nat.reduceEqDiff, Int.reduceLT, Int.reduceLE, Int.reduceAdd, Int.reduceSub, Int.reduceMul, Int.reduceMod, Int.reduceDiv, Int.reduceNeg, Int.reduceToNat, Int.reducePow, Int.reduceEq, i1, i2, decide_eq_true q, decide_eq_false q2]⟩
  · exact ⟨x, z, hx, hz, by simp only [q_JC2, EE, Nat.reduceAdd, Nat.reduceSub, Nat.reduceLeDiff, Nat.reduceLT, Nat.reduceEqDiff, Int.reduceLT, Int.reduceLE, Int.reduceAdd, Int.reduceSub, Int.reduceMul, Int.reduceMod, Int.reduceDiv, Int.reduceNeg, Int.reduceToNat, Int.reducePow, Int.reduceEq, i1, decide_eq_false q]⟩
theorem j_c3 (hy : 4 ≤ ys.length) (hr : ∀ p ∈ row, p.1 < n ∧ p.2 < n) {x z : Nat} (hx : x < n) (hz : z < n) : ∃ x' z', x' < n ∧ z' < n ∧ JC3 (JR ns at' n s3 hs row k ys x z) = .nx (JR ns at' n s3 hs row k ys x' z') := by
  have i2 : L2.atI (nums ys) 2 = some (.int (up ys 2 : Nat)) := atI_nums (x := 2) (by omega)
  have i3 : L2.atI (nums ys) 3 = some (.int (up ys 3 : Nat)) := atI_nums (x := 3) (by omega)
  have dd : decide (deps (prV row) ≤ 49) = true := decide_eq_true (by have := deps_prV row; omega)
  have p0 : plains [] = true := by rw [plains]
  unfold JR
  by_cases h0 : row = []
  · subst h0; exact ⟨x, z, hx, hz, by simp only [q_JC3, EE, Nat.reduceAdd, Nat.reduceSub, Nat.reduceLeDiff, Nat.reduceLT, Nat.reduceEqDiff, Int.reduceLT, Int.reduceLE, Int.reduceAdd, Int.reduceSub, Int.reduceMul, Int.reduceMod, Int.reduceDiv, Int.reduceNeg, Int.reduceToNat, Int.reducePow, Int.reduceEq, plains_prV, p0, dd, peqs_prV0, List.isEmpty_nil]⟩
  · have ie : row.isEmpty = false := by cases row with
      | nil => exact absurd rfl h0
      | cons => rfl
    have pos : 0 < row.length := List.length_pos_iff.mpr h0
    by_cases q : (up ys 2 : Int) % 7 = 1
    · have hl : up ys 3 % row.length < row.length := Nat.mod_lt _ pos
      have pl : (0 : Int) < (row.length : Int) := by omega
      have ea : L2.atI (prV row) ((up ys 3 : Int) % (row.length : Int)) = some (.tup [.int (row[up ys 3 % row.length]).1, .int (row[up ys 3 % row.length]).2]) := by
        rw [show (up ys 3 : Int) % (row.length : Int) = ((up ys 3 % row.length : Nat) : Int) from rfl]
        refine L2.atI_nat ?_
        unfold prV
        rw [List.getElem?_map, List.getElem?_eq_getElem hl]; rfl
      have hm := hr _ (List.getElem_mem hl)
      refine ⟨_, _, hm.1, hm.2, ?_⟩
      simp only [q_JC3, EE, Nat.reduceAdd, Nat.reduceSub, Nat.reduceLeDiff, Nat.reduceLT, Nat.reduceEqDiff, Int.reduceLT, Int.reduceLE, Int.reduceAdd, Int.reduceSub, Int.reduceMul, Int.reduceMod, Int.reduceDiv, Int.reduceNeg, Int.reduceToNat, Int.reducePow, Int.reduceEq, plains_prV, p0, dd, peqs_prV0, ie, i2, i3, decide_eq_true q, prV_len, pl, ea]
    · exact ⟨x, z, hx, hz, by simp only [q_JC3, EE, Nat.reduceAdd, Nat.reduceSub, Nat.reduceLeDiff, Nat.reduceLT, Nat.reduceEqDiff, Int.reduceLT, Int.reduceLE, Int.reduceAdd, Int.reduceSub, Int.reduceMul, Int.reduceMod, Int.reduceDiv, Int.reduceNeg, Int.reduceToNat, Int.reducePow, Int.reduceEq, plains_prV, p0, dd, peqs_prV0, ie, i2, decide_eq_false q]⟩
theorem j_d (hy : 4 ≤ ys.length) (hl : row.length ≤ 1000) {x z : Nat} : ∃ p, (p = (x, z) ∨ p = (z, x)) ∧ JD (JR ns at' n s3 hs row k ys x z) = .nx (JR ns at' n s3 hs (row ++ [p]) k ys x z) := by
  have i2 : L2.atI (nums ys) 2 = some (.int (up ys 2 : Nat)) := atI_nums (x := 2) (by omega)
  have l1 : (prV row).length ≤ 100000 := by rw [prV_len]; omega
  have ea : ∀ p : Nat × Nat, prV row ++ [.tup [.int p.1, .int p.2]] = prV (row ++ [p]) := fun p => by unfold prV; rw [List.map_append]; rfl
  unfold JR
  by_cases q : (up ys 2 : Int) / 7 % 2 = 0
  · refine ⟨(x, z), .inl rfl, ?_⟩
    have e0 : ∀ a b : PV, L2.atI [a, b] 0 = some a := fun a b => rfl
    rw [← ea]
    simp only [q_JD, EE, Nat.reduceAdd, Nat.reduceSub, Nat.reduceLeDiff, Nat.reduceLT, Nat.reduceEqDiff, Int.reduceLT, Int.reduceLE, Int.reduceAdd, Int.reduceSub, Int.reduceMul, Int.reduceMod, Int.reduceDiv, Int.reduceNeg, Int.reduceToNat, Int.reducePow, Int.reduceEq, i2, q, e0, l1]
  · have q : (up ys 2 : Int) / 7 % 2 = 1 := by omega
    refine ⟨(z, x), .inr rfl, ?_⟩
    have e0 : ∀ a b : PV, L2.atI [a, b] 1 = some b := fun a b => rfl
    rw [← ea]
    simp only [q_JD, EE, Nat.reduceAdd, Nat.reduceSub, Nat.reduceLeDiff, Nat.reduceLT, Nat.reduceEqDiff, Int.reduceLT, Int.reduceLE, Int.reduceAdd, Int.reduceSub, Int.reduceMul, Int.reduceMod, Int.reduceDiv, Int.reduceNeg, Int.reduceToNat, Int.reducePow, Int.reduceEq, i2, q, e0, l1]
theorem j_step (hn : 1 ≤ n) (hn2 : n ≤ 40) (hh : hs.length = 4) (hat : at' ≤ 500) (hk : k ≤ 500) (hl : row.length ≤ 1000) (hr : ∀ p ∈ row, p.1 < n ∧ p.2 < n) {z7 z8 z9 : Option Sl} : ∃ p w7 w8 w9, (p.1 < n ∧ p.2 < n) ∧
    F__law_joins_b1 [some (.val (.src (iL ns))), some (.val (.int at')), some (.val (.int n)), s3, some (.val (.lst (nums hs))), some (.own (prV row)), some (.val (.int k)), z7, z8, z9] =
      .nx [some (.val (.src (iL ns))), some (.val (.int at')), some (.val (.int n)), s3, some (.val (.lst (nums hs))), some (.own (prV (row ++ [p]))), some (.val (.int k)), w7, w8, w9] := by
  obtain ⟨c, ec⟩ := t_cell ns ((at' : Int) + 1 + (k : Int) / 5) (by omega) (by omega)
  obtain ⟨xs, hx, ex⟩ := t_numbers c 20 (by decide) (by decide)
  have hx : xs.length = 20 := hx
  have e4 : (4 : Int) * ((k : Int) % 5) = ((4 * (k % 5) : Nat) : Int) := by omega
  have ec' : cut (nums xs) (some ((4 * (k % 5) : Nat) : Int)) none = nums (xs.drop (4 * (k % 5))) := by rw [cut_nums, cut_from]
  generalize hys : xs.drop (4 * (k % 5)) = ys at ec'
  have hy : 4 ≤ ys.length := by rw [← hys, List.length_drop]; omega
  have ml : ((4 : Int).natAbs < 2 ^ 64 ∨ ((k : Int) % 5).natAbs < 2 ^ 64) := .inl (by decide)
  have pn : (0 : Int) < (n : Int) := by omega
  have i0 : L2.atI (nums ys) 0 = some (.int (up ys 0 : Nat)) := atI_nums (x := 0) (by omega)
  have i1 : L2.atI (nums ys) 1 = some (.int (up ys 1 : Nat)) := atI_nums (x := 1) (by omega)
  have m0 : (up ys 0 : Int) % (n : Int) = ((up ys 0 % n : Nat) : Int) := rfl
  have m1 : (up ys 1 : Int) % (n : Int) = ((up ys 1 % n : Nat) : Int) := rfl
  obtain ⟨x1, z1, a1, b1, e1⟩ := j_c1 (ns := ns) (at' := at') (s3 := s3) (row := row) (k := k) (ys := ys) hn hh (Nat.mod_lt (up ys 0) (by omega)) (Nat.mod_lt (up ys 1) (by omega))
  obtain ⟨x2, z2, a2, b2, e2⟩ := j_c2 (ns := ns) (at' := at') (s3 := s3) (row := row) (k := k) (ys := ys) hn hn2 hh hy a1 b1
  obtain ⟨x3, z3, a3, b3, e3⟩ := j_c3 (ns := ns) (at' := at') (s3 := s3) (hs := hs) (k := k) (ys := ys) hy hr a2 b2
  obtain ⟨p, hp, e5⟩ := j_d (ns := ns) (n := n) (at' := at') (s3 := s3) (hs := hs) (row := row) (k := k) (ys := ys) (x := x3) (z := z3) hy hl
  refine ⟨p, some (.val (.lst (nums ys))), some (.val (.int x3)), some (.val (.int z3)), by rcases hp with rfl | rfl <;> exact ⟨by assumption, by assumption⟩, ?_⟩
  unfold JR at e1 e2 e3 e5
  simp only [q_jb, q_JA, q_JB, EE, Nat.reduceAdd, Nat.reduceSub, Nat.reduceLeDiff, Nat.reduceLT, Nat.reduceEqDiff, Int.reduceLT, Int.reduceLE, Int.reduceAdd, Int.reduceSub, Int.reduceMul, Int.reduceMod, Int.reduceDiv, Int.reduceNeg, Int.reduceToNat, Int.reducePow, Int.reduceEq, ec, ex, ml, e4, ec', i0, i1, pn, m0, m1, e1, e2, e3, e5]
theorem j_loop (hn : 1 ≤ n) (hn2 : n ≤ 40) (hh : hs.length = 4) (hat : at' ≤ 500) : ∀ (ks : List Nat) (row : List (Nat × Nat)) (z6 z7 z8 z9 : Option Sl), (∀ k ∈ ks, k ≤ 500) → row.length + ks.length ≤ 1000 → (∀ p ∈ row, p.1 < n ∧ p.2 < n) →
    ∃ row' w6 w7 w8 w9, (∀ p ∈ row', p.1 < n ∧ p.2 < n) ∧ row'.length = row.length + ks.length ∧ loopF (gN 6) F__law_joins_b1 (nums ks) [some (.val (.src (iL ns))), some (.val (.int at')), some (.val (.int n)), s3, some (.val (.lst (nums hs))), some (.own (prV row)), z6, z7, z8, z9] =
      .nx [some (.val (.src (iL ns))), some (.val (.int at')), some (.val (.int n)), s3, some (.val (.lst (nums hs))), some (.own (prV row')), w6, w7, w8, w9]
  | [], row, z6, z7, z8, z9, _, _, hr => ⟨row, z6, z7, z8, z9, hr, rfl, rfl⟩
  | k :: ks, row, z6, z7, z8, z9, hk, hl, hr => by
    rw [List.length_cons] at hl
    obtain ⟨p, w7, w8, w9, hp, e⟩ := j_step (ns := ns) (s3 := s3) hn hn2 hh hat (hk k List.mem_cons_self) (by omega) hr (z7 := z7) (z8 := z8) (z9 := z9)
    obtain ⟨row', v6, v7, v8, v9, h1, h2, e'⟩ := j_loop hn hn2 hh hat ks (row ++ [p]) (some (.val (.int k))) w7 w8 w9 (fun q hq => hk q (List.mem_cons_of_mem _ hq)) (by rw [List.length_append, List.length_singleton]; omega) (fun q hq => by
      rcases List.mem_append.mp hq with hq | hq
      · exact hr q hq
      · rw [List.mem_singleton.mp hq]; exact hp)
    refine ⟨row', v6, v7, v8, v9, h1, by rw [h2, List.length_append, List.length_singleton, List.length_cons]; omega, ?_⟩
    rw [← e', nums_cons, loop_S]
    simp only [EE, Nat.reduceAdd, Nat.reduceSub, Nat.reduceLeDiff, Nat.reduceLT, Nat.reduceEqDiff, Int.reduceLT, Int.reduceLE, Int.reduceAdd, Int.reduceSub, Int.reduceMul, Int.reduceMod, Int.reduceDiv, Int.reduceNeg, Int.reduceToNat, Int.reducePow, Int.reduceEq, e]
theorem t_ljoins (ns : List Int) {at' n m : Nat} (hn : 1 ≤ n) (hn2 : n ≤ 40) (hat : at' ≤ 500) (hm : m ≤ 60) : ∃ row : List (Nat × Nat), (∀ p ∈ row, p.1 < n ∧ p.2 < n) ∧ row.length ≤ m ∧ F__law_joins [.src (iL ns), .int at', .int n, .int m] = some (.v (.tup (prV row))) := by
  obtain ⟨c, ec⟩ := t_cell ns (at' : Int) (by omega) (by omega)
  obtain ⟨hs, hh, eh⟩ := t_numbers c 4 (by decide) (by decide)
  have hh : hs.length = 4 := hh
  have i0 : L2.atI (nums hs) 0 = some (.int (up hs 0 : Nat)) := atI_nums (x := 0) (by omega)
  have pm : (0 : Int) < (m : Int) + 1 := by omega
  have em : (up hs 0 : Int) % ((m : Int) + 1) = ((up hs 0 % (m + 1) : Nat) : Int) := rfl
  have lt : up hs 0 % (m + 1) < m + 1 := Nat.mod_lt _ (by omega)
  generalize up hs 0 % (m + 1) = q at *
  obtain ⟨row, w6, w7, w8, w9, h1, h2, e⟩ := j_loop (ns := ns) (s3 := some (.val (.int m))) hn hn2 hh hat (List.range q) [] none none none none (fun k hk => by have := List.mem_range.mp hk; omega) (by rw [List.length_range]; simp; omega) (fun p hp => by cases hp)
  rw [List.length_range] at h2
  simp only [List.length_nil] at h2
  have e : loopF (gN 6) F__law_joins_b1 (nums (List.range q)) [some (.val (.src (iL ns))), some (.val (.int at')), some (.val (.int n)), some (.val (.int m)), some (.val (.lst (nums hs))), some (.own []), none, none, none, none] = _ := e
  exact ⟨row, h1, by omega, by simp only [q_F__law_joins, q_F__law_joins_s, EE, Nat.reduceAdd, Nat.reduceSub, Nat.reduceLeDiff, Nat.reduceLT, Nat.reduceEqDiff, Int.reduceLT, Int.reduceLE, Int.reduceAdd, Int.reduceSub, Int.reduceMul, Int.reduceMod, Int.reduceDiv, Int.reduceNeg, Int.reduceToNat, Int.reducePow, Int.reduceEq, ec, eh, i0, pm, em, K1 (show q ≤ 100000 by omega), e]⟩
end
noncomputable def oEnumT (ps : List PV) : Option (List PV) := match ps with
  | [p] => (tupOf p).map (enumP 0)
  | _ => none
theorem x_enumT {fs : FA} {ρ : PSt} : fEnumT fs ρ = (fs ρ).bind fun rs => (rs.mapM RV.fr).bind oEnumT := by
  unfold fEnumT
  rfl
theorem x_enumT_s {ps : List PV} : oEnumT [.tup ps] = some (enumP 0 ps) := Eq.trans rfl rfl
end Dp
end
section
namespace Dp
open PySem L2 Fo Pu
theorem x_callL {t : FTab} {i : Nat} {fs : FA} {ρ : PSt} : fCallL t i fs ρ = oCallL t (sl ρ i) ((fs ρ).bind fun rs => rs.mapM RV.fr) := Eq.trans rfl rfl
theorem x_callL_s {t : FTab} {a : Addr} {ps : List PV} : oCallL t (some (.val (.fn a))) (some ps) = (look t a).bind fun F => (F ps).map rvOf := Eq.trans rfl rfl
theorem t_pair {n x z : Nat} (hx : x < n) (hz : z < n) : F_is_pair [.int n, .tup [.int x, .int z]] = some (.v (.bl true)) := by
  have a0 : L2.atI [PV.int (x : Int), .int (z : Int)] 0 = some (.int x) := rfl
  have a1 : L2.atI [PV.int (x : Int), .int (z : Int)] 1 = some (.int z) := rfl
  have k2 : ((2 : Nat) : Int) = 2 := rfl
  have t1 : decide ((0 : Int) ≤ (x : Int) ∧ (x : Int) < (n : Int)) = true := decide_eq_true ⟨by omega, by omega⟩
  have t2 : decide ((0 : Int) ≤ (z : Int) ∧ (z : Int) < (n : Int)) = true := decide_eq_true ⟨by omega, by omega⟩
  simp only [q_F_is_pair, q_F_is_pair_s, EE, Nat.reduceAdd, Nat.reduceSub, Nat.reduceLeDiff, Nat.reduceLT, Nat.reduceEqDiff, Int.reduceLT, Int.reduceLE, Int.reduceAdd, Int.reduceSub, Int.reduceMul, Int.reduceMod, Int.reduceDiv, Int.reduceNeg, Int.reduceToNat, Int.reducePow, Int.reduceEq, k2, a0, a1, t_thing, t1, t2]
theorem row_loop {n : Nat} {a : Addr} {s1 : Option Sl} : ∀ (row : List (Nat × Nat)) (k : Nat) (z3 z4 : Option Sl), (∀ p ∈ row, p.1 < n ∧ p.2 < n) →
    ∃ w3 w4, loopF (gTn 2 (gC (gN 3) (gC (gN 4) g0))) (F_check_row_b1 [(a, F_is_pair)]) (enumP k (prV row)) [some (.val (.int n)), s1, some (.val (.fn a)), z3, z4] = .nx [some (.val (.int n)), s1, some (.val (.fn a)), w3, w4]
  | [], k, z3, z4, _ => ⟨z3, z4, rfl⟩
  | (x, z) :: row, k, z3, z4, hr => by
    have hx : x < n := (hr (x, z) List.mem_cons_self).1
    have hz : z < n := (hr (x, z) List.mem_cons_self).2
    obtain ⟨w3, w4, e⟩ := row_loop row (k + 1) (some (.val (.int k))) (some (.val (.tup [.int x, .int z]))) fun p hp => hr p (List.mem_cons_of_mem _ hp)
    refine ⟨w3, w4, ?_⟩
    rw [← e, show enumP k (prV ((x, z) :: row)) = .tup [.int k, .tup [.int x, .int z]] :: enumP (k + 1) (prV row) from rfl, loop_S]
    simp only [q_F_check_row_b1, EE, Nat.reduceAdd, Nat.reduceSub, Nat.reduceLeDiff, Nat.reduceLT, Nat.reduceEqDiff, Int.reduceLT, Int.reduceLE, Int.reduceAdd, Int.reduceSub, Int.reduceMul, Int.reduceMod, Int.reduceDiv, Int.reduceNeg, Int.reduceToNat, Int.reducePow, Int.reduceEq, x_callL, x_callL_s, look_at, t_pair hx hz]
theorem t_cjoins {n : Nat} {a : Addr} {row : List (Nat × Nat)} (hr : ∀ p ∈ row, p.1 < n ∧ p.2 < n) : F_check_joins a [.int n, .tup (prV row)] = some (.v .non) := by
  obtain ⟨w3, w4, e⟩ := row_loop (n := n) (a := a) (s1 := some (.val (.tup (prV row)))) row 0 none none hr
  have e' : F_check_row [(a, F_is_pair)] [.int n, .tup (prV row), .fn a] = some (.v .non) := by
    simp only [q_F_check_row, q_F_check_row_s, EE, Nat.reduceAdd, Nat.reduceSub, Nat.reduceLeDiff, Nat.reduceLT, Nat.reduceEqDiff, Int.reduceLT, Int.reduceLE, Int.reduceAdd, Int.reduceSub, Int.reduceMul, Int.reduceMod, Int.reduceDiv, Int.reduceNeg, Int.reduceToNat, Int.reducePow, Int.reduceEq, x_enumT, x_enumT_s, e]
  simp only [q_F_check_joins, q_F_check_joins_s, EE, Nat.reduceAdd, Nat.reduceSub, Nat.reduceLeDiff, Nat.reduceLT, Nat.reduceEqDiff, Int.reduceLT, Int.reduceLE, Int.reduceAdd, Int.reduceSub, Int.reduceMul, Int.reduceMod, Int.reduceDiv, Int.reduceNeg, Int.reduceToNat, Int.reducePow, Int.reduceEq, e']
theorem t_cmr {n : Nat} {a : Addr} {row : List (Nat × Nat)} (h1 : 1 ≤ n) (h2 : n ≤ 40) (hr : ∀ p ∈ row, p.1 < n ∧ p.2 < n) : F_check_many_and_row a [.int n, .tup (prV row)] = some (.v .non) := by
  simp only [q_F_check_many_and_row, q_F_check_many_and_row_s, q_F_check_many, q_F_check_many_s, EE, Nat.reduceAdd, Nat.reduceSub, Nat.reduceLeDiff, Nat.reduceLT, Nat.reduceEqDiff, Int.reduceLT, Int.reduceLE, Int.reduceAdd, Int.reduceSub, Int.reduceMul, Int.reduceMod, Int.reduceDiv, Int.reduceNeg, Int.reduceToNat, Int.reducePow, Int.reduceEq, t_many' h1 h2, t_cjoins hr]
noncomputable def opV (o : Option Nat) : PV := o.elim .non fun n => .int (n : Int)
noncomputable def tsV (ts : List (Option Nat)) : List PV := ts.map opV
theorem tsV_len (ts : List (Option Nat)) : (tsV ts).length = ts.length := List.length_map ..
theorem tsV_set (ts : List (Option Nat)) (i k : Nat) : (tsV ts).set i (.int (k : Int)) = tsV (ts.set i (some k)) := by
  unfold tsV; rw [List.map_set]; rfl
noncomputable def tm1 (num : Nat) (us us' : List Nat) (acc : List (Option Nat)) (k : Nat) : List (Option Nat) := if up us' k = up us k then acc else acc.set k (some num)
noncomputable def tmF (num : Nat) (us us' : List Nat) (ks : List Nat) (acc : List (Option Nat)) : List (Option Nat) := ks.foldl (tm1 num us us') acc
theorem tm1_len {num : Nat} {us us' : List Nat} {acc : List (Option Nat)} {k : Nat} : (tm1 num us us' acc k).length = acc.length := by
  unfold tm1; split
  · rfl
  · rw [List.length_set]
theorem tmF_len {num : Nat} {us us' : List Nat} : ∀ (ks : List Nat) (acc : List (Option Nat)), (tmF num us us' ks acc).length = acc.length
  | [], _ => rfl
  | k :: ks, acc => by
    show (tmF num us us' ks (tm1 num us us' acc k)).length = _
    rw [tmF_len ks, tm1_len]
theorem tm_loop {n num : Nat} {us us' : List Nat} {i : Nat} {b : FS} {R : List (Option Nat) → Option Sl → PSt} (hset : ∀ p acc z, gN i p (R acc z) = some (R acc (some (.val p))))
    (hb : ∀ acc k, k < n → acc.length = n → b (R acc (some (.val (.int (k : Nat))))) = .nx (R (tm1 num us us' acc k) (some (.val (.int (k : Nat)))))) : ∀ (ks : List Nat) (acc : List (Option Nat)) (z : Option Sl), (∀ k ∈ ks, k < n) → acc.length = n →
    ∃ z', loopF (gN i) b (nums ks) (R acc z) = .nx (R (tmF num us us' ks acc) z')
  | [], acc, z, _, _ => ⟨z, rfl⟩
  | k :: ks, acc, z, hk, ha => by
    obtain ⟨z', e⟩ := tm_loop hset hb ks (tm1 num us us' acc k) (some (.val (.int (k : Nat)))) (fun q hq => hk q (List.mem_cons_of_mem _ hq)) (by rw [tm1_len]; exact ha)
    refine ⟨z', ?_⟩
    show _ = Out.nx (R (tmF num us us' ks (tm1 num us us' acc k)) z')
    rw [← e, nums_cons, loop_S]
    have h1 := hset (nI k) acc z
    have h2 := hb acc k (hk k List.mem_cons_self) ha
    rw [h1]
    have h2 : b (R acc (some (.val (nI k)))) = _ := h2
    simp only [x_ol0_s, x_ol_nx, h2]
noncomputable def tU (us ms : List Nat) (p : Nat × Nat) : List Nat := dU "size" "none" us ms (.join p.1 p.2)
noncomputable def tM (us ms : List Nat) (p : Nat × Nat) : List Nat := dM "size" us ms (.join p.1 p.2)
noncomputable def rT : List (Nat × Nat) → Nat → List Nat → List Nat → List (Option Nat) → List Nat × List Nat × List (Option Nat)
  | [], _, us, ms, ts => (us, ms, ts)
  | p :: r, k, us, ms, ts => rT r (k + 1) (tU us ms p) (tM us ms p) (tmF k us (tU us ms p) (List.range us.length) ts)
theorem none_in : ("none" : Str) ∈ manners := by decide
theorem size_in : ("size" : Str) ∈ jws := by decide
theorem sto_t {n : Nat} {us ms : List Nat} (S : Sto n us ms) {p : Nat × Nat} (h : p.1 < n ∧ p.2 < n) : Sto n (tU us ms p) (tM us ms p) := sto_deed S none_in h
theorem rT_sto {n : Nat} : ∀ (row : List (Nat × Nat)) (k : Nat) (us ms : List Nat) (ts : List (Option Nat)), Sto n us ms → ts.length = n → (∀ p ∈ row, p.1 < n ∧ p.2 < n) → Sto n (rT row k us ms ts).1 (rT row k us ms ts).2.1 ∧ (rT row k us ms ts).2.2.length = n
  | [], _, _, _, _, S, ht, _ => ⟨S, ht⟩
  | p :: r, k, us, ms, ts, S, ht, hr => rT_sto r (k + 1) _ _ _ (sto_t S (hr p List.mem_cons_self)) (by rw [tmF_len]; exact ht) fun q hq => hr q (List.mem_cons_of_mem _ hq)
theorem st2 (j y : Str) (us ms : List Nat) : rIx (stV j y us ms) (.int 2) = some (.fz (.tup (nums us))) := rfl
theorem ft_loop {n : Nat} (h2 : n ≤ 40) {s1 : Option Sl} : ∀ (row : List (Nat × Nat)) (k : Nat) (us ms : List Nat) (ts : List (Option Nat)) (z4 z5 z6 z7 z8 z9 z10 : Option Sl), Sto n us ms → ts.length = n → (∀ p ∈ row, p.1 < n ∧ p.2 < n) →
    ∃ w4 w5 w6 w7 w8 w9 w10, loopF (gTn 2 (gC (gN 4) (gC (gTn 2 (gC (gN 5) (gC (gN 6) g0))) g0))) F_forest_and_times_b2 (enumP k (prV row)) [some (.val (.int n)), s1, some (.val (stV "size" "none" us ms)), some (.own (tsV ts)), z4, z5, z6, z7, z8, z9, z10] =
      .nx [some (.val (.int n)), s1, some (.val (stV "size" "none" (rT row k us ms ts).1 (rT row k us ms ts).2.1)), some (.own (tsV (rT row k us ms ts).2.2)), w4, w5, w6, w7, w8, w9, w10]
  | [], k, us, ms, ts, z4, z5, z6, z7, z8, z9, z10, _, _, _ => ⟨z4, z5, z6, z7, z8, z9, z10, rfl⟩
  | (x, z) :: row, k, us, ms, ts, z4, z5, z6, z7, z8, z9, z10, S, ht, hr => by
    have h := hr (x, z) List.mem_cons_self
    have S' := sto_t S h
    have ej := t_jdone S size_in none_in h.1 h.2
    obtain ⟨w10, el⟩ := tm_loop (n := n) (num := k) (us := us) (us' := tU us ms (x, z)) (i := 10) (b := F_forest_and_times_b1)
      (R := fun acc q => [some (.val (.int n)), s1, some (.val (stV "size" "none" us ms)), some (.own (tsV acc)), some (.val (.int k)), some (.val (.int x)), some (.val (.int z)), some (.val (stV "size" "none" (tU us ms (x, z)) (tM us ms (x, z)))), some (.val (dA us (.join x z))), some (.val (.int (dS "none" us (.join x z) : Nat))), q]) (fun p acc q => rfl) (fun acc q hq ha => by
        have l1 : q < us.length := by rw [S.lu]; exact hq
        have l2 : q < (tU us ms (x, z)).length := by rw [S'.lu]; exact hq
        have d : decide ((up (tU us ms (x, z)) q : Int) = (up us q : Int)) = decide (up (tU us ms (x, z)) q = up us q) := decide_eq_decide.mpr (by omega)
        unfold tm1
        by_cases e : up (tU us ms (x, z)) q = up us q
        · rw [if_pos e]
          simp only [q_F_forest_and_times_b1, EE, Nat.reduceAdd, Nat.reduceSub, Nat.reduceLeDiff, Nat.reduceLT, Nat.reduceEqDiff, Int.reduceLT, Int.reduceLE, Int.reduceAdd, Int.reduceSub, Int.reduceMul, Int.reduceMod, Int.reduceDiv, Int.reduceNeg, Int.reduceToNat, Int.reducePow, Int.reduceEq, st2, atI_nums l1, atI_nums l2, d, decide_eq_true e]
        · rw [if_neg e]
          simp only [q_F_forest_and_times_b1, EE, Nat.reduceAdd, Nat.reduceSub, Nat.reduceLeDiff, Nat.reduceLT, Nat.reduceEqDiff, Int.reduceLT, Int.reduceLE, Int.reduceAdd, Int.reduceSub, Int.reduceMul, Int.reduceMod, Int.reduceDiv, Int.reduceNeg, Int.reduceToNat, Int.reducePow, Int.reduceEq, st2, atI_nums l1, atI_nums l2, d, decide_eq_false e, tsV_len, ixN_nat (show q < acc.length by omega), tsV_set]) (List.range us.length) ts z10 (fun q hq => by have := List.mem_range.mp hq; rw [S.lu] at this; exact this) ht
    obtain ⟨w4, w5, w6, w7, w8, w9, v10, e⟩ := ft_loop h2 (s1 := s1) row (k + 1) (tU us ms (x, z)) (tM us ms (x, z)) (tmF k us (tU us ms (x, z)) (List.range us.length) ts) (some (.val (.int k))) (some (.val (.int x))) (some (.val (.int z))) (some (.val (stV "size" "none" (tU us ms (x, z)) (tM us ms (x, z))))) (some (.val (dA us (.join x z)))) (some (.val (.int (dS "none" us (.join x z) : Nat)))) w10 S' (by rw [tmF_len]; exact ht) fun q hq => hr q (List.mem_cons_of_mem _ hq)
    refine ⟨w4, w5, w6, w7, w8, w9, v10, ?_⟩
    rw [show rT ((x, z) :: row) k us ms ts = rT row (k + 1) (tU us ms (x, z)) (tM us ms (x, z)) (tmF k us (tU us ms (x, z)) (List.range us.length) ts) from rfl, ← e, show enumP k (prV ((x, z) :: row)) = .tup [.int k, .tup [.int x, .int z]] :: enumP (k + 1) (prV row) from rfl, loop_S]
    have ej : F_join_done [stV "size" "none" us ms, .int x, .int z] = some (.v (.tup [stV "size" "none" (tU us ms (x, z)) (tM us ms (x, z)), dA us (.join x z), .int (dS "none" us (.join x z) : Nat)])) := ej
    rw [S.lu] at el ⊢
    simp only [q_F_forest_and_times_b2, EE, Nat.reduceAdd, Nat.reduceSub, Nat.reduceLeDiff, Nat.reduceLT, Nat.reduceEqDiff, Int.reduceLT, Int.reduceLE, Int.reduceAdd, Int.reduceSub, Int.reduceMul, Int.reduceMod, Int.reduceDiv, Int.reduceNeg, Int.reduceToNat, Int.reducePow, Int.reduceEq, ej, K1 (show n ≤ 100000 by omega), el]
theorem repN : ∀ n : Nat, (List.replicate n [PV.non]).flatten = tsV (List.replicate n none)
  | 0 => rfl
  | n + 1 => by rw [List.replicate_succ, List.flatten_cons, repN n]; rfl
theorem mulN {n : Nat} (h : n ≤ 1000) : rMul (.lst [.non]) (.int n) = some (.nw (tsV (List.replicate n none))) := by
  show (if ((n : Int) ≤ 1000 ∧ -1000 ≤ (n : Int) ∧ [PV.non].length ≤ 100) then some (RV.nw (List.replicate (n : Int).toNat [PV.non]).flatten) else none) = _
  rw [if_pos ⟨by omega, by omega, by decide⟩, Int.toNat_natCast, repN]
noncomputable def rU (n : Nat) (row : List (Nat × Nat)) : List Nat := (rT row 0 (List.range n) (List.replicate n (mk0 "size")) (List.replicate n none)).1
noncomputable def rW (n : Nat) (row : List (Nat × Nat)) : List (Option Nat) := (rT row 0 (List.range n) (List.replicate n (mk0 "size")) (List.replicate n none)).2.2
theorem sto0 {n : Nat} (h1 : 1 ≤ n) (h2 : n ≤ 40) : Sto n (List.range n) (List.replicate n (mk0 "size")) := ⟨frst_range h1 h2, List.length_range, List.length_replicate⟩
theorem t_ft {n : Nat} (h1 : 1 ≤ n) (h2 : n ≤ 40) {row : List (Nat × Nat)} (hr : ∀ p ∈ row, p.1 < n ∧ p.2 < n) : F_forest_and_times [.int n, .tup (prV row)] = some (.v (.tup [.tup (nums (rU n row)), .tup (tsV (rW n row))])) := by
  obtain ⟨w4, w5, w6, w7, w8, w9, w10, e⟩ := ft_loop h2 (s1 := some (.val (.tup (prV row)))) row 0 _ _ (List.replicate n none) none none none none none none none (sto0 h1 h2) List.length_replicate hr
  unfold rU rW
  simp only [q_F_forest_and_times, q_F_forest_and_times_s, EE, Nat.reduceAdd, Nat.reduceSub, Nat.reduceLeDiff, Nat.reduceLT, Nat.reduceEqDiff, Int.reduceLT, Int.reduceLE, Int.reduceAdd, Int.reduceSub, Int.reduceMul, Int.reduceMod, Int.reduceDiv, Int.reduceNeg, Int.reduceToNat, Int.reducePow, Int.reduceEq, t_new h1 h2 size_in none_in, mulN (show n ≤ 1000 by omega), x_enumT, x_enumT_s, e, st2]
theorem lt_loop {n : Nat} (h2 : n ≤ 40) {s1 : Option Sl} : ∀ (row : List (Nat × Nat)) (k : Nat) (us ms : List Nat) (ts : List (Option Nat)) (z4 z5 z6 z7 z8 : Option Sl), Sto n us ms → ts.length = n → (∀ p ∈ row, p.1 < n ∧ p.2 < n) →
    ∃ w4 w5 w6 w7 w8, loopF (gTn 2 (gC (gN 4) (gC (gTn 2 (gC (gN 5) (gC (gN 6) g0))) g0))) F__law_times_b2 (enumP k (prV row)) [some (.val (.int n)), s1, some (.val (stV "size" "none" us ms)), some (.own (tsV ts)), z4, z5, z6, z7, z8] =
      .nx [some (.val (.int n)), s1, some (.val (stV "size" "none" (rT row k us ms ts).1 (rT row k us ms ts).2.1)), some (.own (tsV (rT row k us ms ts).2.2)), w4, w5, w6, w7, w8]
  | [], k, us, ms, ts, z4, z5, z6, z7, z8, _, _, _ => ⟨z4, z5, z6, z7, z8, rfl⟩
  | (x, z) :: row, k, us, ms, ts, z4, z5, z6, z7, z8, S, ht, hr => by
    have h := hr (x, z) List.mem_cons_self
    have S' := sto_t S h
    have ej := t_ldeed S size_in none_in (d := .join x z) h
    obtain ⟨w8, el⟩ := tm_loop (n := n) (num := k) (us := us) (us' := tU us ms (x, z)) (i := 8) (b := F__law_times_b1)
      (R := fun acc q => [some (.val (.int n)), s1, some (.val (stV "size" "none" us ms)), some (.own (tsV acc)), some (.val (.int k)), some (.val (.int x)), some (.val (.int z)), some (.val (stV "size" "none" (tU us ms (x, z)) (tM us ms (x, z)))), q]) (fun p acc q => rfl) (fun acc q hq ha => by
        have l1 : q < us.length := by rw [S.lu]; exact hq
        have l2 : q < (tU us ms (x, z)).length := by rw [S'.lu]; exact hq
        have d : decide ((up (tU us ms (x, z)) q : Int) = (up us q : Int)) = decide (up (tU us ms (x, z)) q = up us q) := decide_eq_decide.mpr (by omega)
        unfold tm1
        by_cases e : up (tU us ms (x, z)) q = up us q
        · rw [if_pos e]
          simp only [q_F__law_times_b1, EE, Nat.reduceAdd, Nat.reduceSub, Nat.reduceLeDiff, Nat.reduceLT, Nat.reduceEqDiff, Int.reduceLT, Int.reduceLE, Int.reduceAdd, Int.reduceSub, Int.reduceMul, Int.reduceMod, Int.reduceDiv, Int.reduceNeg, Int.reduceToNat, Int.reducePow, Int.reduceEq, st2, atI_nums l1, atI_nums l2, d, decide_eq_true e]
        · rw [if_neg e]
          simp only [q_F__law_times_b1, EE, Nat.reduceAdd, Nat.reduceSub, Nat.reduceLeDiff, Nat.reduceLT, Nat.reduceEqDiff, Int.reduceLT, Int.reduceLE, Int.reduceAdd, Int.reduceSub, Int.reduceMul, Int.reduceMod, Int.reduceDiv, Int.reduceNeg, Int.reduceToNat, Int.reducePow, Int.reduceEq, st2, atI_nums l1, atI_nums l2, d, decide_eq_false e, tsV_len, ixN_nat (show q < acc.length by omega), tsV_set]) (List.range us.length) ts z8 (fun q hq => by have := List.mem_range.mp hq; rw [S.lu] at this; exact this) ht
    obtain ⟨w4, w5, w6, w7, v8, e⟩ := lt_loop h2 (s1 := s1) row (k + 1) (tU us ms (x, z)) (tM us ms (x, z)) (tmF k us (tU us ms (x, z)) (List.range us.length) ts) (some (.val (.int k))) (some (.val (.int x))) (some (.val (.int z))) (some (.val (stV "size" "none" (tU us ms (x, z)) (tM us ms (x, z))))) w8 S' (by rw [tmF_len]; exact ht) fun q hq => hr q (List.mem_cons_of_mem _ hq)
    refine ⟨w4, w5, w6, w7, v8, ?_⟩
    rw [show rT ((x, z) :: row) k us ms ts = rT row (k + 1) (tU us ms (x, z)) (tM us ms (x, z)) (tmF k us (tU us ms (x, z)) (List.range us.length) ts) from rfl, ← e, show enumP k (prV ((x, z) :: row)) = .tup [.int k, .tup [.int x, .int z]] :: enumP (k + 1) (prV row) from rfl, loop_S]
    have ej : F__law_deed [stV "size" "none" us ms, .tup [.str "join", .int x, .int z]] = some (.v (toldV "size" "none" us ms (.join x z))) := ej
    have e0 : rIx (toldV "size" "none" us ms (.join x z)) (.int 0) = some (.fz (stV "size" "none" (tU us ms (x, z)) (tM us ms (x, z)))) := rfl
    rw [S.lu] at el ⊢
    simp only [q_F__law_times_b2, EE, Nat.reduceAdd, Nat.reduceSub, Nat.reduceLeDiff, Nat.reduceLT, Nat.reduceEqDiff, Int.reduceLT, Int.reduceLE, Int.reduceAdd, Int.reduceSub, Int.reduceMul, Int.reduceMod, Int.reduceDiv, Int.reduceNeg, Int.reduceToNat, Int.reducePow, Int.reduceEq, ej, e0, K1 (show n ≤ 100000 by omega), el]
theorem t_lnew {n : Nat} (h1 : 1 ≤ n) (h2 : n ≤ 40) : F__law_new [.int n, .str "size", .str "none"] = some (.v (stV "size" "none" (List.range n) (List.replicate n (mk0 "size")))) := by
  have er : kTupR [.rng 0 n] = some (.fz (.tup (nums (List.range n)))) := by rw [x_tupR, if_pos ⟨rfl, by omega, by omega⟩, Int.toNat_natCast, ups0]
  have ek := (K1 (show n ≤ 100000 by omega)).2.1
  have m1 : rMul (.tup [.int 1]) (.int n) = _ := mulT (a := 1) h1 (show n ≤ 1000 by omega)
  unfold stV
  simp only [q_F__law_new, q_F__law_new_s, EE, Nat.reduceAdd, Nat.reduceSub, Nat.reduceLeDiff, Nat.reduceLT, Nat.reduceEqDiff, Int.reduceLT, Int.reduceLE, Int.reduceAdd, Int.reduceSub, Int.reduceMul, Int.reduceMod, Int.reduceDiv, Int.reduceNeg, Int.reduceToNat, Int.reducePow, Int.reduceEq, ek, er, m1]
  rfl
theorem t_lt {n : Nat} (h1 : 1 ≤ n) (h2 : n ≤ 40) {row : List (Nat × Nat)} (hr : ∀ p ∈ row, p.1 < n ∧ p.2 < n) : F__law_times [.int n, .tup (prV row)] = some (.v (.tup [.tup (nums (rU n row)), .tup (tsV (rW n row))])) := by
  obtain ⟨w4, w5, w6, w7, w8, e⟩ := lt_loop h2 (s1 := some (.val (.tup (prV row)))) row 0 _ _ (List.replicate n none) none none none none none (sto0 h1 h2) List.length_replicate hr
  unfold rU rW
  simp only [q_F__law_times, q_F__law_times_s, EE, Nat.reduceAdd, Nat.reduceSub, Nat.reduceLeDiff, Nat.reduceLT, Nat.reduceEqDiff, Int.reduceLT, Int.reduceLE, Int.reduceAdd, Int.reduceSub, Int.reduceMul, Int.reduceMod, Int.reduceDiv, Int.reduceNeg, Int.reduceToNat, Int.reducePow, Int.reduceEq, t_lnew h1 h2, mulN (show n ≤ 1000 by omega), x_enumT, x_enumT_s, e, st2]
theorem t_times {a : Addr} {n : Nat} (h1 : 1 ≤ n) (h2 : n ≤ 40) {row : List (Nat × Nat)} (hr : ∀ p ∈ row, p.1 < n ∧ p.2 < n) : F_times_of a [.int n, .tup (prV row)] = some (.v (.tup [.tup (nums (rU n row)), .tup (tsV (rW n row))])) := by
  simp only [q_F_times_of, q_F_times_of_s, EE, Nat.reduceAdd, Nat.reduceSub, Nat.reduceLeDiff, Nat.reduceLT, Nat.reduceEqDiff, Int.reduceLT, Int.reduceLE, Int.reduceAdd, Int.reduceSub, Int.reduceMul, Int.reduceMod, Int.reduceDiv, Int.reduceNeg, Int.reduceToNat, Int.reducePow, Int.reduceEq, t_cmr h1 h2 hr, t_ft h1 h2 hr]
theorem t_drawn (ns : List Int) {at' : Nat} (hat : at' ≤ 500) : ∃ (n : Nat) (row : List (Nat × Nat)), 1 ≤ n ∧ n ≤ 40 ∧ (∀ p ∈ row, p.1 < n ∧ p.2 < n) ∧ row.length ≤ 60 ∧ F__law_drawn [.src (iL ns), .int at'] = some (.v (.tup [.int n, .tup (prV row)])) := by
  obtain ⟨c, ec⟩ := t_cell ns ((40 : Int) + (at' : Int) / 13) (by omega) (by omega)
  obtain ⟨hs, hh, eh⟩ := t_numbers c 4 (by decide) (by decide)
  have hh : hs.length = 4 := hh
  have i0 : L2.atI (nums hs) 0 = some (.int (up hs 0 : Nat)) := atI_nums (x := 0) (by omega)
  have i1 : L2.atI (nums hs) 1 = some (.int (up hs 1 : Nat)) := atI_nums (x := 1) (by omega)
  obtain ⟨n, n1, n2, en⟩ := t_lmany (up hs 0)
  by_cases q : (up hs 1 : Int) % 4 = 1
  · obtain ⟨row, r1, r2, er⟩ := t_ljoins ns (at' := at') (n := n) (m := 60) n1 n2 hat (by decide)
    have er : F__law_joins [.src (iL ns), .int at', .int n, .int 60] = _ := er
    have a1 : L2.atI [PV.int 12, .int 60] 1 = some (.int 60) := rfl
    exact ⟨n, row, n1, n2, r1, r2, by simp only [q_F__law_drawn, q_F__law_drawn_s, EE, Nat.reduceAdd, Nat.reduceSub, Nat.reduceLeDiff, Nat.reduceLT, Nat.reduceEqDiff, Int.reduceLT, Int.reduceLE, Int.reduceAdd, Int.reduceSub, Int.reduceMul, Int.reduceMod, Int.reduceDiv, Int.reduceNeg, Int.reduceToNat, Int.reducePow, Int.reduceEq, ec, eh, i0, i1, en, decide_eq_true q, a1, er]⟩
  · obtain ⟨row, r1, r2, er⟩ := t_ljoins ns (at' := at') (n := n) (m := 12) n1 n2 hat (by decide)
    have er : F__law_joins [.src (iL ns), .int at', .int n, .int 12] = _ := er
    have a1 : L2.atI [PV.int 12, .int 60] 0 = some (.int 12) := rfl
    exact ⟨n, row, n1, n2, r1, by omega, by simp only [q_F__law_drawn, q_F__law_drawn_s, EE, Nat.reduceAdd, Nat.reduceSub, Nat.reduceLeDiff, Nat.reduceLT, Nat.reduceEqDiff, Int.reduceLT, Int.reduceLE, Int.reduceAdd, Int.reduceSub, Int.reduceMul, Int.reduceMod, Int.reduceDiv, Int.reduceNeg, Int.reduceToNat, Int.reducePow, Int.reduceEq, ec, eh, i0, i1, en, decide_eq_false q, a1, er]⟩
noncomputable def tat (ts : List (Option Nat)) (x : Nat) : Option Nat := (ts[x]?).join
structure Tin (k : Nat) (us : List Nat) (ts : List (Option Nat)) : Prop where
  hd : ∀ x, x < us.length → (up us x = x ↔ tat ts x = none)
  lt : ∀ x t, tat ts x = some t → t < k
  le : ∀ x, x < us.length → up us x ≠ x → ∀ t', tat ts (up us x) = some t' → ∃ t, tat ts x = some t ∧ t < t'
theorem tat_set {ts : List (Option Nat)} {u k x : Nat} (hu : u < ts.length) : tat (ts.set u (some k)) x = if x = u then some k else tat ts x := by
  unfold tat
  rw [List.getElem?_set]
  by_cases h : u = x
  · subst h; rw [if_pos rfl, if_pos hu, if_pos rfl]; rfl
  · rw [if_neg h, if_neg fun z => h z.symm]
theorem tmF_same {k : Nat} {us : List Nat} : ∀ (ks : List Nat) (ts : List (Option Nat)), tmF k us us ks ts = ts
  | [], _ => rfl
  | q :: ks, ts => by
    show tmF k us us ks (tm1 k us us ts q) = ts
    rw [show tm1 k us us ts q = ts from if_pos rfl, tmF_same ks]
theorem tmF_at {k : Nat} {us us' : List Nat} : ∀ (ks : List Nat) (ts : List (Option Nat)) (x : Nat), (∀ q ∈ ks, q < ts.length) → tat (tmF k us us' ks ts) x = if x ∈ ks ∧ up us' x ≠ up us x then some k else tat ts x
  | [], ts, x, _ => by rw [if_neg fun h => by cases h.1]; rfl
  | q :: ks, ts, x, h => by
    show tat (tmF k us us' ks (tm1 k us us' ts q)) x = _
    rw [tmF_at ks _ x fun r hr => by rw [tm1_len]; exact h r (List.mem_cons_of_mem _ hr)]
    have hq := h q List.mem_cons_self
    have e1 : tat (tm1 k us us' ts q) x = if x = q ∧ up us' q ≠ up us q then some k else tat ts x := by
      unfold tm1
      by_cases e : up us' q = up us q
      · rw [if_pos e, if_neg fun z => z.2 e]
      · rw [if_neg e, tat_set hq]
        by_cases e2 : x = q
        · rw [if_pos e2, if_pos ⟨e2, e⟩]
        · rw [if_neg e2, if_neg fun z => e2 z.1]
    rw [e1]
    by_cases a : x ∈ ks ∧ up us' x ≠ up us x
    · rw [if_pos a, if_pos ⟨List.mem_cons_of_mem _ a.1, a.2⟩]
    · rw [if_neg a]
      by_cases b : x = q ∧ up us' q ≠ up us q
      · rw [if_pos b, if_pos ⟨by rw [b.1]; exact List.mem_cons_self, by rw [b.1]; exact b.2⟩]
      · rw [if_neg b, if_neg fun z => ?_]
        rcases List.mem_cons.mp z.1 with e | e
        · exact b ⟨e, by rw [← e]; exact z.2⟩
        · exact a ⟨e, z.2⟩
theorem beh_none (us : List Nat) (x : Nat) : beh "none" us x = us := (eq_beh rfl fun t ht => by simp only [newUp, n7, n8, n9, n10, if_false]).symm
theorem tU_is {us ms : List Nat} {p : Nat × Nat} : tU us ms p = if hd us p.1 = hd us p.2 then us else lkU "size" us ms (hd us p.1) (hd us p.2) := by
  show (if hd us p.1 = hd us p.2 then beh "none" (beh "none" us p.1) p.2 else lkU "size" (beh "none" (beh "none" us p.1) p.2) ms _ _) = _
  rw [beh_none, beh_none]
theorem tin_step {n k : Nat} {us ms : List Nat} {ts : List (Option Nat)} (S : Sto n us ms) (ht : ts.length = n) {p : Nat × Nat} (h : p.1 < n ∧ p.2 < n) (T : Tin k us ts) : Tin (k + 1) (tU us ms p) (tmF k us (tU us ms p) (List.range us.length) ts) := by
  rw [tU_is]
  by_cases e : hd us p.1 = hd us p.2
  · rw [if_pos e, tmF_same]
    exact ⟨T.hd, fun x t q => Nat.lt_succ_of_lt (T.lt x t q), T.le⟩
  · rw [if_neg e]
    obtain ⟨f, lu, lm⟩ := S
    have hx : p.1 < us.length := by omega
    have hz : p.2 < us.length := by omega
    have main : ∀ u v, u < us.length → v < us.length → up us u = u → up us v = v → v ≠ u → Tin (k + 1) (us.set u v) (tmF k us (us.set u v) (List.range us.length) ts) := fun u v hu hv eu ev ne => by
      have at' : ∀ x, tat (tmF k us (us.set u v) (List.range us.length) ts) x = if x = u then some k else tat ts x := fun x => by
        rw [tmF_at _ _ _ fun q hq => by have := List.mem_range.mp hq; omega, up_set hu]
        by_cases q : x = u
        · rw [if_pos q, if_pos q, if_pos ⟨by rw [q]; exact List.mem_range.mpr hu, by rw [q, eu]; exact ne⟩]
        · rw [if_neg q, if_neg q, if_neg fun z => z.2 rfl]
      refine ⟨fun x hx => ?_, fun x t => ?_, fun x hx => ?_⟩
      · rw [List.length_set] at hx
        rw [at', up_set hu]
        by_cases q : x = u
        · rw [if_pos q, if_pos q, q]; exact ⟨fun z => absurd z ne, fun z => by cases z⟩
        · rw [if_neg q, if_neg q]; exact T.hd x hx
      · rw [at']
        split
        · intro z; cases z; exact Nat.lt_succ_self _
        · intro z; exact Nat.lt_succ_of_lt (T.lt x t z)
      · rw [List.length_set] at hx
        rw [up_set hu]
        by_cases q : x = u
        · rw [if_pos q]
          intro _ t' z
          rw [at', if_neg ne, (T.hd v hv).mp ev] at z
          cases z
        · rw [if_neg q]
          intro hn t' z
          rw [at'] at z
          rw [at', if_neg q]
          by_cases w : up us x = u
          · rw [if_pos w] at z
            cases z
            cases c : tat ts x with
            | none => exact absurd ((T.hd x hx).mpr c) hn
            | some t => exact ⟨t, rfl, T.lt x t c⟩
          · rw [if_neg w] at z
            exact T.le x hx hn t' z
    have a1 := hd_lt f.fst hx
    have a2 := hd_lt f.fst hz
    have b1 := hd_is f.fst hx
    have b2 := hd_is f.fst hz
    unfold lkU tp un
    cases stay "size" ms (hd us p.1) (hd us p.2) with
    | true => exact main _ _ a2 a1 b2 b1 e
    | false => exact main _ _ a1 a2 b1 b2 fun z => e z.symm
theorem tin_row {n : Nat} : ∀ (row : List (Nat × Nat)) (k : Nat) (us ms : List Nat) (ts : List (Option Nat)), Sto n us ms → ts.length = n → (∀ p ∈ row, p.1 < n ∧ p.2 < n) → Tin k us ts → Tin (k + row.length) (rT row k us ms ts).1 (rT row k us ms ts).2.2
  | [], _, _, _, _, _, _, _, T => T
  | p :: r, k, us, ms, ts, S, ht, hr, T => by
    have := tin_row r (k + 1) _ _ (tmF k us (tU us ms p) (List.range us.length) ts) (sto_t S (hr p List.mem_cons_self)) (by rw [tmF_len]; exact ht) (fun q hq => hr q (List.mem_cons_of_mem _ hq)) (tin_step S ht (hr p List.mem_cons_self) T)
    rw [List.length_cons, show k + (r.length + 1) = k + 1 + r.length by omega]
    exact this
theorem tin0 (n : Nat) : Tin 0 (List.range n) (List.replicate n none) := by
  have t0 : ∀ x, tat (List.replicate n none) x = none := fun x => by
    unfold tat
    rw [List.getElem?_replicate]
    split <;> rfl
  have u : ∀ x, x < n → up (List.range n) x = x := fun x hx => by unfold up; rw [List.getD_eq_getElem?_getD, List.getElem?_range hx]; rfl
  refine ⟨fun x hx => ⟨fun _ => t0 x, fun _ => u x (by rwa [List.length_range] at hx)⟩, fun x t z => (by rw [t0] at z; cases z), fun x hx hn => absurd (u x (by rwa [List.length_range] at hx)) hn⟩
theorem times_ok {n : Nat} (h1 : 1 ≤ n) (h2 : n ≤ 40) {row : List (Nat × Nat)} (hr : ∀ p ∈ row, p.1 < n ∧ p.2 < n) : Tin row.length (rU n row) (rW n row) ∧ Frst (rU n row) ∧ (rU n row).length = n ∧ (rW n row).length = n := by
  obtain ⟨S, l⟩ := rT_sto row 0 _ _ (List.replicate n none) (sto0 h1 h2) List.length_replicate hr
  have T := tin_row row 0 _ _ _ (sto0 h1 h2) List.length_replicate hr (tin0 n)
  rw [Nat.zero_add] at T
  exact ⟨T, S.f, S.lu, l⟩
end Dp
end
section
namespace K30
open PySem L2 Fo Pu Dp
noncomputable def L__law_right_e1 (a_is_pair : Addr) : FE := (fB kIs (fCons (fV 0) (fCons (fC (.ty "tuple")) fNil)))
theorem q_L__law_right_e1 {a_is_pair : Addr} {ρ : PSt} : (L__law_right_e1 a_is_pair) ρ = (fB kIs (fCons (fV 0) (fCons (fC (.ty "tuple")) fNil))) ρ := Eq.trans rfl rfl
noncomputable def L__law_right_e2 (a_is_pair : Addr) : FE := (fB kIs (fCons (fV 0) (fCons (fC (.ty "bool")) fNil)))
theorem q_L__law_right_e2 {a_is_pair : Addr} {ρ : PSt} : (L__law_right_e2 a_is_pair) ρ = (fB kIs (fCons (fV 0) (fCons (fC (.ty "bool")) fNil))) ρ := Eq.trans rfl rfl
noncomputable def L__law_right_b3 (a_is_pair : Addr) : FS := (sSeq (sSet 7 (fOp rIx (fV 4) (fV 6)))
    (sIf (fOrB (fT (fOp rNe (fOp rEq (fV 7) (fV 6)) (fOp rIs (fOp rIx (fV 5) (fV 6)) (fC .non)))) (fAndB (fT (fOp rNe (fV 7) (fV 6))) (fAndB (fT (fOp rIsNot (fOp rIx (fV 5) (fV 7)) (fC .non))) (fT (fOp rLe (fOp rIx (fV 5) (fV 7)) (fOp rIx (fV 5) (fV 6))))))) (sRet (fC (.bl false))) sSkip))
theorem q_L__law_right_b3 {a_is_pair : Addr} {ρ : PSt} : (L__law_right_b3 a_is_pair) ρ = (sSeq (sSet 7 (fOp rIx (fV 4) (fV 6)))
    (sIf (fOrB (fT (fOp rNe (fOp rEq (fV 7) (fV 6)) (fOp rIs (fOp rIx (fV 5) (fV 6)) (fC .non)))) (fAndB (fT (fOp rNe (fV 7) (fV 6))) (fAndB (fT (fOp rIsNot (fOp rIx (fV 5) (fV 7)) (fC .non))) (fT (fOp rLe (fOp rIx (fV 5) (fV 7)) (fOp rIx (fV 5) (fV 6))))))) (sRet (fC (.bl false))) sSkip)) ρ := Eq.trans rfl rfl
noncomputable def L__law_right_s (a_is_pair : Addr) : FS := (sSeq (sSet 2 (fCall F__law_times (fCons (fV 0) (fCons (fV 1) fNil))))
    (sSeq (sSet 3 (fCall (F_times_of a_is_pair) (fCons (fV 0) (fCons (fV 1) fNil))))
    (sSeq (sIf (fOrB (fNotB (fT (fB kIs (fCons (fV 3) (fCons (fC (.ty "tuple")) fNil))))) (fOrB (fT (fOp rNe (fV 3) (fV 2))) (fNotB (fT (fB kAll (fCons (fComp [none] (fIt (fV 3)) (gN 0) fYes (L__law_right_e1 a_is_pair)) fNil)))))) (sRet (fC (.bl false))) sSkip)
    (sSeq (sIf (fT (fB kAny (fCons (fComp [none] (fIt (fOp rAdd (fOp rIx (fV 3) (fC (.int 0))) (fOp rIx (fV 3) (fC (.int 1))))) (gN 0) fYes (L__law_right_e2 a_is_pair)) fNil))) (sRet (fC (.bl false))) sSkip)
    (sSeq (sAsg (fV 3) (gTn 2 (gC (gN 4) (gC (gN 5) g0))))
    (sSeq (sFor (fRng rng1 (fCons (fV 0) fNil)) (gN 6) (L__law_right_b3 a_is_pair))
    (sRet (fOp rEq (fCall (F_times_of a_is_pair) (fCons (fV 0) (fCons (fV 1) fNil))) (fV 2)))))))))
theorem q_L__law_right_s {a_is_pair : Addr} {ρ : PSt} : (L__law_right_s a_is_pair) ρ = (sSeq (sSet 2 (fCall F__law_times (fCons (fV 0) (fCons (fV 1) fNil))))
    (sSeq (sSet 3 (fCall (F_times_of a_is_pair) (fCons (fV 0) (fCons (fV 1) fNil))))
    (sSeq (sIf (fOrB (fNotB (fT (fB kIs (fCons (fV 3) (fCons (fC (.ty "tuple")) fNil))))) (fOrB (fT (fOp rNe (fV 3) (fV 2))) (fNotB (fT (fB kAll (fCons (fComp [none] (fIt (fV 3)) (gN 0) fYes (L__law_right_e1 a_is_pair)) fNil)))))) (sRet (fC (.bl false))) sSkip)
    (sSeq (sIf (fT (fB kAny (fCons (fComp [none] (fIt (fOp rAdd (fOp rIx (fV 3) (fC (.int 0))) (fOp rIx (fV 3) (fC (.int 1))))) (gN 0) fYes (L__law_right_e2 a_is_pair)) fNil))) (sRet (fC (.bl false))) sSkip)
    (sSeq (sAsg (fV 3) (gTn 2 (gC (gN 4) (gC (gN 5) g0))))
    (sSeq (sFor (fRng rng1 (fCons (fV 0) fNil)) (gN 6) (L__law_right_b3 a_is_pair))
    (sRet (fOp rEq (fCall (F_times_of a_is_pair) (fCons (fV 0) (fCons (fV 1) fNil))) (fV 2))))))))) ρ := Eq.trans rfl rfl
noncomputable def L__law_right (a_is_pair : Addr) : List PV → Option PR := run 2 8 (L__law_right_s a_is_pair)
theorem q_L__law_right {a_is_pair : Addr} {a0 a1 : PV} : (L__law_right a_is_pair) [a0, a1] = ((L__law_right_s a_is_pair) [some (.val a0), some (.val a1), none, none, none, none, none, none]).res := Eq.trans rfl rfl
noncomputable def L_law_b1 (a_is_pair : Addr) : FS := (sSeq (sAsg (fCall F__law_drawn (fCons (fV 0) (fCons (fV 1) fNil))) (gTn 2 (gC (gN 2) (gC (gN 3) g0))))
    (sIf (fNotB (fT (fCall (L__law_right a_is_pair) (fCons (fV 2) (fCons (fV 3) fNil))))) (sRet (fC (.bl false))) sSkip))
theorem q_L_law_b1 {a_is_pair : Addr} {ρ : PSt} : (L_law_b1 a_is_pair) ρ = (sSeq (sAsg (fCall F__law_drawn (fCons (fV 0) (fCons (fV 1) fNil))) (gTn 2 (gC (gN 2) (gC (gN 3) g0))))
    (sIf (fNotB (fT (fCall (L__law_right a_is_pair) (fCons (fV 2) (fCons (fV 3) fNil))))) (sRet (fC (.bl false))) sSkip)) ρ := Eq.trans rfl rfl
noncomputable def L_law_s (a_is_pair : Addr) : FS := (sSeq (sFor (fIt (fLst (fCons (fC (.int 0)) (fCons (fC (.int 13)) (fCons (fC (.int 26)) fNil))))) (gN 1) (L_law_b1 a_is_pair))
    (sRet (fC (.bl true))))
theorem q_L_law_s {a_is_pair : Addr} {ρ : PSt} : (L_law_s a_is_pair) ρ = (sSeq (sFor (fIt (fLst (fCons (fC (.int 0)) (fCons (fC (.int 13)) (fCons (fC (.int 26)) fNil))))) (gN 1) (L_law_b1 a_is_pair))
    (sRet (fC (.bl true)))) ρ := Eq.trans rfl rfl
noncomputable def L_law (a_is_pair : Addr) : List PV → Option PR := run 1 4 (L_law_s a_is_pair)
theorem q_L_law {a_is_pair : Addr} {a0 : PV} : (L_law a_is_pair) [a0] = ((L_law_s a_is_pair) [some (.val a0), none, none, none]).res := Eq.trans rfl rfl
end K30
end
section
namespace K30
open PySem L2 Fo Pu Dp
theorem opV_plain (o : Option Nat) : Pu.plain (opV o) = true ∧ dep (opV o) = 0 := by
  cases o <;> simp [opV, Pu.plain, dep]
theorem plains_tsV : ∀ ts : List (Option Nat), plains (tsV ts) = true
  | [] => by show plains [] = true; rw [plains]
  | t :: ts => by
    show plains (opV t :: tsV ts) = true
    rw [plains, plains_tsV ts, (opV_plain t).1]; rfl
theorem deps_tsV : ∀ ts : List (Option Nat), deps (tsV ts) = 0
  | [] => by show deps [] = 0; rw [deps]
  | t :: ts => by
    show deps (opV t :: tsV ts) = 0
    rw [deps, deps_tsV ts, (opV_plain t).2]; rfl
noncomputable def tV (us : List Nat) (ts : List (Option Nat)) : PV := .tup [.tup (nums us), .tup (tsV ts)]
theorem tV_plain (us : List Nat) (ts : List (Option Nat)) : Pu.plain (tV us ts) = true ∧ dep (tV us ts) ≤ 5 := by
  unfold tV
  simp [Pu.plain, plains, plains_nums, plains_tsV, dep, deps, deps_nums, deps_tsV]
theorem at_ts {ts : List (Option Nat)} {x : Nat} (hx : x < ts.length) : L2.atI (tsV ts) (x : Int) = some (opV (tat ts x)) := by
  refine L2.atI_nat ?_
  unfold tsV tat
  rw [List.getElem?_map, List.getElem?_eq_getElem hx]; rfl
variable {a : Addr}
theorem b_loop {n k : Nat} {us : List Nat} {ts : List (Option Nat)} (f : Frst us) (lu : us.length = n) (lt : ts.length = n) (T : Tin k us ts) {s0 s1 s2 s3 : Option Sl} : ∀ (xs : List Nat) (z6 z7 : Option Sl), (∀ x ∈ xs, x < n) →
    ∃ w6 w7, loopF (gN 6) (L__law_right_b3 a) (nums xs) [s0, s1, s2, s3, some (.val (.tup (nums us))), some (.val (.tup (tsV ts))), z6, z7] = .nx [s0, s1, s2, s3, some (.val (.tup (nums us))), some (.val (.tup (tsV ts))), w6, w7]
  | [], z6, z7, _ => ⟨z6, z7, rfl⟩
  | x :: xs, z6, z7, h => by
    have hx : x < us.length := by rw [lu]; exact h x List.mem_cons_self
    have hu := f.fst.bnd x hx
    obtain ⟨w6, w7, e⟩ := b_loop f lu lt T (s0 := s0) (s1 := s1) (s2 := s2) (s3 := s3) xs (some (.val (.int x))) (some (.val (.int (up us x : Nat)))) fun q hq => h q (List.mem_cons_of_mem _ hq)
    refine ⟨w6, w7, ?_⟩
    rw [← e, nums_cons, loop_S]
    have d : decide ((up us x : Int) = (x : Int)) = decide (up us x = x) := decide_eq_decide.mpr (by omega)
    have bt : (true == true) = true := rfl
    have bf : (false == false) = true := rfl
    by_cases q : up us x = x
    · have t0 := (T.hd x hx).mp q
      have e1 := at_ts (ts := ts) (x := x) (by omega)
      rw [t0] at e1
      have e1 : L2.atI (tsV ts) (x : Int) = some .non := e1
      have dq : decide ((x : Int) = (x : Int)) = true := decide_eq_true rfl
      simp only [q_L__law_right_b3, EE, Nat.reduceAdd, Nat.reduceSub, Nat.reduceLeDiff, Nat.reduceLT, Nat.reduceEqDiff, Int.reduceLT, Int.reduceLE, Int.reduceAdd, Int.reduceSub, Int.reduceMul, Int.reduceMod, Int.reduceDiv, Int.reduceNeg, Int.reduceToNat, Int.reducePow, Int.reduceEq, atI_nums hx, q, dq, e1, bt]
    · obtain ⟨t, et⟩ : ∃ t, tat ts x = some t := by
        cases c : tat ts x with
        | none => exact absurd ((T.hd x hx).mpr c) q
        | some t => exact ⟨t, rfl⟩
      have e1 := at_ts (ts := ts) (x := x) (by omega)
      rw [et] at e1
      have e1 : L2.atI (tsV ts) (x : Int) = some (.int (t : Int)) := e1
      have e2 := at_ts (ts := ts) (x := up us x) (by omega)
      cases c : tat ts (up us x) with
      | none =>
        rw [c] at e2
        have e2 : L2.atI (tsV ts) (up us x : Int) = some .non := e2
        simp only [q_L__law_right_b3, EE, Nat.reduceAdd, Nat.reduceSub, Nat.reduceLeDiff, Nat.reduceLT, Nat.reduceEqDiff, Int.reduceLT, Int.reduceLE, Int.reduceAdd, Int.reduceSub, Int.reduceMul, Int.reduceMod, Int.reduceDiv, Int.reduceNeg, Int.reduceToNat, Int.reducePow, Int.reduceEq, atI_nums hx, d, decide_eq_false q, e1, e2, bf]
      | some t' =>
        rw [c] at e2
        have e2 : L2.atI (tsV ts) (up us x : Int) = some (.int (t' : Int)) := e2
        obtain ⟨t2, h1, h2⟩ := T.le x hx q t' c
        rw [et] at h1
        cases h1
        have dl : decide ((t' : Int) ≤ (t : Int)) = false := decide_eq_false (by omega)
        simp only [q_L__law_right_b3, EE, Nat.reduceAdd, Nat.reduceSub, Nat.reduceLeDiff, Nat.reduceLT, Nat.reduceEqDiff, Int.reduceLT, Int.reduceLE, Int.reduceAdd, Int.reduceSub, Int.reduceMul, Int.reduceMod, Int.reduceDiv, Int.reduceNeg, Int.reduceToNat, Int.reducePow, Int.reduceEq, atI_nums hx, d, decide_eq_false q, e1, e2, bf, dl]
theorem t_right {n : Nat} (h1 : 1 ≤ n) (h2 : n ≤ 40) {row : List (Nat × Nat)} (hr : ∀ p ∈ row, p.1 < n ∧ p.2 < n) : L__law_right a [.int n, .tup (prV row)] = some (.v (.bl true)) := by
  obtain ⟨T, f, lu, lt⟩ := times_ok h1 h2 hr
  have e1 := t_lt h1 h2 hr
  have e2 := t_times (a := a) h1 h2 hr
  generalize rU n row = us at *
  generalize rW n row = ts at *
  have e1 : F__law_times [.int n, .tup (prV row)] = some (.v (tV us ts)) := e1
  have e2 : F_times_of a [.int n, .tup (prV row)] = some (.v (tV us ts)) := e2
  obtain ⟨p1, p2⟩ := tV_plain us ts
  have dd : decide (dep (tV us ts) ≤ 50) = true := decide_eq_true (by omega)
  have pe := peq_self p1
  have k1 : kIs [tV us ts, .ty "tuple"] = some (.fz (.bl true)) := rfl
  have k2 : items (tV us ts) = some [.tup (nums us), .tup (tsV ts)] := rfl
  have i0 : rIx (tV us ts) (.int 0) = some (.fz (.tup (nums us))) := rfl
  have i1 : rIx (tV us ts) (.int 1) = some (.fz (.tup (tsV ts))) := rfl
  have g1 : goF (gN 0) fYes (L__law_right_e1 a) [none] [.tup (nums us), .tup (tsV ts)] = some [.bl true, .bl true] := go_map (fun _ => .bl true) (its := [.tup (nums us), .tup (tsV ts)]) fun p hp => by
    obtain ⟨l, rfl⟩ : ∃ l, p = .tup l := by
      rcases List.mem_cons.mp hp with rfl | hp
      · exact ⟨_, rfl⟩
      · rw [List.mem_singleton.mp hp]; exact ⟨_, rfl⟩
    simp only [q_L__law_right_e1, EE, Nat.reduceAdd, Nat.reduceSub, Nat.reduceLeDiff, Nat.reduceLT, Nat.reduceEqDiff, Int.reduceLT, Int.reduceLE, Int.reduceAdd, Int.reduceSub, Int.reduceMul, Int.reduceMod, Int.reduceDiv, Int.reduceNeg, Int.reduceToNat, Int.reducePow, Int.reduceEq]
  have b1 : bls [PV.bl true, .bl true] = some [true, true] := rfl
  have b2 : [true, true].all id = true := rfl
  have ne : (nums us).isEmpty = false := by
    cases us with
    | nil => simp at lu; omega
    | cons => rfl
  have l1 : us.length + (tsV ts).length ≤ 100000 := by rw [tsV_len]; omega
  have l2 : (nums us ++ tsV ts).length < 1000 := by
    rw [List.length_append, tsV_len, show (nums us).length = us.length from List.length_map ..]; omega
  have g2 : goF (gN 0) fYes (L__law_right_e2 a) [none] (nums us ++ tsV ts) = some ((nums us ++ tsV ts).map fun _ => PV.bl false) := go_map _ fun p hp => by
    rcases List.mem_append.mp hp with hp | hp
    · obtain ⟨u, _, rfl⟩ := mem_nums hp
      simp only [q_L__law_right_e2, EE, Nat.reduceAdd, Nat.reduceSub, Nat.reduceLeDiff, Nat.reduceLT, Nat.reduceEqDiff, Int.reduceLT, Int.reduceLE, Int.reduceAdd, Int.reduceSub, Int.reduceMul, Int.reduceMod, Int.reduceDiv, Int.reduceNeg, Int.reduceToNat, Int.reducePow, Int.reduceEq]
    · obtain ⟨o, _, rfl⟩ := List.mem_map.mp hp
      cases o with
      | none => exact (show ((gN 0 PV.non [none]).bind fun ρ2 => ((L__law_right_e2 a) ρ2).bind RV.fr) = some (PV.bl false) by simp only [q_L__law_right_e2, EE, Nat.reduceAdd, Nat.reduceSub, Nat.reduceLeDiff, Nat.reduceLT, Nat.reduceEqDiff, Int.reduceLT, Int.reduceLE, Int.reduceAdd, Int.reduceSub, Int.reduceMul, Int.reduceMod, Int.reduceDiv, Int.reduceNeg, Int.reduceToNat, Int.reducePow, Int.reduceEq])
      | some t => exact (show ((gN 0 (PV.int (t : Int)) [none]).bind fun ρ2 => ((L__law_right_e2 a) ρ2).bind RV.fr) = some (PV.bl false) by simp only [q_L__law_right_e2, EE, Nat.reduceAdd, Nat.reduceSub, Nat.reduceLeDiff, Nat.reduceLT, Nat.reduceEqDiff, Int.reduceLT, Int.reduceLE, Int.reduceAdd, Int.reduceSub, Int.reduceMul, Int.reduceMod, Int.reduceDiv, Int.reduceNeg, Int.reduceToNat, Int.reducePow, Int.reduceEq])
  have b3 : bls ((nums us ++ tsV ts).map fun _ => PV.bl false) = some ((nums us ++ tsV ts).map fun _ => false) := bls_b (fun _ => false) _
  have b4 : ((nums us ++ tsV ts).map fun _ => false).any id = false := by
    rw [List.any_map]; simp
  obtain ⟨w6, w7, el⟩ := b_loop (a := a) f lu lt T (s0 := some (.val (.int n))) (s1 := some (.val (.tup (prV row)))) (s2 := some (.val (tV us ts))) (s3 := some (.val (tV us ts))) (List.range n) none none fun x hx => List.mem_range.mp hx
  have ga : gTn 2 (gC (gN 4) (gC (gN 5) g0)) (tV us ts) [some (.val (.int n)), some (.val (.tup (prV row))), some (.val (tV us ts)), some (.val (tV us ts)), none, none, none, none] = some [some (.val (.int n)), some (.val (.tup (prV row))), some (.val (tV us ts)), some (.val (tV us ts)), some (.val (.tup (nums us))), some (.val (.tup (tsV ts))), none, none] := rfl
  simp only [q_L__law_right, q_L__law_right_s, EE, Nat.reduceAdd, Nat.reduceSub, Nat.reduceLeDiff, Nat.reduceLT, Nat.reduceEqDiff, Int.reduceLT, Int.reduceLE, Int.reduceAdd, Int.reduceSub, Int.reduceMul, Int.reduceMod, Int.reduceDiv, Int.reduceNeg, Int.reduceToNat, Int.reducePow, Int.reduceEq, e1, e2, k1, k2, p1, dd, pe, g1, b1, b2, i0, i1, ne, l1, l2, and_self, g2, b3, b4, ga, K1 (show n ≤ 100000 by omega), el]
theorem law_true : ∀ ns : List Int, ns.length ≤ 63 → run 1 4 (L_law_s a) [.src (ns.map PV.int)] = some (.v (.bl true)) := fun ns hn => by
  have step : ∀ (q : Nat) (z2 z3 : Option Sl), q ≤ 26 → ∃ w2 w3, L_law_b1 a [some (.val (.src (iL ns))), some (.val (.int q)), z2, z3] = .nx [some (.val (.src (iL ns))), some (.val (.int q)), w2, w3] := fun q z2 z3 hq => by
    obtain ⟨n, row, n1, n2, hr, _, ed⟩ := t_drawn ns (at' := q) (by omega)
    exact ⟨some (.val (.int n)), some (.val (.tup (prV row))), by simp only [q_L_law_b1, EE, Nat.reduceAdd, Nat.reduceSub, Nat.reduceLeDiff, Nat.reduceLT, Nat.reduceEqDiff, Int.reduceLT, Int.reduceLE, Int.reduceAdd, Int.reduceSub, Int.reduceMul, Int.reduceMod, Int.reduceDiv, Int.reduceNeg, Int.reduceToNat, Int.reducePow, Int.reduceEq, ed, t_right n1 n2 hr]⟩
  have loop : ∀ (qs : List Nat) (z1 z2 z3 : Option Sl), (∀ q ∈ qs, q ≤ 26) → ∃ w1 w2 w3, loopF (gN 1) (L_law_b1 a) (nums qs) [some (.val (.src (iL ns))), z1, z2, z3] = .nx [some (.val (.src (iL ns))), w1, w2, w3] := fun qs => by
    induction qs with
    | nil => intro z1 z2 z3 _; exact ⟨z1, z2, z3, rfl⟩
    | cons q qs ih =>
      intro z1 z2 z3 h
      obtain ⟨v2, v3, e1⟩ := step q z2 z3 (h q List.mem_cons_self)
      obtain ⟨w1, w2, w3, e⟩ := ih (some (.val (.int q))) v2 v3 fun r hr => h r (List.mem_cons_of_mem _ hr)
      refine ⟨w1, w2, w3, ?_⟩
      rw [← e, nums_cons, loop_S]
      simp only [EE, Nat.reduceAdd, Nat.reduceSub, Nat.reduceLeDiff, Nat.reduceLT, Nat.reduceEqDiff, Int.reduceLT, Int.reduceLE, Int.reduceAdd, Int.reduceSub, Int.reduceMul, Int.reduceMod, Int.reduceDiv, Int.reduceNeg, Int.reduceToNat, Int.reducePow, Int.reduceEq, e1]
  obtain ⟨w1, w2, w3, e⟩ := loop [0, 13, 26] none none none (by decide)
  have e : loopF (gN 1) (L_law_b1 a) [.int 0, .int 13, .int 26] [some (.val (.src (ns.map PV.int))), none, none, none] = _ := e
  show L_law a [.src (ns.map PV.int)] = _
  simp only [q_L_law, q_L_law_s, EE, Nat.reduceAdd, Nat.reduceSub, Nat.reduceLeDiff, Nat.reduceLT, Nat.reduceEqDiff, Int.reduceLT, Int.reduceLE, Int.reduceAdd, Int.reduceSub, Int.reduceMul, Int.reduceMod, Int.reduceDiv, Int.reduceNeg, Int.reduceToNat, Int.reducePow, Int.reduceEq, e]
end K30
end
section
section
namespace O30
open PySem L2
noncomputable def top (i : Nat) : Stmt := PySem.Challenge.pw_lotheads_k30_times_on_ups.main.body.getD i (.Pass ⟨0, 0, 0, 0⟩)
structure Txt (mg : Str → Option Value) : Prop where
  n_abs : mg "abs" = none
  n_all : mg "all" = none
  n_any : mg "any" = none
  n_bool : mg "bool" = none
  n_enumerate : mg "enumerate" = none
  n_int : mg "int" = none
  n_isinstance : mg "isinstance" = none
  n_len : mg "len" = none
  n_list : mg "list" = none
  n_min : mg "min" = none
  n_range : mg "range" = none
  n_str : mg "str" = none
  n_tuple : mg "tuple" = none
  c_MOST_THINGS : ∃ t, mg "MOST_THINGS" = some (.int 40 t)
section
variable {P : Program} {w : World} {K : PySem.W.Frag} {mg : Str → Option Value} {base : Heap}
noncomputable abbrev nV (n : Nat) : V := .int (n : Int)
theorem atI_ups {us : List Nat} {x : Nat} (hx : x < us.length) : atI (us.map nV) (x : Int) = some (nV (us.getD x 0)) := by
  refine atI_nat ?_
  rw [List.getElem?_map, List.getElem?_eq_getElem hx]
  simp [hx]
end
end O30
end
section
namespace O30
open PySem L2
end O30
end
section
namespace O30
open PySem L2
theorem ixN_of {n k : Nat} (h : k < n) : ixN n (k : Int) = some k := by
  unfold ixN
  rw [if_pos (by omega), if_pos (by omega), Int.toNat_natCast]
section
variable {P : Program} {w : World} {K : PySem.W.Frag} {mg : Str → Option Value} {base : Heap}
end
end O30
end
section
namespace O30
open PySem L2 Fo
noncomputable def SB (a : Addr) (H H' : Hp) : Prop := ∀ b o, b ≠ a → H b = some o → H' b = some o
theorem SB.refl {a : Addr} {H : Hp} : SB a H H := fun _ _ _ h => h
theorem SB.upd {a : Addr} {H H' : Hp} (s : SB a H H') (o : HO) : SB a H (upd H' a o) := fun b q n h => by rw [upd_ne n]; exact s b q n h
theorem SB.new {a p : Addr} {H H' : Hp} (s : SB a H H') (hp : H' p = none) (o : HO) : SB a H (L2.upd H' p o) := fun b q n h => by
  rw [upd_ne (ne_of_none (s b q n h) hp)]; exact s b q n h
noncomputable def spFind (R : List Nat → Nat → Nat → List Nat → Nat → Prop) : Sp := fun vs H Q _ => ∃ (a : Addr) (us : List Nat) (x : Nat), vs = [.ref a, .int x] ∧ H a = some (.lst (us.map nV)) ∧ us.length ≤ 40 ∧ Fst us ∧ x < us.length ∧
  ∀ h us' n p H', R us x h us' n → SB a H H' → H' a = some (.lst (us'.map nV)) → H' p = some (.tup [nV h, nV n]) → Q (.ref p) H'
theorem nV_eq {u y : Nat} : decide (nV u = nV y) = decide (u = y) := by
  rw [dec_int, Bool.eq_iff_iff, beq_iff_eq, decide_eq_true_iff]
  omega
theorem set_map {vs : List Nat} {y v : Nat} : (vs.map nV).set y (nV v) = (vs.set y v).map nV := by rw [List.map_set]
theorem set_bnd {vs : List Nat} {y v : Nat} (hb : ∀ z, z < vs.length → up vs z < vs.length) (hy : y < vs.length) (hv : v < vs.length) : ∀ z, z < (vs.set y v).length → up (vs.set y v) z < (vs.set y v).length := fun z hz => by
  rw [List.length_set] at hz ⊢
  rw [up_set hy]
  split
  · exact hv
  · exact hb z hz
theorem last_app {p l : List Nat} {y : Nat} (h : l ≠ []) : last (p ++ y :: l) = last l := by
  induction p with
  | nil => exact last_cons h
  | cons z p ih => rw [List.cons_append, last_cons (by simp)]; exact ih
structure WInv (a : Addr) (x : Nat) (us l : List Nat) (n : Nat) (H : Hp) (m : Nat) (σ : St) (H' : Hp) : Prop where
  mk' ::
  it : ∃ vs y pre l2 z, σ = [some (.ref a), some (nV x), some (nV (last l)), some (nV n), some (nV y), z] ∧ H' a = some (.lst (vs.map nV)) ∧ SB a H H' ∧ vs.length = us.length ∧ (∀ t, up vs t = if t ∈ pre then last l else up us t) ∧ l = pre ++ l2 ∧ Way us y l2 ∧ l2.length = m
structure HInv (a : Addr) (x : Nat) (us' : List Nat) (h N len : Nat) (H : Hp) (Rl : List Nat → Nat → Nat → List Nat → Nat → Prop) (m : Nat) (σ : St) (H' : Hp) : Prop where
  mk' ::
  it : ∃ vs y k, σ = [some (.ref a), some (nV x), some (nV y), some (nV k)] ∧ H' a = some (.lst (vs.map nV)) ∧ SB a H H' ∧ y < len ∧ vs.length = len ∧ (∀ z, z < vs.length → up vs z < vs.length) ∧ Rl vs y h us' m ∧ k + m = N
section
variable {P : Program} {w : World} {K : PySem.W.Frag} {mg : Str → Option Value} {base : Heap}
noncomputable abbrev s_find_none : Stmt := top 13
theorem sc_find_none : FnScope ["ups", "x", "at", "steps"] ["ups", "x"] (defScope s_find_none) := ⟨rfl, rfl, rfl, by decide +kernel, rfl, by decide +kernel, by decide +kernel⟩
theorem ok_find_none (T : Txt mg) (F : FunD K mg "find_none" s_find_none ["ups", "x"]) : Def P w K mg base 1 "find_none" ["ups", "x"] (spFind RNone) := by
  refine F.ok sc_find_none (fun vs H Q E h => by obtain ⟨m, v, x, rfl, _⟩ := h; rfl) (fun f cdv A outer s H vs Q E hr h => ?_)
  obtain ⟨a, us, x, rfl, ha, h40, hf, hx, q⟩ := h
  refine ⟨_, (pss_cons (ps_set (i := 2) sc_find_none.nd rfl (by first | exact Or.inl rfl | exact Or.inr rfl) (pv 1))
    (pss_cons (ps_set (i := 3) sc_find_none.nd rfl (by first | exact Or.inl rfl | exact Or.inr rfl) pe_int)
    (pss_cons (ps_while PassesOwn.never (pt_cmpR op_ne (pe_ix (k_ixl (K := K) rfl) (pv 0) (pv 2) (fun _ _ => rfl)) (pv 2) (nomark _)) (pss_cons (ps_set (i := 2) sc_find_none.nd rfl (by first | exact Or.inl rfl | exact Or.inr rfl) (pe_ix (k_ixl (K := K) rfl) (pv 0) (pv 2) (fun _ _ => rfl)))
    (pss_one (ps_aug (i := 3) sc_find_none.nd rfl (by first | exact Or.inl rfl | exact Or.inr rfl) pe_int ip_add))))
    (pss_one (ps_ret (pe_tup (pa_consN ns_Name (pv 2) (pa_consN ns_Name (pv 3) pa_nil)))))))), ?_⟩
  (try dsimp only [tRet, tRetN, tAndV, tOrV, tNotV, tAnd, tOr, tNot, tCall, tCons, tVar, tNil, tChain, tOp, tUn, rI0, rI, rU, tC, tB, tTest, tIf, tIfS, tSeq, tNext, tAsg, gName, tLst, tTup, tCB, tSl, tPart, tNoPart, tDrop, tBM, tAug, ipI, gTup, gCons, gNil, gSub, subσ, tYes, rEq, rNe, rIxL, rIxT, rSetL, rSlL, rSlT, iList, iTup, iRng1, iRng2, tNever, tPar, L2.start, List.map_cons, List.map_nil, List.length_cons, List.length_nil, List.replicate, List.cons_append, List.nil_append, List.append_nil, List.getElem?_cons_zero, List.getElem?_cons_succ, List.set_cons_zero, List.set_cons_succ, List.getElem?_nil, Option.bind_some, Option.bind_none, Option.join_some, Option.join_none, Nat.add_one_sub_one, Nat.reduceSub, Nat.reduceAdd]); simp only [tRet, tRetN, tAndV, tOrV, tNotV, tAnd, tOr, tNot, tCall, tCons, tVar, tNil, tChain, tOp, tUn, rI0, rI, rU, tC, tB, tTest, tIf, tIfS, tSeq, tNext, tAsg, gName, tLst, tTup, tCB, tSl, tPart, tNoPart, tDrop, tBM, tAug, ipI, gTup, gCons, gNil, gSub, subσ, tYes, rEq, rNe, rIxL, rIxT, rSetL, rSlL, rSlT, iList, iTup, iRng1, iRng2, tNever, tPar, L2.start, List.map_cons, List.map_nil, List.length_cons, List.length_nil, List.replicate, List.cons_append, List.nil_append, List.append_nil, List.getElem?_cons_zero, List.getElem?_cons_succ, List.set_cons_zero, List.set_cons_succ, List.getElem?_nil, Option.bind_some, Option.bind_none, Option.join_some, Option.join_none, Option.some.injEq, V.int.injEq, V.bl.injEq, V.ref.injEq, List.cons.injEq, and_true, true_and, exists_eq_left, exists_eq_left', exists_eq_right, exists_and_left, Nat.add_one_sub_one, Nat.reduceSub, Nat.sub_self, Nat.reduceAdd, Nat.zero_add, Int.toNat_natCast, List.length_map, V.ty.injEq, V.str.injEq, and_assoc, cxOf_K, blk_K, Bool.not_true, Bool.not_false, Bool.false_eq_true, if_true, if_false]
  obtain ⟨l, wl, hl⟩ := hf.way hx
  refine ⟨fun m σ H' => H' = H ∧ ∃ y k l2, σ = [some (.ref a), some (nV x), some (nV y), some (nV k)] ∧ Way us y l2 ∧ y < us.length ∧ l2.length = m ∧ k + l2.length = l.length ∧ last l2 = last l, ⟨l.length, rfl, x, 0, l, rfl, wl, hx, rfl, by omega, rfl⟩, ?_⟩
  rintro m σ H' ⟨rfl, y, k, l2, rfl, w2, hy, rfl, e1, e2⟩
  (try dsimp only [tRet, tRetN, tAndV, tOrV, tNotV, tAnd, tOr, tNot, tCall, tCons, tVar, tNil, tChain, tOp, tUn, rI0, rI, rU, tC, tB, tTest, tIf, tIfS, tSeq, tNext, tAsg, gName, tLst, tTup, tCB, tSl, tPart, tNoPart, tDrop, tBM, tAug, ipI, gTup, gCons, gNil, gSub, subσ, tYes, rEq, rNe, rIxL, rIxT, rSetL, rSlL, rSlT, iList, iTup, iRng1, iRng2, tNever, tPar, L2.start, List.map_cons, List.map_nil, List.length_cons, List.length_nil, List.replicate, List.cons_append, List.nil_append, List.append_nil, List.getElem?_cons_zero, List.getElem?_cons_succ, List.set_cons_zero, List.set_cons_succ, List.getElem?_nil, Option.bind_some, Option.bind_none, Option.join_some, Option.join_none, Nat.add_one_sub_one, Nat.reduceSub, Nat.reduceAdd]); simp only [tRet, tRetN, tAndV, tOrV, tNotV, tAnd, tOr, tNot, tCall, tCons, tVar, tNil, tChain, tOp, tUn, rI0, rI, rU, tC, tB, tTest, tIf, tIfS, tSeq, tNext, tAsg, gName, tLst, tTup, tCB, tSl, tPart, tNoPart, tDrop, tBM, tAug, ipI, gTup, gCons, gNil, gSub, subσ, tYes, rEq, rNe, rIxL, rIxT, rSetL, rSlL, rSlT, iList, iTup, iRng1, iRng2, tNever, tPar, L2.start, List.map_cons, List.map_nil, List.length_cons, List.length_nil, List.replicate, List.cons_append, List.nil_append, List.append_nil, List.getElem?_cons_zero, List.getElem?_cons_succ, List.set_cons_zero, List.set_cons_succ, List.getElem?_nil, Option.bind_some, Option.bind_none, Option.join_some, Option.join_none, Option.some.injEq, V.int.injEq, V.bl.injEq, V.ref.injEq, List.cons.injEq, and_true, true_and, exists_eq_left, exists_eq_left', exists_eq_right, exists_and_left, Nat.add_one_sub_one, Nat.reduceSub, Nat.sub_self, Nat.reduceAdd, Nat.zero_add, Int.toNat_natCast, List.length_map, V.ty.injEq, V.str.injEq, and_assoc, cxOf_K, blk_K, Bool.not_true, Bool.not_false, Bool.false_eq_true, if_true, if_false]
  refine ⟨us.map nV, SqL.of ha, _, atI_ups hy, rfl, ?_⟩
  rw [show decide (nV (us.getD y 0) = nV y) = decide (up us y = y) from nV_eq]
  cases w2 with
  | head e =>
    rw [decide_eq_true e]
    refine ⟨by decide, fun p hp => q _ us k p _ ⟨rfl, l, wl, ?_, by simpa using e1⟩ (SB.refl.new hp _) (by rw [upd_ne (ne_of_none ha hp)]; exact ha) upd_same⟩
    exact e2
  | @step _ l3 n w3 =>
    rw [decide_eq_false n]
    refine ⟨fun σ' H'' => H'' = H' ∧ σ' = [some (.ref a), some (nV x), some (nV (up us y)), some (.int (k + 1))], fun σ' H'' e => ?_, us.map nV, SqL.of ha, _, atI_ups hy, rfl, rfl⟩
    obtain ⟨rfl, rfl⟩ := e
    exact ⟨l3.length, by simp, rfl, up us y, k + 1, rfl, l3, w3, hf.bnd y hy, rfl, by rw [← e1]; simp; omega, by rw [← e2, last_cons w3.ne]⟩
noncomputable abbrev s_find_halves : Stmt := top 15
theorem sc_find_halves : FnScope ["ups", "x", "at", "steps"] ["ups", "x"] (defScope s_find_halves) := ⟨rfl, rfl, rfl, by decide +kernel, rfl, by decide +kernel, by decide +kernel⟩
theorem ok_find_halves (T : Txt mg) (F : FunD K mg "find_halves" s_find_halves ["ups", "x"]) : Def P w K mg base 1 "find_halves" ["ups", "x"] (spFind RHalves) := by
  refine F.ok sc_find_halves (fun vs H Q E h => by obtain ⟨m, v, x, rfl, _⟩ := h; rfl) (fun f cdv A outer s H vs Q E hr h => ?_)
  obtain ⟨a, us, x, rfl, ha, h40, hf, hx, q⟩ := h
  refine ⟨_, (pss_cons (ps_set (i := 2) sc_find_halves.nd rfl (by first | exact Or.inl rfl | exact Or.inr rfl) (pv 1))
    (pss_cons (ps_set (i := 3) sc_find_halves.nd rfl (by first | exact Or.inl rfl | exact Or.inr rfl) pe_int)
    (pss_cons (ps_while PassesOwn.never (pt_cmpR op_ne (pe_ix (k_ixl (K := K) rfl) (pv 0) (pv 2) (fun _ _ => rfl)) (pv 2) (nomark _)) (pss_cons (ps_asg (pe_ix (k_ixl (K := K) rfl) (pv 0) (pe_ix (k_ixl (K := K) rfl) (pv 0) (pv 2) (fun _ _ => rfl)) (fun _ _ => rfl)) (pg_sub (pv 0) (pv 2) set_list))
    (pss_cons (ps_set (i := 2) sc_find_halves.nd rfl (by first | exact Or.inl rfl | exact Or.inr rfl) (pe_ix (k_ixl (K := K) rfl) (pv 0) (pv 2) (fun _ _ => rfl)))
    (pss_one (ps_aug (i := 3) sc_find_halves.nd rfl (by first | exact Or.inl rfl | exact Or.inr rfl) pe_int ip_add)))))
    (pss_one (ps_ret (pe_tup (pa_consN ns_Name (pv 2) (pa_consN ns_Name (pv 3) pa_nil)))))))), ?_⟩
  (try dsimp only [tRet, tRetN, tAndV, tOrV, tNotV, tAnd, tOr, tNot, tCall, tCons, tVar, tNil, tChain, tOp, tUn, rI0, rI, rU, tC, tB, tTest, tIf, tIfS, tSeq, tNext, tAsg, gName, tLst, tTup, tCB, tSl, tPart, tNoPart, tDrop, tBM, tAug, ipI, gTup, gCons, gNil, gSub, subσ, tYes, rEq, rNe, rIxL, rIxT, rSetL, rSlL, rSlT, iList, iTup, iRng1, iRng2, tNever, tPar, L2.start, List.map_cons, List.map_nil, List.length_cons, List.length_nil, List.replicate, List.cons_append, List.nil_append, List.append_nil, List.getElem?_cons_zero, List.getElem?_cons_succ, List.set_cons_zero, List.set_cons_succ, List.getElem?_nil, Option.bind_some, Option.bind_none, Option.join_some, Option.join_none, Nat.add_one_sub_one, Nat.reduceSub, Nat.reduceAdd]); simp only [tRet, tRetN, tAndV, tOrV, tNotV, tAnd, tOr, tNot, tCall, tCons, tVar, tNil, tChain, tOp, tUn, rI0, rI, rU, tC, tB, tTest, tIf, tIfS, tSeq, tNext, tAsg, gName, tLst, tTup, tCB, tSl, tPart, tNoPart, tDrop, tBM, tAug, ipI, gTup, gCons, gNil, gSub, subσ, tYes, rEq, rNe, rIxL, rIxT, rSetL, rSlL, rSlT, iList, iTup, iRng1, iRng2, tNever, tPar, L2.start, List.map_cons, List.map_nil, List.length_cons, List.length_nil, List.replicate, List.cons_append, List.nil_append, List.append_nil, List.getElem?_cons_zero, List.getElem?_cons_succ, List.set_cons_zero, List.set_cons_succ, List.getElem?_nil, Option.bind_some, Option.bind_none, Option.join_some, Option.join_none, Option.some.injEq, V.int.injEq, V.bl.injEq, V.ref.injEq, List.cons.injEq, and_true, true_and, exists_eq_left, exists_eq_left', exists_eq_right, exists_and_left, Nat.add_one_sub_one, Nat.reduceSub, Nat.sub_self, Nat.reduceAdd, Nat.zero_add, Int.toNat_natCast, List.length_map, V.ty.injEq, V.str.injEq, and_assoc, cxOf_K, blk_K, Bool.not_true, Bool.not_false, Bool.false_eq_true, if_true, if_false]
  obtain ⟨l, wl, hl⟩ := hf.way hx
  obtain ⟨us', hv, g1, g2⟩ := halv_of l wl (wl.nodup hf hx) (wl.lt hf.bnd hx)
  refine ⟨fun m σ H' => HInv a x us' (last l) (l.length / 2) us.length H Halv m σ H', ⟨l.length / 2, ⟨us, x, 0, rfl, ha, SB.refl, hx, rfl, hf.bnd, hv, by omega⟩⟩, ?_⟩
  rintro m σ H' ⟨⟨vs, y, k, rfl, hv', sb, hy, hlen, hb, w2, e1⟩⟩
  (try dsimp only [tRet, tRetN, tAndV, tOrV, tNotV, tAnd, tOr, tNot, tCall, tCons, tVar, tNil, tChain, tOp, tUn, rI0, rI, rU, tC, tB, tTest, tIf, tIfS, tSeq, tNext, tAsg, gName, tLst, tTup, tCB, tSl, tPart, tNoPart, tDrop, tBM, tAug, ipI, gTup, gCons, gNil, gSub, subσ, tYes, rEq, rNe, rIxL, rIxT, rSetL, rSlL, rSlT, iList, iTup, iRng1, iRng2, tNever, tPar, L2.start, List.map_cons, List.map_nil, List.length_cons, List.length_nil, List.replicate, List.cons_append, List.nil_append, List.append_nil, List.getElem?_cons_zero, List.getElem?_cons_succ, List.set_cons_zero, List.set_cons_succ, List.getElem?_nil, Option.bind_some, Option.bind_none, Option.join_some, Option.join_none, Nat.add_one_sub_one, Nat.reduceSub, Nat.reduceAdd]); simp only [tRet, tRetN, tAndV, tOrV, tNotV, tAnd, tOr, tNot, tCall, tCons, tVar, tNil, tChain, tOp, tUn, rI0, rI, rU, tC, tB, tTest, tIf, tIfS, tSeq, tNext, tAsg, gName, tLst, tTup, tCB, tSl, tPart, tNoPart, tDrop, tBM, tAug, ipI, gTup, gCons, gNil, gSub, subσ, tYes, rEq, rNe, rIxL, rIxT, rSetL, rSlL, rSlT, iList, iTup, iRng1, iRng2, tNever, tPar, L2.start, List.map_cons, List.map_nil, List.length_cons, List.length_nil, List.replicate, List.cons_append, List.nil_append, List.append_nil, List.getElem?_cons_zero, List.getElem?_cons_succ, List.set_cons_zero, List.set_cons_succ, List.getElem?_nil, Option.bind_some, Option.bind_none, Option.join_some, Option.join_none, Option.some.injEq, V.int.injEq, V.bl.injEq, V.ref.injEq, List.cons.injEq, and_true, true_and, exists_eq_left, exists_eq_left', exists_eq_right, exists_and_left, Nat.add_one_sub_one, Nat.reduceSub, Nat.sub_self, Nat.reduceAdd, Nat.zero_add, Int.toNat_natCast, List.length_map, V.ty.injEq, V.str.injEq, and_assoc, cxOf_K, blk_K, Bool.not_true, Bool.not_false, Bool.false_eq_true, if_true, if_false]
  refine ⟨vs.map nV, SqL.of hv', _, atI_ups (by omega), rfl, ?_⟩
  rw [show decide (nV (vs.getD y 0) = nV y) = decide (up vs y = y) from nV_eq]
  cases w2 with
  | stop e =>
    rw [decide_eq_true e]
    refine ⟨by decide, fun p hp => q _ us' k p _ ⟨l, wl, rfl, by omega, g1, g2⟩ (sb.new hp _) (by rw [upd_ne (ne_of_none hv' hp)]; exact hv') upd_same⟩
  | @step _ _ _ m _ n w3 =>
    rw [decide_eq_false n]
    refine ⟨fun σ' H'' => H'' = upd H' a (.lst ((vs.set y (up vs (up vs y))).map nV)) ∧ σ' = [some (.ref a), some (nV x), some (nV (up vs (up vs y))), some (.int (k + 1))], fun σ' H'' e => ?_, vs.map nV, SqL.of hv', _, atI_ups (by omega), vs.map nV, _, rfl, SqL.of hv', _, atI_ups (hb y (by omega)), vs.map nV, hv', y, ixN_of (by rw [List.length_map]; omega), _, SqL.of upd_same, nV (up vs (up vs y)), ?_, ?_⟩
    · obtain ⟨rfl, rfl⟩ := e
      exact ⟨m, by omega, ⟨⟨_, up vs (up vs y), k + 1, rfl, upd_same, sb.upd _, by have := hb y (by omega); have := hb _ this; omega, by rw [List.length_set]; exact hlen, set_bnd hb (by omega) (hb _ (hb _ (by omega))), w3, by omega⟩⟩⟩
    · rw [set_map, atI_ups (by rw [List.length_set]; omega)]
      show some (nV (up (vs.set y _) y)) = _
      rw [up_set (by omega), if_pos rfl]
    · rw [set_map]; exact ⟨rfl, rfl⟩
noncomputable abbrev s_find_splits : Stmt := top 16
theorem sc_find_splits : FnScope ["ups", "x", "at", "steps", "above"] ["ups", "x"] (defScope s_find_splits) := ⟨rfl, rfl, rfl, by decide +kernel, rfl, by decide +kernel, by decide +kernel⟩
theorem ok_find_splits (T : Txt mg) (F : FunD K mg "find_splits" s_find_splits ["ups", "x"]) : Def P w K mg base 1 "find_splits" ["ups", "x"] (spFind RSplits) := by
  refine F.ok sc_find_splits (fun vs H Q E h => by obtain ⟨m, v, x, rfl, _⟩ := h; rfl) (fun f cdv A outer s H vs Q E hr h => ?_)
  obtain ⟨a, us, x, rfl, ha, h40, hf, hx, q⟩ := h
  refine ⟨_, (pss_cons (ps_set (i := 2) sc_find_splits.nd rfl (by first | exact Or.inl rfl | exact Or.inr rfl) (pv 1))
    (pss_cons (ps_set (i := 3) sc_find_splits.nd rfl (by first | exact Or.inl rfl | exact Or.inr rfl) pe_int)
    (pss_cons (ps_while PassesOwn.never (pt_cmpR op_ne (pe_ix (k_ixl (K := K) rfl) (pv 0) (pv 2) (fun _ _ => rfl)) (pv 2) (nomark _)) (pss_cons (ps_set (i := 4) sc_find_splits.nd rfl (by first | exact Or.inl rfl | exact Or.inr rfl) (pe_ix (k_ixl (K := K) rfl) (pv 0) (pv 2) (fun _ _ => rfl)))
    (pss_cons (ps_asg (pe_ix (k_ixl (K := K) rfl) (pv 0) (pv 4) (fun _ _ => rfl)) (pg_sub (pv 0) (pv 2) set_list))
    (pss_cons (ps_set (i := 2) sc_find_splits.nd rfl (by first | exact Or.inl rfl | exact Or.inr rfl) (pv 4))
    (pss_one (ps_aug (i := 3) sc_find_splits.nd rfl (by first | exact Or.inl rfl | exact Or.inr rfl) pe_int ip_add))))))
    (pss_one (ps_ret (pe_tup (pa_consN ns_Name (pv 2) (pa_consN ns_Name (pv 3) pa_nil)))))))), ?_⟩
  (try dsimp only [tRet, tRetN, tAndV, tOrV, tNotV, tAnd, tOr, tNot, tCall, tCons, tVar, tNil, tChain, tOp, tUn, rI0, rI, rU, tC, tB, tTest, tIf, tIfS, tSeq, tNext, tAsg, gName, tLst, tTup, tCB, tSl, tPart, tNoPart, tDrop, tBM, tAug, ipI, gTup, gCons, gNil, gSub, subσ, tYes, rEq, rNe, rIxL, rIxT, rSetL, rSlL, rSlT, iList, iTup, iRng1, iRng2, tNever, tPar, L2.start, List.map_cons, List.map_nil, List.length_cons, List.length_nil, List.replicate, List.cons_append, List.nil_append, List.append_nil, List.getElem?_cons_zero, List.getElem?_cons_succ, List.set_cons_zero, List.set_cons_succ, List.getElem?_nil, Option.bind_some, Option.bind_none, Option.join_some, Option.join_none, Nat.add_one_sub_one, Nat.reduceSub, Nat.reduceAdd]); simp only [tRet, tRetN, tAndV, tOrV, tNotV, tAnd, tOr, tNot, tCall, tCons, tVar, tNil, tChain, tOp, tUn, rI0, rI, rU, tC, tB, tTest, tIf, tIfS, tSeq, tNext, tAsg, gName, tLst, tTup, tCB, tSl, tPart, tNoPart, tDrop, tBM, tAug, ipI, gTup, gCons, gNil, gSub, subσ, tYes, rEq, rNe, rIxL, rIxT, rSetL, rSlL, rSlT, iList, iTup, iRng1, iRng2, tNever, tPar, L2.start, List.map_cons, List.map_nil, List.length_cons, List.length_nil, List.replicate, List.cons_append, List.nil_append, List.append_nil, List.getElem?_cons_zero, List.getElem?_cons_succ, List.set_cons_zero, List.set_cons_succ, List.getElem?_nil, Option.bind_some, Option.bind_none, Option.join_some, Option.join_none, Option.some.injEq, V.int.injEq, V.bl.injEq, V.ref.injEq, List.cons.injEq, and_true, true_and, exists_eq_left, exists_eq_left', exists_eq_right, exists_and_left, Nat.add_one_sub_one, Nat.reduceSub, Nat.sub_self, Nat.reduceAdd, Nat.zero_add, Int.toNat_natCast, List.length_map, V.ty.injEq, V.str.injEq, and_assoc, cxOf_K, blk_K, Bool.not_true, Bool.not_false, Bool.false_eq_true, if_true, if_false]
  obtain ⟨l, wl, hl⟩ := hf.way hx
  obtain ⟨us', hv, g1, g2⟩ := splt_of wl (wl.nodup hf hx) (wl.lt hf.bnd hx)
  have lp := wl.pos
  refine ⟨fun m σ H' => ∃ z, HInv a x us' (last l) (l.length - 1) us.length H Splt m (σ.take 4) H' ∧ σ = σ.take 4 ++ [z], ⟨l.length - 1, none, ⟨us, x, 0, rfl, ha, SB.refl, hx, rfl, hf.bnd, hv, by omega⟩, rfl⟩, ?_⟩
  rintro m σ H' ⟨z, ⟨vs, y, k, eσ, hv', sb, hy, hlen, hb, w2, e1⟩, eσ'⟩
  rw [eσ] at eσ'
  subst eσ'
  (try dsimp only [tRet, tRetN, tAndV, tOrV, tNotV, tAnd, tOr, tNot, tCall, tCons, tVar, tNil, tChain, tOp, tUn, rI0, rI, rU, tC, tB, tTest, tIf, tIfS, tSeq, tNext, tAsg, gName, tLst, tTup, tCB, tSl, tPart, tNoPart, tDrop, tBM, tAug, ipI, gTup, gCons, gNil, gSub, subσ, tYes, rEq, rNe, rIxL, rIxT, rSetL, rSlL, rSlT, iList, iTup, iRng1, iRng2, tNever, tPar, L2.start, List.map_cons, List.map_nil, List.length_cons, List.length_nil, List.replicate, List.cons_append, List.nil_append, List.append_nil, List.getElem?_cons_zero, List.getElem?_cons_succ, List.set_cons_zero, List.set_cons_succ, List.getElem?_nil, Option.bind_some, Option.bind_none, Option.join_some, Option.join_none, Nat.add_one_sub_one, Nat.reduceSub, Nat.reduceAdd]); simp only [tRet, tRetN, tAndV, tOrV, tNotV, tAnd, tOr, tNot, tCall, tCons, tVar, tNil, tChain, tOp, tUn, rI0, rI, rU, tC, tB, tTest, tIf, tIfS, tSeq, tNext, tAsg, gName, tLst, tTup, tCB, tSl, tPart, tNoPart, tDrop, tBM, tAug, ipI, gTup, gCons, gNil, gSub, subσ, tYes, rEq, rNe, rIxL, rIxT, rSetL, rSlL, rSlT, iList, iTup, iRng1, iRng2, tNever, tPar, L2.start, List.map_cons, List.map_nil, List.length_cons, List.length_nil, List.replicate, List.cons_append, List.nil_append, List.append_nil, List.getElem?_cons_zero, List.getElem?_cons_succ, List.set_cons_zero, List.set_cons_succ, List.getElem?_nil, Option.bind_some, Option.bind_none, Option.join_some, Option.join_none, Option.some.injEq, V.int.injEq, V.bl.injEq, V.ref.injEq, List.cons.injEq, and_true, true_and, exists_eq_left, exists_eq_left', exists_eq_right, exists_and_left, Nat.add_one_sub_one, Nat.reduceSub, Nat.sub_self, Nat.reduceAdd, Nat.zero_add, Int.toNat_natCast, List.length_map, V.ty.injEq, V.str.injEq, and_assoc, cxOf_K, blk_K, Bool.not_true, Bool.not_false, Bool.false_eq_true, if_true, if_false]
  refine ⟨vs.map nV, SqL.of hv', _, atI_ups (by omega), rfl, ?_⟩
  rw [show decide (nV (vs.getD y 0) = nV y) = decide (up vs y = y) from nV_eq]
  cases w2 with
  | stop e =>
    rw [decide_eq_true e]
    refine ⟨by decide, fun p hp => q _ us' k p _ ⟨l, wl, rfl, by omega, g1, g2⟩ (sb.new hp _) (by rw [upd_ne (ne_of_none hv' hp)]; exact hv') upd_same⟩
  | @step _ _ _ m _ n w3 =>
    rw [decide_eq_false n]
    refine ⟨fun σ' H'' => H'' = upd H' a (.lst ((vs.set y (up vs (up vs y))).map nV)) ∧ σ' = [some (.ref a), some (nV x), some (nV (up vs y)), some (.int (k + 1)), some (nV (up vs y))], fun σ' H'' e => ?_, vs.map nV, SqL.of hv', _, atI_ups (by omega), vs.map nV, _, rfl, SqL.of hv', _, atI_ups (hb y (by omega)), vs.map nV, hv', y, ixN_of (by rw [List.length_map]; omega), ?_⟩
    · obtain ⟨rfl, rfl⟩ := e
      exact ⟨m, by omega, ⟨⟨_, up vs y, k + 1, rfl, upd_same, sb.upd _, by have := hb y (by omega); omega, by rw [List.length_set]; exact hlen, set_bnd hb (by omega) (hb _ (hb _ (by omega))), w3, by omega⟩⟩, _, rfl⟩
    · rw [set_map]; exact ⟨rfl, rfl⟩
noncomputable abbrev s_find_one : Stmt := top 17
theorem sc_find_one : FnScope ["ups", "x", "head", "steps"] ["ups", "x"] (defScope s_find_one) := ⟨rfl, rfl, rfl, by decide +kernel, rfl, by decide +kernel, by decide +kernel⟩
theorem ok_find_one (T : Txt mg) (F : FunD K mg "find_one" s_find_one ["ups", "x"]) (d_find_none : Def P w K mg base 1 "find_none" ["ups", "x"] (spFind RNone)) : Def P w K mg base 2 "find_one" ["ups", "x"] (spFind ROne) := by
  refine F.ok sc_find_one (fun vs H Q E h => by obtain ⟨m, v, x, rfl, _⟩ := h; rfl) (fun f cdv A outer s H vs Q E hr h => ?_)
  obtain ⟨a, us, x, rfl, ha, h40, hf, hx, q⟩ := h
  refine ⟨_, (pss_cons (ps_asg (pe_callD d_find_none hr (pa_consN ns_Name (pv 0) (pa_consN ns_Name (pv 1) pa_nil)) (he := ns_Name _ _)) (k_gtup (K := K) (n := 2) rfl rfl (pgs_cons (pg_name (i := 2) sc_find_one.nd rfl (by first | exact Or.inl rfl | exact Or.inr rfl)) (pgs_cons (pg_name (i := 3) sc_find_one.nd rfl (by first | exact Or.inl rfl | exact Or.inr rfl)) pgs_nil))))
    (pss_cons (ps_asg (pe_ix (k_ixl (K := K) rfl) (pv 0) (pe_ix (k_ixl (K := K) rfl) (pv 0) (pv 1) (fun _ _ => rfl)) (fun _ _ => rfl)) (pg_sub (pv 0) (pv 1) set_list))
    (pss_one (ps_ret (pe_tup (pa_consN ns_Name (pv 2) (pa_consN ns_Name (pv 3) pa_nil))))))), ?_⟩
  (try dsimp only [tRet, tRetN, tAndV, tOrV, tNotV, tAnd, tOr, tNot, tCall, tCons, tVar, tNil, tChain, tOp, tUn, rI0, rI, rU, tC, tB, tTest, tIf, tIfS, tSeq, tNext, tAsg, gName, tLst, tTup, tCB, tSl, tPart, tNoPart, tDrop, tBM, tAug, ipI, gTup, gCons, gNil, gSub, subσ, tYes, rEq, rNe, rIxL, rIxT, rSetL, rSlL, rSlT, iList, iTup, iRng1, iRng2, tNever, tPar, L2.start, List.map_cons, List.map_nil, List.length_cons, List.length_nil, List.replicate, List.cons_append, List.nil_append, List.append_nil, List.getElem?_cons_zero, List.getElem?_cons_succ, List.set_cons_zero, List.set_cons_succ, List.getElem?_nil, Option.bind_some, Option.bind_none, Option.join_some, Option.join_none, Nat.add_one_sub_one, Nat.reduceSub, Nat.reduceAdd]); simp only [tRet, tRetN, tAndV, tOrV, tNotV, tAnd, tOr, tNot, tCall, tCons, tVar, tNil, tChain, tOp, tUn, rI0, rI, rU, tC, tB, tTest, tIf, tIfS, tSeq, tNext, tAsg, gName, tLst, tTup, tCB, tSl, tPart, tNoPart, tDrop, tBM, tAug, ipI, gTup, gCons, gNil, gSub, subσ, tYes, rEq, rNe, rIxL, rIxT, rSetL, rSlL, rSlT, iList, iTup, iRng1, iRng2, tNever, tPar, L2.start, List.map_cons, List.map_nil, List.length_cons, List.length_nil, List.replicate, List.cons_append, List.nil_append, List.append_nil, List.getElem?_cons_zero, List.getElem?_cons_succ, List.set_cons_zero, List.set_cons_succ, List.getElem?_nil, Option.bind_some, Option.bind_none, Option.join_some, Option.join_none, Option.some.injEq, V.int.injEq, V.bl.injEq, V.ref.injEq, List.cons.injEq, and_true, true_and, exists_eq_left, exists_eq_left', exists_eq_right, exists_and_left, Nat.add_one_sub_one, Nat.reduceSub, Nat.sub_self, Nat.reduceAdd, Nat.zero_add, Int.toNat_natCast, List.length_map, V.ty.injEq, V.str.injEq, and_assoc, cxOf_K, blk_K, Bool.not_true, Bool.not_false, Bool.false_eq_true, if_true, if_false]
  refine ⟨a, us, x, rfl, ha, h40, hf, hx, ?_⟩
  rintro h us2 n p H' ⟨e, l, wl, rfl, hn⟩ sb h1 h2
  rw [e] at h1
  clear e
  (try dsimp only [tRet, tRetN, tAndV, tOrV, tNotV, tAnd, tOr, tNot, tCall, tCons, tVar, tNil, tChain, tOp, tUn, rI0, rI, rU, tC, tB, tTest, tIf, tIfS, tSeq, tNext, tAsg, gName, tLst, tTup, tCB, tSl, tPart, tNoPart, tDrop, tBM, tAug, ipI, gTup, gCons, gNil, gSub, subσ, tYes, rEq, rNe, rIxL, rIxT, rSetL, rSlL, rSlT, iList, iTup, iRng1, iRng2, tNever, tPar, L2.start, List.map_cons, List.map_nil, List.length_cons, List.length_nil, List.replicate, List.cons_append, List.nil_append, List.append_nil, List.getElem?_cons_zero, List.getElem?_cons_succ, List.set_cons_zero, List.set_cons_succ, List.getElem?_nil, Option.bind_some, Option.bind_none, Option.join_some, Option.join_none, Nat.add_one_sub_one, Nat.reduceSub, Nat.reduceAdd]); simp only [tRet, tRetN, tAndV, tOrV, tNotV, tAnd, tOr, tNot, tCall, tCons, tVar, tNil, tChain, tOp, tUn, rI0, rI, rU, tC, tB, tTest, tIf, tIfS, tSeq, tNext, tAsg, gName, tLst, tTup, tCB, tSl, tPart, tNoPart, tDrop, tBM, tAug, ipI, gTup, gCons, gNil, gSub, subσ, tYes, rEq, rNe, rIxL, rIxT, rSetL, rSlL, rSlT, iList, iTup, iRng1, iRng2, tNever, tPar, L2.start, List.map_cons, List.map_nil, List.length_cons, List.length_nil, List.replicate, List.cons_append, List.nil_append, List.append_nil, List.getElem?_cons_zero, List.getElem?_cons_succ, List.set_cons_zero, List.set_cons_succ, List.getElem?_nil, Option.bind_some, Option.bind_none, Option.join_some, Option.join_none, Option.some.injEq, V.int.injEq, V.bl.injEq, V.ref.injEq, List.cons.injEq, and_true, true_and, exists_eq_left, exists_eq_left', exists_eq_right, exists_and_left, Nat.add_one_sub_one, Nat.reduceSub, Nat.sub_self, Nat.reduceAdd, Nat.zero_add, Int.toNat_natCast, List.length_map, V.ty.injEq, V.str.injEq, and_assoc, cxOf_K, blk_K, Bool.not_true, Bool.not_false, Bool.false_eq_true, if_true, if_false]
  refine ⟨[nV (last l), nV n], SqT.of h2, rfl, _, _, rfl, _, _, rfl, rfl, us.map nV, SqL.of h1, _, atI_ups hx, us.map nV, _, rfl, SqL.of h1, _, atI_ups (hf.bnd x hx), us.map nV, h1, x, ixN_of (by rw [List.length_map]; omega), by decide, fun p2 hp2 => ?_⟩
  rw [set_map] at hp2 ⊢
  exact q _ _ n p2 _ ⟨rfl, l, wl, rfl, hn⟩ ((sb.upd _).new hp2 _) (by rw [upd_ne (ne_of_none upd_same hp2), upd_same]) upd_same
noncomputable abbrev s_find_whole : Stmt := top 14
theorem sc_find_whole : FnScope ["ups", "x", "head", "steps", "at", "above"] ["ups", "x"] (defScope s_find_whole) := ⟨rfl, rfl, rfl, by decide +kernel, rfl, by decide +kernel, by decide +kernel⟩
theorem ok_find_whole (T : Txt mg) (F : FunD K mg "find_whole" s_find_whole ["ups", "x"]) (d_find_none : Def P w K mg base 1 "find_none" ["ups", "x"] (spFind RNone)) : Def P w K mg base 2 "find_whole" ["ups", "x"] (spFind RWhole) := by
  refine F.ok sc_find_whole (fun vs H Q E h => by obtain ⟨m, v, x, rfl, _⟩ := h; rfl) (fun f cdv A outer s H vs Q E hr h => ?_)
  obtain ⟨a, us, x, rfl, ha, h40, hf, hx, q⟩ := h
  refine ⟨_, (pss_cons (ps_asg (pe_callD d_find_none hr (pa_consN ns_Name (pv 0) (pa_consN ns_Name (pv 1) pa_nil)) (he := ns_Name _ _)) (k_gtup (K := K) (n := 2) rfl rfl (pgs_cons (pg_name (i := 2) sc_find_whole.nd rfl (by first | exact Or.inl rfl | exact Or.inr rfl)) (pgs_cons (pg_name (i := 3) sc_find_whole.nd rfl (by first | exact Or.inl rfl | exact Or.inr rfl)) pgs_nil))))
    (pss_cons (ps_set (i := 4) sc_find_whole.nd rfl (by first | exact Or.inl rfl | exact Or.inr rfl) (pv 1))
    (pss_cons (ps_while PassesOwn.never (pt_cmpR op_ne (pv 4) (pv 2) (nomark _)) (pss_cons (ps_set (i := 5) sc_find_whole.nd rfl (by first | exact Or.inl rfl | exact Or.inr rfl) (pe_ix (k_ixl (K := K) rfl) (pv 0) (pv 4) (fun _ _ => rfl)))
    (pss_cons (ps_asg (pv 2) (pg_sub (pv 0) (pv 4) set_list))
    (pss_one (ps_set (i := 4) sc_find_whole.nd rfl (by first | exact Or.inl rfl | exact Or.inr rfl) (pv 5))))))
    (pss_one (ps_ret (pe_tup (pa_consN ns_Name (pv 2) (pa_consN ns_Name (pv 3) pa_nil)))))))), ?_⟩
  (try dsimp only [tRet, tRetN, tAndV, tOrV, tNotV, tAnd, tOr, tNot, tCall, tCons, tVar, tNil, tChain, tOp, tUn, rI0, rI, rU, tC, tB, tTest, tIf, tIfS, tSeq, tNext, tAsg, gName, tLst, tTup, tCB, tSl, tPart, tNoPart, tDrop, tBM, tAug, ipI, gTup, gCons, gNil, gSub, subσ, tYes, rEq, rNe, rIxL, rIxT, rSetL, rSlL, rSlT, iList, iTup, iRng1, iRng2, tNever, tPar, L2.start, List.map_cons, List.map_nil, List.length_cons, List.length_nil, List.replicate, List.cons_append, List.nil_append, List.append_nil, List.getElem?_cons_zero, List.getElem?_cons_succ, List.set_cons_zero, List.set_cons_succ, List.getElem?_nil, Option.bind_some, Option.bind_none, Option.join_some, Option.join_none, Nat.add_one_sub_one, Nat.reduceSub, Nat.reduceAdd]); simp only [tRet, tRetN, tAndV, tOrV, tNotV, tAnd, tOr, tNot, tCall, tCons, tVar, tNil, tChain, tOp, tUn, rI0, rI, rU, tC, tB, tTest, tIf, tIfS, tSeq, tNext, tAsg, gName, tLst, tTup, tCB, tSl, tPart, tNoPart, tDrop, tBM, tAug, ipI, gTup, gCons, gNil, gSub, subσ, tYes, rEq, rNe, rIxL, rIxT, rSetL, rSlL, rSlT, iList, iTup, iRng1, iRng2, tNever, tPar, L2.start, List.map_cons, List.map_nil, List.length_cons, List.length_nil, List.replicate, List.cons_append, List.nil_append, List.append_nil, List.getElem?_cons_zero, List.getElem?_cons_succ, List.set_cons_zero, List.set_cons_succ, List.getElem?_nil, Option.bind_some, Option.bind_none, Option.join_some, Option.join_none, Option.some.injEq, V.int.injEq, V.bl.injEq, V.ref.injEq, List.cons.injEq, and_true, true_and, exists_eq_left, exists_eq_left', exists_eq_right, exists_and_left, Nat.add_one_sub_one, Nat.reduceSub, Nat.sub_self, Nat.reduceAdd, Nat.zero_add, Int.toNat_natCast, List.length_map, V.ty.injEq, V.str.injEq, and_assoc, cxOf_K, blk_K, Bool.not_true, Bool.not_false, Bool.false_eq_true, if_true, if_false]
  refine ⟨a, us, x, rfl, ha, h40, hf, hx, ?_⟩
  rintro h us2 n p H' ⟨e, l, wl, rfl, hn⟩ sb h1 h2
  rw [e] at h1
  clear e
  (try dsimp only [tRet, tRetN, tAndV, tOrV, tNotV, tAnd, tOr, tNot, tCall, tCons, tVar, tNil, tChain, tOp, tUn, rI0, rI, rU, tC, tB, tTest, tIf, tIfS, tSeq, tNext, tAsg, gName, tLst, tTup, tCB, tSl, tPart, tNoPart, tDrop, tBM, tAug, ipI, gTup, gCons, gNil, gSub, subσ, tYes, rEq, rNe, rIxL, rIxT, rSetL, rSlL, rSlT, iList, iTup, iRng1, iRng2, tNever, tPar, L2.start, List.map_cons, List.map_nil, List.length_cons, List.length_nil, List.replicate, List.cons_append, List.nil_append, List.append_nil, List.getElem?_cons_zero, List.getElem?_cons_succ, List.set_cons_zero, List.set_cons_succ, List.getElem?_nil, Option.bind_some, Option.bind_none, Option.join_some, Option.join_none, Nat.add_one_sub_one, Nat.reduceSub, Nat.reduceAdd]); simp only [tRet, tRetN, tAndV, tOrV, tNotV, tAnd, tOr, tNot, tCall, tCons, tVar, tNil, tChain, tOp, tUn, rI0, rI, rU, tC, tB, tTest, tIf, tIfS, tSeq, tNext, tAsg, gName, tLst, tTup, tCB, tSl, tPart, tNoPart, tDrop, tBM, tAug, ipI, gTup, gCons, gNil, gSub, subσ, tYes, rEq, rNe, rIxL, rIxT, rSetL, rSlL, rSlT, iList, iTup, iRng1, iRng2, tNever, tPar, L2.start, List.map_cons, List.map_nil, List.length_cons, List.length_nil, List.replicate, List.cons_append, List.nil_append, List.append_nil, List.getElem?_cons_zero, List.getElem?_cons_succ, List.set_cons_zero, List.set_cons_succ, List.getElem?_nil, Option.bind_some, Option.bind_none, Option.join_some, Option.join_none, Option.some.injEq, V.int.injEq, V.bl.injEq, V.ref.injEq, List.cons.injEq, and_true, true_and, exists_eq_left, exists_eq_left', exists_eq_right, exists_and_left, Nat.add_one_sub_one, Nat.reduceSub, Nat.sub_self, Nat.reduceAdd, Nat.zero_add, Int.toNat_natCast, List.length_map, V.ty.injEq, V.str.injEq, and_assoc, cxOf_K, blk_K, Bool.not_true, Bool.not_false, Bool.false_eq_true, if_true, if_false]
  refine ⟨[nV (last l), nV n], SqT.of h2, rfl, _, _, rfl, _, _, rfl, rfl, ?_⟩
  have nd := wl.nodup hf hx
  have inl := wl.lt hf.bnd hx
  refine ⟨fun m σ H'' => WInv a x us l n H m σ H'', ⟨l.length, ⟨us, x, [], l, none, rfl, h1, sb, rfl, fun t => by simp, rfl, wl, rfl⟩⟩, ?_⟩
  rintro m σ H'' ⟨⟨vs, y, pre, l2, z, rfl, hv', sb', hlen, hup, el, w2, rfl⟩⟩
  have hy : y < us.length := inl y (by rw [el]; exact List.mem_append_right _ w2.mem_self)
  have np : y ∉ pre := fun hm => by
    rw [el] at nd
    exact (List.nodup_append.mp nd).2.2 y hm y w2.mem_self rfl
  have uy : up vs y = up us y := by rw [hup, if_neg np]
  (try dsimp only [tRet, tRetN, tAndV, tOrV, tNotV, tAnd, tOr, tNot, tCall, tCons, tVar, tNil, tChain, tOp, tUn, rI0, rI, rU, tC, tB, tTest, tIf, tIfS, tSeq, tNext, tAsg, gName, tLst, tTup, tCB, tSl, tPart, tNoPart, tDrop, tBM, tAug, ipI, gTup, gCons, gNil, gSub, subσ, tYes, rEq, rNe, rIxL, rIxT, rSetL, rSlL, rSlT, iList, iTup, iRng1, iRng2, tNever, tPar, L2.start, List.map_cons, List.map_nil, List.length_cons, List.length_nil, List.replicate, List.cons_append, List.nil_append, List.append_nil, List.getElem?_cons_zero, List.getElem?_cons_succ, List.set_cons_zero, List.set_cons_succ, List.getElem?_nil, Option.bind_some, Option.bind_none, Option.join_some, Option.join_none, Nat.add_one_sub_one, Nat.reduceSub, Nat.reduceAdd]); simp only [tRet, tRetN, tAndV, tOrV, tNotV, tAnd, tOr, tNot, tCall, tCons, tVar, tNil, tChain, tOp, tUn, rI0, rI, rU, tC, tB, tTest, tIf, tIfS, tSeq, tNext, tAsg, gName, tLst, tTup, tCB, tSl, tPart, tNoPart, tDrop, tBM, tAug, ipI, gTup, gCons, gNil, gSub, subσ, tYes, rEq, rNe, rIxL, rIxT, rSetL, rSlL, rSlT, iList, iTup, iRng1, iRng2, tNever, tPar, L2.start, List.map_cons, List.map_nil, List.length_cons, List.length_nil, List.replicate, List.cons_append, List.nil_append, List.append_nil, List.getElem?_cons_zero, List.getElem?_cons_succ, List.set_cons_zero, List.set_cons_succ, List.getElem?_nil, Option.bind_some, Option.bind_none, Option.join_some, Option.join_none, Option.some.injEq, V.int.injEq, V.bl.injEq, V.ref.injEq, List.cons.injEq, and_true, true_and, exists_eq_left, exists_eq_left', exists_eq_right, exists_and_left, Nat.add_one_sub_one, Nat.reduceSub, Nat.sub_self, Nat.reduceAdd, Nat.zero_add, Int.toNat_natCast, List.length_map, V.ty.injEq, V.str.injEq, and_assoc, cxOf_K, blk_K, Bool.not_true, Bool.not_false, Bool.false_eq_true, if_true, if_false]
  refine ⟨rfl, ?_⟩
  rw [show decide ((y : Int) = (last l : Int)) = decide (y = last l) by rw [Bool.eq_iff_iff, decide_eq_true_iff, decide_eq_true_iff]; omega]
  cases w2 with
  | head e =>
    have ey : y = last l := by rw [el]; simp [last]
    rw [decide_eq_true ey]
    refine ⟨by decide, fun p hp => q _ vs n p _ ⟨l, wl, rfl, hn, hlen, fun t => ?_⟩ (sb'.new hp _) (by rw [upd_ne (ne_of_none hv' hp)]; exact hv') upd_same⟩
    rw [hup]
    by_cases h3 : t ∈ pre
    · rw [if_pos h3, if_pos (by rw [el]; exact List.mem_append_left _ h3)]
    · rw [if_neg h3]
      by_cases h4 : t = y
      · rw [h4, if_pos (by rw [el]; simp), e]; exact ey
      · rw [if_neg (by rw [el]; simp [h3, h4])]
  | @step _ l3 n2 w3 =>
    have el3 : last l = last l3 := by rw [el]; exact last_app w3.ne
    have ny : y ∉ l3 := fun hm => by
      rw [el] at nd
      exact (List.nodup_cons.mp (List.nodup_append.mp nd).2.1).1 hm
    have hne : ¬ y = last l := fun e => ny (by rw [e, el3]; exact last_mem w3.ne)
    rw [decide_eq_false hne]
    refine ⟨fun σ' H3 => H3 = upd H'' a (.lst ((vs.set y (last l)).map nV)) ∧ σ' = [some (.ref a), some (nV x), some (nV (last l)), some (nV n), some (nV (up us y)), some (nV (up us y))], fun σ' H3 e => ?_, vs.map nV, SqL.of hv', _, atI_ups (by omega), vs.map nV, hv', y, ixN_of (by rw [List.length_map]; omega), ?_⟩
    · obtain ⟨rfl, rfl⟩ := e
      refine ⟨l3.length, by simp, ⟨⟨_, up us y, pre ++ [y], l3, _, rfl, upd_same, sb'.upd _, by rw [List.length_set]; exact hlen, fun t => ?_, by rw [el]; simp, w3, rfl⟩⟩⟩
      rw [up_set (by omega), hup]
      by_cases h4 : t = y
      · simp [h4]
      · simp [h4]
    · rw [set_map]
      show _ ∧ [_, _, _, _, some (nV (up vs y)), some (nV (up vs y))] = _
      rw [uy]
      exact ⟨rfl, rfl⟩
end
end O30
end
section
namespace O30
open PySem L2 Fo
structure Tabs (w : World) (K : PySem.W.Frag) (mg : Str → Option Value) (aM : Addr) (kvs : List (Str × Addr)) : Prop where
  m : mg "MANNERS" = some (.ref aM)
  tab : Tab w K aM kvs
structure Tr (H : Hp) (a : Addr) (us : List Nat) : Prop where
  it : H a = some (.tup (us.map nV))
  one : 1 ≤ us.length
  most : us.length ≤ 40
  fst : Fst us
section
variable {P : Program} {w : World} {K : PySem.W.Frag} {mg : Str → Option Value} {base : Heap} {aM : Addr} {kvs : List (Str × Addr)}
noncomputable abbrev s_is_short : Stmt := top 19
theorem sc_is_short : FnScope ["thing"] ["thing"] (defScope s_is_short) := ⟨rfl, rfl, rfl, by decide +kernel, rfl, by decide +kernel, by decide +kernel⟩
theorem ok_is_short (T : Txt mg) (TM : Tabs w K mg aM kvs) (F : FunD K mg "is_short" s_is_short ["thing"]) : Def P w K mg base 1 "is_short" ["thing"] (fun vs H Q _ => ∃ x : Str, vs = [.str x] ∧ Q (.bl (tabGet kvs x).isSome) H) := by
  refine F.ok sc_is_short (fun vs H Q E h => by obtain ⟨m, rfl, _⟩ := h; rfl) (fun f cdv A outer s H vs Q E hr h => ?_)
  obtain ⟨x, rfl, q⟩ := h
  refine ⟨_, (pss_one (ps_ret (pe_and (pe_callB (k_isinst (K := K) rfl) rfl T.n_isinstance bt_isinstance (pa_consN ns_Name (pv 0) (pa_consN ns_Name (pe_ty T.n_str bt_str) pa_nil)) (he := ns_Name _ _)) (pe_one (pe_cmp (pc_tab TM.tab (pv 0) (pe_glob (v := .ref aM) rfl TM.m rfl)) (by with_unfolding_all rfl)))))), ?_⟩
  (try dsimp only [tRet, tRetN, tAndV, tOrV, tNotV, tAnd, tOr, tNot, tCall, tCons, tVar, tNil, tChain, tOp, tUn, rI0, rI, rU, tC, tB, tTest, tIf, tIfS, tSeq, tNext, tAsg, gName, tLst, tTup, tCB, tSl, tPart, tNoPart, tDrop, tBM, tAug, ipI, gTup, gCons, gNil, gSub, subσ, tYes, rEq, rNe, rIxL, rIxT, rSetL, rSlL, rSlT, iList, iTup, iRng1, iRng2, tNever, tPar, L2.start, List.map_cons, List.map_nil, List.length_cons, List.length_nil, List.replicate, List.cons_append, List.nil_append, List.append_nil, List.getElem?_cons_zero, List.getElem?_cons_succ, List.set_cons_zero, List.set_cons_succ, List.getElem?_nil, Option.bind_some, Option.bind_none, Option.join_some, Option.join_none, Nat.add_one_sub_one, Nat.reduceSub, Nat.reduceAdd]); simp only [tRet, tRetN, tAndV, tOrV, tNotV, tAnd, tOr, tNot, tCall, tCons, tVar, tNil, tChain, tOp, tUn, rI0, rI, rU, tC, tB, tTest, tIf, tIfS, tSeq, tNext, tAsg, gName, tLst, tTup, tCB, tSl, tPart, tNoPart, tDrop, tBM, tAug, ipI, gTup, gCons, gNil, gSub, subσ, tYes, rEq, rNe, rIxL, rIxT, rSetL, rSlL, rSlT, iList, iTup, iRng1, iRng2, tNever, tPar, L2.start, List.map_cons, List.map_nil, List.length_cons, List.length_nil, List.replicate, List.cons_append, List.nil_append, List.append_nil, List.getElem?_cons_zero, List.getElem?_cons_succ, List.set_cons_zero, List.set_cons_succ, List.getElem?_nil, Option.bind_some, Option.bind_none, Option.join_some, Option.join_none, Option.some.injEq, V.int.injEq, V.bl.injEq, V.ref.injEq, List.cons.injEq, and_true, true_and, exists_eq_left, exists_eq_left', exists_eq_right, exists_and_left, Nat.add_one_sub_one, Nat.reduceSub, Nat.sub_self, Nat.reduceAdd, Nat.zero_add, Int.toNat_natCast, List.length_map, V.ty.injEq, V.str.injEq, and_assoc, cxOf_K, blk_K, Bool.not_true, Bool.not_false, Bool.false_eq_true, if_true, if_false]
  refine ⟨_, .str x, true, rfl, ?_⟩
  rw [if_pos rfl]
  exact ⟨_, rfl, x, rfl, rfl, q⟩
noncomputable abbrev s_find_in : Stmt := top 21
theorem sc_find_in : FnScope ["ups", "short", "x", "behind", "manner", "head", "steps"] ["ups", "short", "x"] (defScope s_find_in) := ⟨rfl, rfl, rfl, by decide +kernel, rfl, by decide +kernel, by decide +kernel⟩
noncomputable def spFound (kvs : List (Str × Addr)) : Sp := fun vs H Q _ => ∃ a us y x, vs = [.ref a, .str y, nV x] ∧ Tr H a us ∧ (tabGet kvs y).isSome = true ∧ x < us.length ∧ ∀ h us' n p b H', RM y us x h us' n → Same H H' → H' p = some (.tup [nV h, .ref b, nV n]) → H' b = some (.tup (us'.map nV)) → Q (.ref p) H'
theorem ok_find_in (T : Txt mg) (TM : Tabs w K mg aM kvs) (F : FunD K mg "find_in" s_find_in ["ups", "short", "x"]) (dL : ∀ f sp, (∃ y, tabGet kvs y = some f ∧ sp = spFind (RM y)) → DefA P w K mg base 2 f ["ups", "x"] sp) : Def P w K mg base 3 "find_in" ["ups", "short", "x"] (spFound kvs) := by
  refine F.ok sc_find_in (fun vs H Q E h => by obtain ⟨m, v, x, y, rfl, _⟩ := h; rfl) (fun f cdv A outer s H vs Q E hr h => ?_)
  obtain ⟨a, us, y, x, rfl, t, hy, hx, q⟩ := h
  refine ⟨_, (pss_cons (ps_set (i := 3) sc_find_in.nd rfl (by first | exact Or.inl rfl | exact Or.inr rfl) (pe_callTy (k_list_of (K := K) rfl) rfl T.n_list bt_list (pa_consN ns_Name (pv 0) pa_nil) (he := ns_Name _ _)))
    (pss_cons (ps_set (i := 4) sc_find_in.nd rfl (by first | exact Or.inl rfl | exact Or.inr rfl) (pe_tab TM.tab (pe_glob (v := .ref aM) rfl TM.m rfl) (pv 1) (fun _ _ => rfl)))
    (pss_cons (ps_asg (pe_callL dL hr (i := 4) rfl (by first | exact Or.inl rfl | exact Or.inr (Or.inl rfl)) (pa_consN ns_Name (pv 3) (pa_consN ns_Name (pv 2) pa_nil)) (he := ns_Name _ _)) (k_gtup (K := K) (n := 2) rfl rfl (pgs_cons (pg_name (i := 5) sc_find_in.nd rfl (by first | exact Or.inl rfl | exact Or.inr rfl)) (pgs_cons (pg_name (i := 6) sc_find_in.nd rfl (by first | exact Or.inl rfl | exact Or.inr rfl)) pgs_nil))))
    (pss_one (ps_ret (pe_tup (pa_consN ns_Name (pv 5) (pa_consN ns_Call (pe_callTy (k_tuple_of (K := K) rfl) rfl T.n_tuple bt_tuple (pa_consN ns_Name (pv 3) pa_nil) (he := ns_Name _ _)) (pa_consN ns_Name (pv 6) pa_nil))))))))), ?_⟩
  (try dsimp only [tRet, tRetN, tAndV, tOrV, tNotV, tAnd, tOr, tNot, tCall, tCons, tVar, tNil, tChain, tOp, tUn, rI0, rI, rU, tC, tB, tTest, tIf, tIfS, tSeq, tNext, tAsg, gName, tLst, tTup, tCB, tSl, tPart, tNoPart, tDrop, tBM, tAug, ipI, gTup, gCons, gNil, gSub, subσ, tYes, rEq, rNe, rIxL, rIxT, rSetL, rSlL, rSlT, iList, iTup, iRng1, iRng2, tNever, tPar, L2.start, List.map_cons, List.map_nil, List.length_cons, List.length_nil, List.replicate, List.cons_append, List.nil_append, List.append_nil, List.getElem?_cons_zero, List.getElem?_cons_succ, List.set_cons_zero, List.set_cons_succ, List.getElem?_nil, Option.bind_some, Option.bind_none, Option.join_some, Option.join_none, Nat.add_one_sub_one, Nat.reduceSub, Nat.reduceAdd]); simp only [tRet, tRetN, tAndV, tOrV, tNotV, tAnd, tOr, tNot, tCall, tCons, tVar, tNil, tChain, tOp, tUn, rI0, rI, rU, tC, tB, tTest, tIf, tIfS, tSeq, tNext, tAsg, gName, tLst, tTup, tCB, tSl, tPart, tNoPart, tDrop, tBM, tAug, ipI, gTup, gCons, gNil, gSub, subσ, tYes, rEq, rNe, rIxL, rIxT, rSetL, rSlL, rSlT, iList, iTup, iRng1, iRng2, tNever, tPar, L2.start, List.map_cons, List.map_nil, List.length_cons, List.length_nil, List.replicate, List.cons_append, List.nil_append, List.append_nil, List.getElem?_cons_zero, List.getElem?_cons_succ, List.set_cons_zero, List.set_cons_succ, List.getElem?_nil, Option.bind_some, Option.bind_none, Option.join_some, Option.join_none, Option.some.injEq, V.int.injEq, V.bl.injEq, V.ref.injEq, List.cons.injEq, and_true, true_and, exists_eq_left, exists_eq_left', exists_eq_right, exists_and_left, Nat.add_one_sub_one, Nat.reduceSub, Nat.sub_self, Nat.reduceAdd, Nat.zero_add, Int.toNat_natCast, List.length_map, V.ty.injEq, V.str.injEq, and_assoc, cxOf_K, blk_K, Bool.not_true, Bool.not_false, Bool.false_eq_true, if_true, if_false]
  refine ⟨us.map nV, .inr (SqT.of t.it), fun l hl => ?_⟩
  obtain ⟨f0, hf0⟩ := Option.isSome_iff_exists.mp hy
  refine ⟨_, rfl, y, f0, rfl, rfl, hf0, ?_⟩
  refine ⟨f0, _, rfl, ⟨y, hf0, rfl⟩, _, rfl, _, rfl, ?_⟩
  refine ⟨l, us, x, rfl, upd_same, t.most, t.fst, hx, fun h us' n p H1 r sb h1 h2 => ?_⟩
  refine ⟨p, rfl, [nV h, nV n], SqT.of h2, rfl, _, _, rfl, _, _, rfl, rfl, us'.map nV, .inl ⟨SqL.of h1, fun b hb => ⟨by decide, fun p2 hp2 => ?_⟩⟩⟩
  have s1 : Same H H1 := fun c o hc => sb c o (ne_of_none hc hl) (by rw [upd_ne (ne_of_none hc hl)]; exact hc)
  exact q h us' n p2 b _ r ((s1.upd hb _).upd hp2 _) upd_same (by rw [upd_ne (ne_of_none upd_same hp2)]; exact upd_same)
end
end O30
end
section
namespace O30
open PySem L2 Fo Pu
section
variable {P : Program} {w : World} {K : PySem.W.Frag} {mg : Str → Option Value} {base : Heap}
theorem FnOk.up {CX : CXT} {j k : Nat} {f : Addr} {fd : FuncData} {ps : List Str} {sp : Sp} (F : FnOk P w K mg base CX j f fd ps sp) (h : j ≤ k) : FnOk P w K mg base CX k f fd ps sp :=
  ⟨F.len, fun A outer s H args us vs Q E hr => F.run A outer s H args us vs Q E (hr.mono h)⟩
theorem DefA.up {j k : Nat} {f : Addr} {ps : List Str} {sp : Sp} (d : DefA P w K mg base j f ps sp) (h : j ≤ k) : DefA P w K mg base k f ps sp := by
  obtain ⟨fd, F, r⟩ := d
  exact ⟨fd, FnOk.up F h, r⟩
theorem find_imp {R R' : List Nat → Nat → Nat → List Nat → Nat → Prop} (i : ∀ us x h us' n, R us x h us' n → R' us x h us' n) (vs : List V) (H : Hp) (Q : VK) (E : XK) (h : spFind R' vs H Q E) : spFind R vs H Q E := by
  obtain ⟨a, us, x, rfl, h1, h2, h3, h4, q⟩ := h
  exact ⟨a, us, x, rfl, h1, h2, h3, h4, fun h us' n p H' r => q h us' n p H' (i _ _ _ _ _ r)⟩
theorem tabGet_cons (k : Str) (v : Addr) (t : List (Str × Addr)) (y : Str) : tabGet ((k, v) :: t) y = if k = y then some v else tabGet t y := by
  by_cases h : k = y
  · simp [tabGet, h]
  · simp only [tabGet, List.find?_cons, decide_eq_false h, if_neg h]
theorem all_manners {f0 f1 f2 f3 f4 : Addr} (d0 : DefA P w K mg base 1 f0 ["ups", "x"] (spFind RNone)) (d1 : DefA P w K mg base 2 f1 ["ups", "x"] (spFind RWhole)) (d2 : DefA P w K mg base 1 f2 ["ups", "x"] (spFind RHalves)) (d3 : DefA P w K mg base 1 f3 ["ups", "x"] (spFind RSplits)) (d4 : DefA P w K mg base 2 f4 ["ups", "x"] (spFind ROne)) :
    ∀ f sp, (∃ y, tabGet [("none", f0), ("whole", f1), ("halves", f2), ("splits", f3), ("one", f4)] y = some f ∧ sp = spFind (RM y)) → DefA P w K mg base 2 f ["ups", "x"] sp := by
  rintro f sp ⟨y, hy, rfl⟩
  simp only [tabGet_cons] at hy
  split at hy
  · rename_i e; subst e; cases hy; exact DefA.up (d0.imp (find_imp fun _ _ _ _ _ => RM.none)) (by decide)
  split at hy
  · rename_i e; subst e; cases hy; exact d1.imp (find_imp fun _ _ _ _ _ => RM.whole)
  split at hy
  · rename_i e; subst e; cases hy; exact DefA.up (d2.imp (find_imp fun _ _ _ _ _ => RM.halves)) (by decide)
  split at hy
  · rename_i e; subst e; cases hy; exact DefA.up (d3.imp (find_imp fun _ _ _ _ _ => RM.splits)) (by decide)
  split at hy
  · rename_i e; subst e; cases hy; exact d4.imp (find_imp fun _ _ _ _ _ => RM.one)
  · cases hy
end
theorem tab_manners (f0 f1 f2 f3 f4 : Addr) (y : Str) : (tabGet [("none", f0), ("whole", f1), ("halves", f2), ("splits", f3), ("one", f4)] y).isSome = decide (y ∈ manners) := by
  rw [Bool.eq_iff_iff, decide_eq_true_iff]
  unfold tabGet manners
  rw [Option.isSome_map, List.find?_isSome]
  simp [eq_comm]
theorem br_is_short {P : Program} {w : World} {K : PySem.W.Frag} {mg : Str → Option Value} {base : Heap} {kvs : List (Str × Addr)} (hk : ∀ y, (tabGet kvs y).isSome = decide (y ∈ manners)) (d : Def P w K mg base 1 "is_short" ["thing"] (fun vs H Q _ => ∃ x : Str, vs = [.str x] ∧ Q (.bl (tabGet kvs x).isSome) H)) : Def P w K mg base 1 "is_short" ["thing"] (spP K W_is_short) := Pu.Def.imp d fun vs H Q E ⟨F, ps, Qp, sF, rs, hW, k⟩ => by
  obtain ⟨y, rfl, hq⟩ := hW
  obtain ⟨v1, t1, rfl, r1, e⟩ := rs
  cases (show t1 = [] from e)
  cases (show v1 = .str y from r1)
  exact ⟨y, rfl, by rw [hk]; exact k (.v (.bl _)) _ F H hq (.refl sF) rfl⟩
theorem br_find_in {P : Program} {w : World} {K : PySem.W.Frag} {mg : Str → Option Value} {base : Heap} {kvs : List (Str × Addr)} (hk : ∀ y, (tabGet kvs y).isSome = decide (y ∈ manners)) (d : Def P w K mg base 3 "find_in" ["ups", "short", "x"] (spFound kvs)) : Def P w K mg base 3 "find_in" ["ups", "short", "x"] (spP K W_find_in) := Pu.Def.imp d fun vs H Q E ⟨F, ps, Qp, sF, rs, hW, k⟩ => by
  obtain ⟨us, y, x, rfl, f, hy, hx, hq⟩ := hW
  obtain ⟨v1, t1, rfl, r1, v2, t2, e2, r2, v3, t3, e3, r3, e4⟩ := rs
  subst e2
  subst e3
  cases (show t3 = [] from e4)
  obtain ⟨a, ws, rfl, hF, rw1⟩ := r1
  cases (show v2 = .str y from r2)
  cases (show v3 = .int x from r3)
  have ew := reps_nums_eq rw1
  subst ew
  refine ⟨a, us, y, x, rfl, ⟨sF _ _ hF, f.one, f.most, f.fst⟩, by rw [hk]; exact decide_eq_true hy, hx, fun h us' n p b H' r s hp hb => ?_⟩
  have g0 : Grow F H F H' := ⟨s, Same.refl _, sF.trans s, fun _ _ e => .inl e⟩
  obtain ⟨g1, s1⟩ := g0.tup hb
  obtain ⟨g2, s2⟩ := g1.tup hp
  exact k (.v (.tup [nI h, .tup (nums us'), nI n])) (.ref p) _ H' (hq h us' n r) g2 ⟨p, _, rfl, upd_same, _, _, rfl, rfl, _, _, rfl, ⟨b, _, rfl, s2 _ _ upd_same, reps_nums us'⟩, _, _, rfl, rfl, rfl⟩
end O30
end
end
section
namespace K30
open PySem L2 Fo Pu Dp
open O30 (Txt top Tabs)
structure Kon (w : World) (K : PySem.W.Frag) (mg : Str → Option Value) : Prop where
  k_JOINS : ∃ a, mg "JOINS" = some (.ref a) ∧ KTup K a [.str "size", .str "rank", .str "told", .str "names"]
noncomputable abbrev s_find_none : Stmt := top 13
theorem sc_find_none : FnScope ["ups", "x", "at", "steps"] ["ups", "x"] (defScope s_find_none) := ⟨rfl, rfl, rfl, by decide +kernel, rfl, by decide +kernel, by decide +kernel⟩
noncomputable abbrev s_find_whole : Stmt := top 14
theorem sc_find_whole : FnScope ["ups", "x", "head", "steps", "at", "above"] ["ups", "x"] (defScope s_find_whole) := ⟨rfl, rfl, rfl, by decide +kernel, rfl, by decide +kernel, by decide +kernel⟩
noncomputable abbrev s_find_halves : Stmt := top 15
theorem sc_find_halves : FnScope ["ups", "x", "at", "steps"] ["ups", "x"] (defScope s_find_halves) := ⟨rfl, rfl, rfl, by decide +kernel, rfl, by decide +kernel, by decide +kernel⟩
noncomputable abbrev s_find_splits : Stmt := top 16
theorem sc_find_splits : FnScope ["ups", "x", "at", "steps", "above"] ["ups", "x"] (defScope s_find_splits) := ⟨rfl, rfl, rfl, by decide +kernel, rfl, by decide +kernel, by decide +kernel⟩
noncomputable abbrev s_find_one : Stmt := top 17
theorem sc_find_one : FnScope ["ups", "x", "head", "steps"] ["ups", "x"] (defScope s_find_one) := ⟨rfl, rfl, rfl, by decide +kernel, rfl, by decide +kernel, by decide +kernel⟩
noncomputable abbrev s__law_numbers : Stmt := top 43
theorem sc__law_numbers : FnScope ["_law_cell_here", "_law_many_here", "_law_some", "_law_state", "_law_digits", "_law_k"] ["_law_cell_here", "_law_many_here"] (defScope s__law_numbers) := ⟨rfl, rfl, rfl, by decide +kernel, rfl, by decide +kernel, by decide +kernel⟩
noncomputable abbrev s__law_many : Stmt := top 44
theorem sc__law_many : FnScope ["_law_x"] ["_law_x"] (defScope s__law_many) := ⟨rfl, rfl, rfl, by decide +kernel, rfl, by decide +kernel, by decide +kernel⟩
noncomputable abbrev s__law_cell : Stmt := top 42
theorem sc__law_cell : FnScope ["_law_script", "_law_k", "_law_state", "_law_cell_here"] ["_law_script", "_law_k"] (defScope s__law_cell) := ⟨rfl, rfl, rfl, by decide +kernel, rfl, by decide +kernel, by decide +kernel⟩
noncomputable abbrev s__law_joins : Stmt := top 45
theorem sc__law_joins : FnScope ["_law_script", "_law_at", "_law_many_here", "_law_most", "_law_head", "_law_row", "_law_k", "_law_xs", "_law_x", "_law_y"] ["_law_script", "_law_at", "_law_many_here", "_law_most"] (defScope s__law_joins) := ⟨rfl, rfl, rfl, by decide +kernel, rfl, by decide +kernel, by decide +kernel⟩
noncomputable abbrev s__law_drawn : Stmt := top 51
theorem sc__law_drawn : FnScope ["_law_script", "_law_at", "_law_head", "_law_many_here"] ["_law_script", "_law_at"] (defScope s__law_drawn) := ⟨rfl, rfl, rfl, by decide +kernel, rfl, by decide +kernel, by decide +kernel⟩
noncomputable abbrev s__law_new : Stmt := top 48
theorem sc__law_new : FnScope ["_law_many_here", "_law_join", "_law_short"] ["_law_many_here", "_law_join", "_law_short"] (defScope s__law_new) := ⟨rfl, rfl, rfl, by decide +kernel, rfl, by decide +kernel, by decide +kernel⟩
noncomputable abbrev s__law_way : Stmt := top 46
theorem sc__law_way : FnScope ["_law_ups", "_law_x", "_law_way_here"] ["_law_ups", "_law_x"] (defScope s__law_way) := ⟨rfl, rfl, rfl, by decide +kernel, rfl, by decide +kernel, by decide +kernel⟩
noncomputable abbrev s__law_find : Stmt := top 47
theorem sc__law_find : FnScope ["_law_ups", "_law_short", "_law_x", "_law_way_here", "_law_head", "_law_thing", "_law_steps", "_law_here", "_law_up"] ["_law_ups", "_law_short", "_law_x"] (defScope s__law_find) := ⟨rfl, rfl, rfl, by decide +kernel, rfl, by decide +kernel, by decide +kernel⟩
noncomputable abbrev s__law_linked : Stmt := top 49
theorem sc__law_linked : FnScope ["_law_join", "_law_ups", "_law_marks", "_law_one", "_law_other", "_law_stays", "_law_goes"] ["_law_join", "_law_ups", "_law_marks", "_law_one", "_law_other"] (defScope s__law_linked) := ⟨rfl, rfl, rfl, by decide +kernel, rfl, by decide +kernel, by decide +kernel⟩
noncomputable abbrev s__law_deed : Stmt := top 50
theorem sc__law_deed : FnScope ["_law_store", "_law_deed_here", "_law_join", "_law_short", "_law_ups", "_law_marks", "_law_one", "_law_steps", "_law_other", "_law_more"] ["_law_store", "_law_deed_here"] (defScope s__law_deed) := ⟨rfl, rfl, rfl, by decide +kernel, rfl, by decide +kernel, by decide +kernel⟩
noncomputable abbrev s__law_times : Stmt := top 52
theorem sc__law_times : FnScope ["_law_many_here", "_law_row", "_law_store", "_law_times_here", "_law_number", "_law_x", "_law_y", "_law_behind", "_law_k"] ["_law_many_here", "_law_row"] (defScope s__law_times) := ⟨rfl, rfl, rfl, by decide +kernel, rfl, by decide +kernel, by decide +kernel⟩
noncomputable abbrev s_is_whole : Stmt := top 8
theorem sc_is_whole : FnScope ["thing"] ["thing"] (defScope s_is_whole) := ⟨rfl, rfl, rfl, by decide +kernel, rfl, by decide +kernel, by decide +kernel⟩
noncomputable abbrev s_is_many : Stmt := top 9
theorem sc_is_many : FnScope ["thing"] ["thing"] (defScope s_is_many) := ⟨rfl, rfl, rfl, by decide +kernel, rfl, by decide +kernel, by decide +kernel⟩
noncomputable abbrev s_check_many : Stmt := top 11
theorem sc_check_many : FnScope ["many"] ["many"] (defScope s_check_many) := ⟨rfl, rfl, rfl, by decide +kernel, rfl, by decide +kernel, by decide +kernel⟩
noncomputable abbrev s_check_row : Stmt := top 24
theorem sc_check_row : FnScope ["many", "row", "is_right", "number", "place"] ["many", "row", "is_right"] (defScope s_check_row) := ⟨rfl, rfl, rfl, by decide +kernel, rfl, by decide +kernel, by decide +kernel⟩
noncomputable abbrev s_is_thing : Stmt := top 10
theorem sc_is_thing : FnScope ["many", "thing"] ["many", "thing"] (defScope s_is_thing) := ⟨rfl, rfl, rfl, by decide +kernel, rfl, by decide +kernel, by decide +kernel⟩
noncomputable abbrev s_is_pair : Stmt := top 23
theorem sc_is_pair : FnScope ["many", "thing"] ["many", "thing"] (defScope s_is_pair) := ⟨rfl, rfl, rfl, by decide +kernel, rfl, by decide +kernel, by decide +kernel⟩
noncomputable abbrev s_check_joins : Stmt := top 25
theorem sc_check_joins : FnScope ["many", "row"] ["many", "row"] (defScope s_check_joins) := ⟨rfl, rfl, rfl, by decide +kernel, rfl, by decide +kernel, by decide +kernel⟩
noncomputable abbrev s_check_many_and_row : Stmt := top 39
theorem sc_check_many_and_row : FnScope ["many", "row"] ["many", "row"] (defScope s_check_many_and_row) := ⟨rfl, rfl, rfl, by decide +kernel, rfl, by decide +kernel, by decide +kernel⟩
noncomputable abbrev s_is_way_of_joining : Stmt := top 34
theorem sc_is_way_of_joining : FnScope ["thing"] ["thing"] (defScope s_is_way_of_joining) := ⟨rfl, rfl, rfl, by decide +kernel, rfl, by decide +kernel, by decide +kernel⟩
noncomputable abbrev s_check_join : Stmt := top 35
theorem sc_check_join : FnScope ["join"] ["join"] (defScope s_check_join) := ⟨rfl, rfl, rfl, by decide +kernel, rfl, by decide +kernel, by decide +kernel⟩
noncomputable abbrev s_is_short : Stmt := top 19
theorem sc_is_short : FnScope ["thing"] ["thing"] (defScope s_is_short) := ⟨rfl, rfl, rfl, by decide +kernel, rfl, by decide +kernel, by decide +kernel⟩
noncomputable abbrev s_check_short : Stmt := top 20
theorem sc_check_short : FnScope ["short"] ["short"] (defScope s_check_short) := ⟨rfl, rfl, rfl, by decide +kernel, rfl, by decide +kernel, by decide +kernel⟩
noncomputable abbrev s_new_store : Stmt := top 36
theorem sc_new_store : FnScope ["many", "join", "short", "mark"] ["many", "join", "short"] (defScope s_new_store) := ⟨rfl, rfl, rfl, by decide +kernel, rfl, by decide +kernel, by decide +kernel⟩
noncomputable abbrev s_find_in : Stmt := top 21
theorem sc_find_in : FnScope ["ups", "short", "x", "behind", "manner", "head", "steps"] ["ups", "short", "x"] (defScope s_find_in) := ⟨rfl, rfl, rfl, by decide +kernel, rfl, by decide +kernel, by decide +kernel⟩
noncomputable abbrev s_copied : Stmt := top 29
theorem sc_copied : FnScope ["numbers"] ["numbers"] (defScope s_copied) := ⟨rfl, rfl, rfl, by decide +kernel, rfl, by decide +kernel, by decide +kernel⟩
noncomputable abbrev s_find_done : Stmt := top 30
theorem sc_find_done : FnScope ["store", "x", "join", "short", "ups", "marks", "head", "behind", "steps"] ["store", "x"] (defScope s_find_done) := ⟨rfl, rfl, rfl, by decide +kernel, rfl, by decide +kernel, by decide +kernel⟩
noncomputable abbrev s_first_stays : Stmt := top 26
theorem sc_first_stays : FnScope ["join", "marks", "first", "second"] ["join", "marks", "first", "second"] (defScope s_first_stays) := ⟨rfl, rfl, rfl, by decide +kernel, rfl, by decide +kernel, by decide +kernel⟩
noncomputable abbrev s_mark_behind : Stmt := top 27
theorem sc_mark_behind : FnScope ["join", "top", "under"] ["join", "top", "under"] (defScope s_mark_behind) := ⟨rfl, rfl, rfl, by decide +kernel, rfl, by decide +kernel, by decide +kernel⟩
noncomputable abbrev s_with_heads_joined : Stmt := top 28
theorem sc_with_heads_joined : FnScope ["store", "first", "second", "join", "short", "ups", "marks", "stays", "top", "under", "new_ups", "new_marks"] ["store", "first", "second"] (defScope s_with_heads_joined) := ⟨rfl, rfl, rfl, by decide +kernel, rfl, by decide +kernel, by decide +kernel⟩
noncomputable abbrev s_join_done : Stmt := top 31
theorem sc_join_done : FnScope ["store", "x", "y", "after_x", "first", "steps_x", "after_y", "second", "steps_y", "steps"] ["store", "x", "y"] (defScope s_join_done) := ⟨rfl, rfl, rfl, by decide +kernel, rfl, by decide +kernel, by decide +kernel⟩
noncomputable abbrev s_forest_and_times : Stmt := top 38
theorem sc_forest_and_times : FnScope ["many", "row", "store", "times", "number", "x", "y", "behind", "real", "steps", "thing"] ["many", "row"] (defScope s_forest_and_times) := ⟨rfl, rfl, rfl, by decide +kernel, rfl, by decide +kernel, by decide +kernel⟩
noncomputable abbrev s_times_of : Stmt := top 40
theorem sc_times_of : FnScope ["many", "row"] ["many", "row"] (defScope s_times_of) := ⟨rfl, rfl, rfl, by decide +kernel, rfl, by decide +kernel, by decide +kernel⟩
noncomputable abbrev s__law_right : Stmt := top 53
theorem sc__law_right : FnScope ["_law_many_here", "_law_row", "_law_due", "_law_told", "_law_ups", "_law_times_here", "_law_x", "_law_up"] ["_law_many_here", "_law_row"] (defScope s__law_right) := ⟨rfl, rfl, rfl, by decide +kernel, rfl, by decide +kernel, by decide +kernel⟩
noncomputable abbrev s_law : Stmt := top 54
theorem sc_law : FnScope ["_law_script", "_law_at", "_law_many_here", "_law_row"] ["_law_script"] (defScope s_law) := ⟨rfl, rfl, rfl, by decide +kernel, rfl, by decide +kernel, by decide +kernel⟩
end K30
end
section
namespace K30
open PySem L2 Fo Pu Dp
open O30 (Txt top Tabs)
section
variable {P : Program} {w : World} {K : PySem.W.Frag} {mg : Str → Option Value} {base : Heap}
theorem ok__law_numbers (T : Txt mg) (F : FunD K mg "_law_numbers" s__law_numbers ["_law_cell_here", "_law_many_here"]) : Def P w K mg base 1 "_law_numbers" ["_law_cell_here", "_law_many_here"] (spP K (fnP F__law_numbers)) :=
  d_def F sc__law_numbers (fun f cdv A outer s H E hr => (s_cons (s_own2 (d_lst a_nil) sc__law_numbers.nd rfl (by first | exact Or.inl rfl | exact Or.inr rfl))
    (s_cons (s_set (ps_set (i := 3) sc__law_numbers.nd rfl (by first | exact Or.inl rfl | exact Or.inr rfl) (DE.ee (d_mod (d_mul (d_add (d_mod (d_v (pv 0)) d_int) d_int) d_int) d_int))))
    (s_cons (s_set (ps_set (i := 4) sc__law_numbers.nd rfl (by first | exact Or.inl rfl | exact Or.inr rfl) (DE.ee d_int)))
    (s_cons (s_if (b_w (w_or (b_cmp c_lt (d_v (pv 0)) d_int (nomark _)) (w_or1 (b_cmp c_ge (d_v (pv 0)) (d_pow d_int d_int) (nomark _))))) (s_one (s_set (ps_set (i := 4) sc__law_numbers.nd rfl (by first | exact Or.inl rfl | exact Or.inr rfl) (DE.ee (d_cb rc_abs kAbs_ok (pe_callB call_abs rfl T.n_abs bt_abs (DA.t (a_cons ns_Name (d_v (pv 0)) a_nil)) (he := ns_Name _ _))))))) s_nil)
    (s_cons (s_for r_name (ps_for PassesOwn.never rfl (i_rng1 (pi_range1 rfl T.n_range (DA.t (a_cons ns_Name (d_v (pv 1)) a_nil)))) (pg_name (i := 5) sc__law_numbers.nd rfl (by first | exact Or.inl rfl | exact Or.inr rfl)) (s_cons (s_set (ps_set (i := 3) sc__law_numbers.nd rfl (by first | exact Or.inl rfl | exact Or.inr rfl) (DE.ee (d_mod (d_add (d_add (d_mul (d_v (pv 3)) (d_add (d_mod (d_v (pv 3)) d_int) d_int)) (d_mul d_int (d_v (pv 5)))) d_int) d_int))))
    (s_cons (s_app (ps_expr (pe_bm PySem.F.plainAttrs_list PySem.F.slot_list_append PySem.F.type_list_append mt_append (pv 2) (DA.f (a_cons ns_Subscript (d_ix (d_lst (a_cons ns_Name (d_v (pv 3)) (a_cons ns_BinOp (d_mod (d_v (pv 4)) d_int) a_nil))) (d_cb rc_int kInt_ok (pe_callTy call_int1 rfl T.n_int bt_int (DA.t (a_cons ns_Compare (d_cmp c_gt (d_v (pv 4)) d_int (nomark _)) a_nil)) (he := ns_Compare _ _))) (fun _ _ => rfl)) a_nil)))))
    (s_one (s_set (ps_set (i := 4) sc__law_numbers.nd rfl (by first | exact Or.inl rfl | exact Or.inr rfl) (DE.ee (d_div (d_v (pv 4)) d_int)))))))))
    (s_one (s_retV (pv 2)))))))))
theorem ok_is_whole (T : Txt mg) (F : FunD K mg "is_whole" s_is_whole ["thing"]) : Def P w K mg base 1 "is_whole" ["thing"] (spP K (fnP F_is_whole)) :=
  d_def F sc_is_whole (fun f cdv A outer s H E hr => (s_one (s_ret (d_and (d_cb rc_isI kIs_ok (pe_callB call_isinst rfl T.n_isinstance bt_isinstance (DA.t (a_cons ns_Name (d_v (pv 0)) (a_cons ns_Name (d_c (pu_c (p := .ty "int") (pe_ty T.n_int bt_int))) a_nil))) (he := ns_Name _ _))) (d_one (d_not (d_cb rc_isI kIs_ok (pe_callB call_isinst rfl T.n_isinstance bt_isinstance (DA.t (a_cons ns_Name (d_v (pv 0)) (a_cons ns_Name (d_c (pu_c (p := .ty "bool") (pe_ty T.n_bool bt_bool))) a_nil))) (he := ns_Name _ _)))))))))
theorem ok_is_many (T : Txt mg) (F : FunD K mg "is_many" s_is_many ["thing"]) (d_is_whole : Def P w K mg base 1 "is_whole" ["thing"] (spP K (fnP F_is_whole))) : Def P w K mg base 2 "is_many" ["thing"] (spP K (fnP F_is_many)) :=
  d_def F sc_is_many (fun f cdv A outer s H E hr => (s_one (s_ret (d_and (d_callD d_is_whole hr (a_cons ns_Name (d_v (pv 0)) a_nil) (he := ns_Name _ _)) (d_one (d_ch c_le c_le d_int (d_v (pv 0)) (d_c (pu_c (p := .int 40) (pe_cst T.c_MOST_THINGS))) (by with_unfolding_all rfl)))))))
theorem ok_check_many (T : Txt mg) (F : FunD K mg "check_many" s_check_many ["many"]) (d_is_many : Def P w K mg base 2 "is_many" ["thing"] (spP K (fnP F_is_many))) : Def P w K mg base 3 "check_many" ["many"] (spP K (fnP F_check_many)) :=
  d_def F sc_check_many (fun f cdv A outer s H E hr => (s_one (s_if (b_not (b_val (d_callD d_is_many hr (a_cons ns_Name (d_v (pv 0)) a_nil) (he := ns_Name _ _)))) (s_one s_bad) s_nil)))
theorem ok_is_thing (T : Txt mg) (F : FunD K mg "is_thing" s_is_thing ["many", "thing"]) (d_is_whole : Def P w K mg base 1 "is_whole" ["thing"] (spP K (fnP F_is_whole))) : Def P w K mg base 2 "is_thing" ["many", "thing"] (spP K (fnP F_is_thing)) :=
  d_def F sc_is_thing (fun f cdv A outer s H E hr => (s_one (s_ret (d_and (d_callD d_is_whole hr (a_cons ns_Name (d_v (pv 1)) a_nil) (he := ns_Name _ _)) (d_one (d_ch c_le c_lt d_int (d_v (pv 1)) (d_v (pv 0)) (by with_unfolding_all rfl)))))))
theorem ok_is_pair (T : Txt mg) (F : FunD K mg "is_pair" s_is_pair ["many", "thing"]) (d_is_thing : Def P w K mg base 2 "is_thing" ["many", "thing"] (spP K (fnP F_is_thing))) : Def P w K mg base 3 "is_pair" ["many", "thing"] (spP K (fnP F_is_pair)) :=
  d_def F sc_is_pair (fun f cdv A outer s H E hr => (s_cons (s_if (b_w (w_or (b_not (b_val (d_cb rc_isI kIs_ok (pe_callB call_isinst rfl T.n_isinstance bt_isinstance (DA.t (a_cons ns_Name (d_v (pv 1)) (a_cons ns_Name (d_c (pu_c (p := .ty "tuple") (pe_ty T.n_tuple bt_tuple))) a_nil))) (he := ns_Name _ _))))) (w_or1 (b_cmp (c_ne hr.units) (d_cb rc_len kLen_ok (pe_callB call_len rfl T.n_len bt_len (DA.t (a_cons ns_Name (d_v (pv 1)) a_nil)) (he := ns_Name _ _))) d_int (nomark _))))) (s_one (s_ret d_bl)) s_nil)
    (s_one (s_ret (d_and (d_callD d_is_thing hr (a_cons ns_Name (d_v (pv 0)) (a_cons ns_Subscript (d_ix (d_v (pv 1)) d_int (fun _ _ => rfl)) a_nil)) (he := ns_Name _ _)) (d_one (d_callD d_is_thing hr (a_cons ns_Name (d_v (pv 0)) (a_cons ns_Subscript (d_ix (d_v (pv 1)) d_int (fun _ _ => rfl)) a_nil)) (he := ns_Name _ _))))))))
theorem ok_mark_behind (T : Txt mg) (F : FunD K mg "mark_behind" s_mark_behind ["join", "top", "under"]) : Def P w K mg base 1 "mark_behind" ["join", "top", "under"] (spP K (fnP F_mark_behind)) :=
  d_def F sc_mark_behind (fun f cdv A outer s H E hr => (s_cons (s_if (b_cmp (c_eq hr.units) (d_v (pv 0)) d_str (nomark _)) (s_one (s_ret (d_add (d_v (pv 1)) (d_v (pv 2))))) s_nil)
    (s_cons (s_if (b_w (w_and (b_cmp (c_eq hr.units) (d_v (pv 0)) d_str (nomark _)) (w_and1 (b_cmp (c_eq hr.units) (d_v (pv 1)) (d_v (pv 2)) (nomark _))))) (s_one (s_ret (d_add (d_v (pv 1)) d_int))) s_nil)
    (s_one (s_retV (pv 1))))))
theorem ok_forest_and_times (T : Txt mg) (F : FunD K mg "forest_and_times" s_forest_and_times ["many", "row"]) (d_new_store : Def P w K mg base 4 "new_store" ["many", "join", "short"] (spP K (fnP F_new_store))) (d_join_done : Def P w K mg base 5 "join_done" ["store", "x", "y"] (spP K (fnP F_join_done))) : Def P w K mg base 6 "forest_and_times" ["many", "row"] (spP K (fnP F_forest_and_times)) :=
  d_def F sc_forest_and_times (fun f cdv A outer s H E hr => (s_cons (s_set (ps_set (i := 2) sc_forest_and_times.nd rfl (by first | exact Or.inl rfl | exact Or.inr rfl) (DE.ee (d_callD d_new_store hr (a_cons ns_Name (d_v (pv 0)) (a_cons ns_Constant d_str (a_cons ns_Constant d_str a_nil))) (he := ns_Name _ _)))))
    (s_cons (s_own2 (d_mul (d_lst (a_cons ns_Constant d_non a_nil)) (d_v (pv 0))) sc_forest_and_times.nd rfl (by first | exact Or.inl rfl | exact Or.inr rfl))
    (s_cons (s_for (r_tup (r_cons r_name (r_cons (r_tup (r_cons r_name (r_cons r_name r_nil))) r_nil))) (ps_for PassesOwn.never rfl (i_enumT (pi_enumT rfl T.n_enumerate (DA.f (a_cons ns_Name (d_v (pv 1)) a_nil)))) (k_gtup (K := K) (n := 2) rfl rfl (pgs_cons (pg_name (i := 4) sc_forest_and_times.nd rfl (by first | exact Or.inl rfl | exact Or.inr rfl)) (pgs_cons (k_gtup (K := K) (n := 2) rfl rfl (pgs_cons (pg_name (i := 5) sc_forest_and_times.nd rfl (by first | exact Or.inl rfl | exact Or.inr rfl)) (pgs_cons (pg_name (i := 6) sc_forest_and_times.nd rfl (by first | exact Or.inl rfl | exact Or.inr rfl)) pgs_nil))) pgs_nil))) (s_cons (s_asg (r_tup (r_cons r_name (r_cons r_name (r_cons r_name r_nil)))) (ps_asg (DE.ee (d_callD d_join_done hr (a_cons ns_Name (d_v (pv 2)) (a_cons ns_Name (d_v (pv 5)) (a_cons ns_Name (d_v (pv 6)) a_nil))) (he := ns_Name _ _))) (k_gtup (K := K) (n := 3) rfl rfl (pgs_cons (pg_name (i := 7) sc_forest_and_times.nd rfl (by first | exact Or.inl rfl | exact Or.inr rfl)) (pgs_cons (pg_name (i := 8) sc_forest_and_times.nd rfl (by first | exact Or.inl rfl | exact Or.inr rfl)) (pgs_cons (pg_name (i := 9) sc_forest_and_times.nd rfl (by first | exact Or.inl rfl | exact Or.inr rfl)) pgs_nil))))))
    (s_cons (s_for r_name (ps_for PassesOwn.never rfl (i_rng1 (pi_range1 rfl T.n_range (DA.t (a_cons ns_Name (d_v (pv 0)) a_nil)))) (pg_name (i := 10) sc_forest_and_times.nd rfl (by first | exact Or.inl rfl | exact Or.inr rfl)) (s_one (s_if (b_cmp (c_ne hr.units) (d_ix (d_ix (d_v (pv 7)) d_int (fun _ _ => rfl)) (d_v (pv 10)) (fun _ _ => rfl)) (d_ix (d_ix (d_v (pv 2)) d_int (fun _ _ => rfl)) (d_v (pv 10)) (fun _ _ => rfl)) (nomark _)) (s_one (s_put (ps_asg (DE.ee (d_v (pv 4))) (pg_sub (pv 3) (DE.ee (d_v (pv 10))) set_list)))) s_nil))))
    (s_one (s_set (ps_set (i := 2) sc_forest_and_times.nd rfl (by first | exact Or.inl rfl | exact Or.inr rfl) (DE.ee (d_v (pv 7))))))))))
    (s_one (s_ret (d_tup (a_cons ns_Subscript (d_ix (d_v (pv 2)) d_int (fun _ _ => rfl)) (a_cons ns_Call (d_cb rc_tup kTup_ok (pe_callTy call_tuple_of rfl T.n_tuple bt_tuple (DA.t (a_cons ns_Name (d_v (pv 3)) a_nil)) (he := ns_Name _ _))) a_nil)))))))))
end
end K30
end
section
namespace K30
open PySem L2 Fo Pu Dp
open O30 (Txt top Tabs)
section
variable {P : Program} {w : World} {K : PySem.W.Frag} {mg : Str → Option Value} {base : Heap}
theorem ok__law_many (T : Txt mg) (F : FunD K mg "_law_many" s__law_many ["_law_x"]) : Def P w K mg base 1 "_law_many" ["_law_x"] (spP K (fnP F__law_many)) :=
  d_def F sc__law_many (fun f cdv A outer s H E hr => (s_one (s_ret (d_ix (d_lst (a_cons ns_BinOp (d_add d_int (d_mod (d_div (d_v (pv 0)) d_int) d_int)) (a_cons ns_BinOp (d_add d_int (d_mod (d_div (d_v (pv 0)) d_int) d_int)) a_nil))) (d_cb rc_int kInt_ok (pe_callTy call_int1 rfl T.n_int bt_int (DA.t (a_cons ns_Compare (d_cmp (c_eq hr.units) (d_mod (d_v (pv 0)) d_int) d_int (nomark _)) a_nil)) (he := ns_Compare _ _))) (fun _ _ => rfl)))))
theorem ok__law_way (T : Txt mg) (F : FunD K mg "_law_way" s__law_way ["_law_ups", "_law_x"]) : Def P w K mg base 1 "_law_way" ["_law_ups", "_law_x"] (spP K (fnP F__law_way)) :=
  d_def F sc__law_way (fun f cdv A outer s H E hr => (s_cons (s_own2 (d_lst (a_cons ns_Name (d_v (pv 1)) a_nil)) sc__law_way.nd rfl (by first | exact Or.inl rfl | exact Or.inr rfl))
    (s_cons (s_while (ps_while PassesOwn.never (b_w (w_and (b_cmp (c_ne hr.units) (d_ix (d_v (pv 0)) (d_ix (d_v (pv 2)) (d_neg d_int) (fun _ _ => rfl)) (fun _ _ => rfl)) (d_ix (d_v (pv 2)) (d_neg d_int) (fun _ _ => rfl)) (nomark _)) (w_and1 (b_cmp c_le (d_cb rc_len kLen_ok (pe_callB call_len rfl T.n_len bt_len (DA.t (a_cons ns_Name (d_v (pv 2)) a_nil)) (he := ns_Name _ _))) (d_cb rc_len kLen_ok (pe_callB call_len rfl T.n_len bt_len (DA.t (a_cons ns_Name (d_v (pv 0)) a_nil)) (he := ns_Name _ _))) (nomark _))))) (s_one (s_app (ps_expr (pe_bm PySem.F.plainAttrs_list PySem.F.slot_list_append PySem.F.type_list_append mt_append (pv 2) (DA.f (a_cons ns_Subscript (d_ix (d_v (pv 0)) (d_ix (d_v (pv 2)) (d_neg d_int) (fun _ _ => rfl)) (fun _ _ => rfl)) a_nil))))))))
    (s_one (s_retV (pv 2))))))
theorem ok__law_deed (T : Txt mg) (F : FunD K mg "_law_deed" s__law_deed ["_law_store", "_law_deed_here"]) (d__law_find : Def P w K mg base 2 "_law_find" ["_law_ups", "_law_short", "_law_x"] (spP K (fnP F__law_find))) (d__law_linked : Def P w K mg base 1 "_law_linked" ["_law_join", "_law_ups", "_law_marks", "_law_one", "_law_other"] (spP K (fnP F__law_linked))) : Def P w K mg base 3 "_law_deed" ["_law_store", "_law_deed_here"] (spP K (fnP F__law_deed)) :=
  d_def F sc__law_deed (fun f cdv A outer s H E hr => (s_cons (s_asg (r_tup (r_cons r_name (r_cons r_name (r_cons r_name (r_cons r_name r_nil))))) (ps_asg (DE.ee (d_v (pv 0))) (k_gtup (K := K) (n := 4) rfl rfl (pgs_cons (pg_name (i := 2) sc__law_deed.nd rfl (by first | exact Or.inl rfl | exact Or.inr rfl)) (pgs_cons (pg_name (i := 3) sc__law_deed.nd rfl (by first | exact Or.inl rfl | exact Or.inr rfl)) (pgs_cons (pg_name (i := 4) sc__law_deed.nd rfl (by first | exact Or.inl rfl | exact Or.inr rfl)) (pgs_cons (pg_name (i := 5) sc__law_deed.nd rfl (by first | exact Or.inl rfl | exact Or.inr rfl)) pgs_nil)))))))
    (s_cons (s_asg (r_tup (r_cons r_name (r_cons r_name (r_cons r_name r_nil)))) (ps_asg (DE.ee (d_callD d__law_find hr (a_cons ns_Name (d_v (pv 4)) (a_cons ns_Name (d_v (pv 3)) (a_cons ns_Subscript (d_ix (d_v (pv 1)) d_int (fun _ _ => rfl)) a_nil))) (he := ns_Name _ _))) (k_gtup (K := K) (n := 3) rfl rfl (pgs_cons (pg_name (i := 6) sc__law_deed.nd rfl (by first | exact Or.inl rfl | exact Or.inr rfl)) (pgs_cons (pg_name (i := 4) sc__law_deed.nd rfl (by first | exact Or.inl rfl | exact Or.inr rfl)) (pgs_cons (pg_name (i := 7) sc__law_deed.nd rfl (by first | exact Or.inl rfl | exact Or.inr rfl)) pgs_nil))))))
    (s_cons (s_if (b_cmp (c_eq hr.units) (d_ix (d_v (pv 1)) d_int (fun _ _ => rfl)) d_str (nomark _)) (s_one (s_ret (d_tup (a_cons ns_Tuple (d_tup (a_cons ns_Name (d_v (pv 2)) (a_cons ns_Name (d_v (pv 3)) (a_cons ns_Name (d_v (pv 4)) (a_cons ns_Name (d_v (pv 5)) a_nil))))) (a_cons ns_Name (d_v (pv 6)) (a_cons ns_Name (d_v (pv 7)) a_nil)))))) s_nil)
    (s_cons (s_asg (r_tup (r_cons r_name (r_cons r_name (r_cons r_name r_nil)))) (ps_asg (DE.ee (d_callD d__law_find hr (a_cons ns_Name (d_v (pv 4)) (a_cons ns_Name (d_v (pv 3)) (a_cons ns_Subscript (d_ix (d_v (pv 1)) d_int (fun _ _ => rfl)) a_nil))) (he := ns_Name _ _))) (k_gtup (K := K) (n := 3) rfl rfl (pgs_cons (pg_name (i := 8) sc__law_deed.nd rfl (by first | exact Or.inl rfl | exact Or.inr rfl)) (pgs_cons (pg_name (i := 4) sc__law_deed.nd rfl (by first | exact Or.inl rfl | exact Or.inr rfl)) (pgs_cons (pg_name (i := 9) sc__law_deed.nd rfl (by first | exact Or.inl rfl | exact Or.inr rfl)) pgs_nil))))))
    (s_cons (s_if (b_cmp (c_ne hr.units) (d_v (pv 6)) (d_v (pv 8)) (nomark _)) (s_one (s_asg (r_tup (r_cons r_name (r_cons r_name r_nil))) (ps_asg (DE.ee (d_callD d__law_linked hr (a_cons ns_Name (d_v (pv 2)) (a_cons ns_Name (d_v (pv 4)) (a_cons ns_Name (d_v (pv 5)) (a_cons ns_Name (d_v (pv 6)) (a_cons ns_Name (d_v (pv 8)) a_nil))))) (he := ns_Name _ _))) (k_gtup (K := K) (n := 2) rfl rfl (pgs_cons (pg_name (i := 4) sc__law_deed.nd rfl (by first | exact Or.inl rfl | exact Or.inr rfl)) (pgs_cons (pg_name (i := 5) sc__law_deed.nd rfl (by first | exact Or.inl rfl | exact Or.inr rfl)) pgs_nil)))))) s_nil)
    (s_one (s_ret (d_tup (a_cons ns_Tuple (d_tup (a_cons ns_Name (d_v (pv 2)) (a_cons ns_Name (d_v (pv 3)) (a_cons ns_Name (d_v (pv 4)) (a_cons ns_Name (d_v (pv 5)) a_nil))))) (a_cons ns_Compare (d_cmp (c_ne hr.units) (d_v (pv 6)) (d_v (pv 8)) (nomark _)) (a_cons ns_BinOp (d_add (d_v (pv 7)) (d_v (pv 9))) a_nil))))))))))))
theorem ok_first_stays (T : Txt mg) (F : FunD K mg "first_stays" s_first_stays ["join", "marks", "first", "second"]) : Def P w K mg base 1 "first_stays" ["join", "marks", "first", "second"] (spP K (fnP F_first_stays)) :=
  d_def F sc_first_stays (fun f cdv A outer s H E hr => (s_cons (s_if (b_cmp (c_eq hr.units) (d_v (pv 0)) d_str (nomark _)) (s_one (s_ret d_bl)) s_nil)
    (s_cons (s_if (b_cmp (c_eq hr.units) (d_v (pv 0)) d_str (nomark _)) (s_one (s_ret (d_cmp c_lt (d_v (pv 2)) (d_v (pv 3)) (nomark _)))) s_nil)
    (s_one (s_ret (d_cmp c_ge (d_ix (d_v (pv 1)) (d_v (pv 2)) (fun _ _ => rfl)) (d_ix (d_v (pv 1)) (d_v (pv 3)) (fun _ _ => rfl)) (nomark _)))))))
theorem ok_times_of (T : Txt mg) (F : FunD K mg "times_of" s_times_of ["many", "row"]) {a_is_pair : Addr} (d_check_many_and_row : Def P w K mg base 6 "check_many_and_row" ["many", "row"] (spP K (fnP (F_check_many_and_row a_is_pair)))) (d_forest_and_times : Def P w K mg base 6 "forest_and_times" ["many", "row"] (spP K (fnP F_forest_and_times))) : Def P w K mg base 7 "times_of" ["many", "row"] (spP K (fnP (F_times_of a_is_pair))) :=
  d_def F sc_times_of (fun f cdv A outer s H E hr => (s_cons (s_expr (ps_expr (DE.ee (d_callD d_check_many_and_row hr (a_cons ns_Name (d_v (pv 0)) (a_cons ns_Name (d_v (pv 1)) a_nil)) (he := ns_Name _ _)))))
    (s_one (s_ret (d_callD d_forest_and_times hr (a_cons ns_Name (d_v (pv 0)) (a_cons ns_Name (d_v (pv 1)) a_nil)) (he := ns_Name _ _))))))
end
end K30
end
section
namespace K30
open PySem L2 Fo Pu Dp
open O30 (Txt top Tabs)
section
variable {P : Program} {w : World} {K : PySem.W.Frag} {mg : Str → Option Value} {base : Heap}
theorem ok__law_cell (T : Txt mg) (F : FunD K mg "_law_cell" s__law_cell ["_law_script", "_law_k"]) : Def P w K mg base 1 "_law_cell" ["_law_script", "_law_k"] (spP K (fnP F__law_cell)) :=
  d_def F sc__law_cell (fun f cdv A outer s H E hr => (s_cons (s_if (b_cmp c_lt (d_v (pv 1)) (d_cb rc_len kLen_ok (pe_callB call_len rfl T.n_len bt_len (DA.t (a_cons ns_Name (d_v (pv 0)) a_nil)) (he := ns_Name _ _))) (nomark _)) (s_one (s_ret (d_ix (d_v (pv 0)) (d_v (pv 1)) (fun _ _ => rfl)))) s_nil)
    (s_cons (s_set (ps_set (i := 2) sc__law_cell.nd rfl (by first | exact Or.inl rfl | exact Or.inr rfl) (DE.ee (d_mod (d_mul d_int (d_add (d_add (d_mul (d_v (pv 1)) (d_v (pv 1))) (d_mul d_int (d_v (pv 1)))) d_int)) d_int))))
    (s_cons (s_for r_name (ps_for PassesOwn.never rfl (i_seq (d_sl (d_v (pv 0)) o_no (o_pt d_int))) (pg_name (i := 3) sc__law_cell.nd rfl (by first | exact Or.inl rfl | exact Or.inr rfl)) (s_one (s_set (ps_set (i := 2) sc__law_cell.nd rfl (by first | exact Or.inl rfl | exact Or.inr rfl) (DE.ee (d_mod (d_add (d_mul (d_v (pv 2)) d_int) (d_v (pv 3))) d_int)))))))
    (s_one (s_retV (pv 2)))))))
theorem ok__law_linked (T : Txt mg) (F : FunD K mg "_law_linked" s__law_linked ["_law_join", "_law_ups", "_law_marks", "_law_one", "_law_other"]) : Def P w K mg base 1 "_law_linked" ["_law_join", "_law_ups", "_law_marks", "_law_one", "_law_other"] (spP K (fnP F__law_linked)) :=
  d_def F sc__law_linked (fun f cdv A outer s H E hr => (s_cons (s_parN (ps_par (i := 1) (j := 2) rfl sc__law_linked.nd rfl rfl (by decide) rfl rfl (pa_consN ns_Call (DE.nn (d_listc T.n_list (a_cons ns_Name (d_v (pv 1)) a_nil) (he := ns_Name _ _))) (pa_consN ns_Call (DE.nn (d_listc T.n_list (a_cons ns_Name (d_v (pv 2)) a_nil) (he := ns_Name _ _))) pa_nil)) (by rfl)))
    (s_cons (s_par (ps_par (i := 5) (j := 6) rfl sc__law_linked.nd rfl rfl (by decide) rfl rfl (DA.f (a_cons ns_Name (d_v (pv 3)) (a_cons ns_Name (d_v (pv 4)) a_nil))) (by rfl)))
    (s_cons (s_if (b_w (w_or (b_w (w_and (b_cmp (c_in hr.units) (d_v (pv 0)) (d_tup (a_cons ns_Constant d_str (a_cons ns_Constant d_str a_nil))) (by with_unfolding_all rfl)) (w_and1 (b_cmp c_gt (d_ix (d_v (pv 2)) (d_v (pv 4)) (fun _ _ => rfl)) (d_ix (d_v (pv 2)) (d_v (pv 3)) (fun _ _ => rfl)) (nomark _))))) (w_or1 (b_w (w_and (b_cmp (c_eq hr.units) (d_v (pv 0)) d_str (nomark _)) (w_and1 (b_cmp c_lt (d_v (pv 4)) (d_v (pv 3)) (nomark _)))))))) (s_one (s_par (ps_par (i := 5) (j := 6) rfl sc__law_linked.nd rfl rfl (by decide) rfl rfl (DA.f (a_cons ns_Name (d_v (pv 4)) (a_cons ns_Name (d_v (pv 3)) a_nil))) (by rfl)))) s_nil)
    (s_cons (s_put (ps_asg (DE.ee (d_v (pv 5))) (pg_sub (pv 1) (DE.ee (d_v (pv 6))) set_list)))
    (s_cons (s_if (b_cmp (c_eq hr.units) (d_v (pv 0)) d_str (nomark _)) (s_one (s_put (ps_asg (DE.ee (d_add (d_ix (d_v (pv 2)) (d_v (pv 5)) (fun _ _ => rfl)) (d_ix (d_v (pv 2)) (d_v (pv 6)) (fun _ _ => rfl)))) (pg_sub (pv 2) (DE.ee (d_v (pv 5))) set_list)))) s_nil)
    (s_cons (s_if (b_w (w_and (b_cmp (c_eq hr.units) (d_v (pv 0)) d_str (nomark _)) (w_and1 (b_cmp (c_eq hr.units) (d_ix (d_v (pv 2)) (d_v (pv 5)) (fun _ _ => rfl)) (d_ix (d_v (pv 2)) (d_v (pv 6)) (fun _ _ => rfl)) (nomark _))))) (s_one (s_put (ps_asg (DE.ee (d_add (d_ix (d_v (pv 2)) (d_v (pv 5)) (fun _ _ => rfl)) d_int)) (pg_sub (pv 2) (DE.ee (d_v (pv 5))) set_list)))) s_nil)
    (s_one (s_ret (d_tup (a_cons ns_Call (d_cb rc_tup kTup_ok (pe_callTy call_tuple_of rfl T.n_tuple bt_tuple (DA.t (a_cons ns_Name (d_v (pv 1)) a_nil)) (he := ns_Name _ _))) (a_cons ns_Call (d_cb rc_tup kTup_ok (pe_callTy call_tuple_of rfl T.n_tuple bt_tuple (DA.t (a_cons ns_Name (d_v (pv 2)) a_nil)) (he := ns_Name _ _))) a_nil))))))))))))
theorem ok_check_row (T : Txt mg) (F : FunD K mg "check_row" s_check_row ["many", "row", "is_right"]) {t : FTab} (hd : ∀ a G, look t a = some G → DefA P w K mg base 3 a ["many", "thing"] (spP K (fnP G))) : Def P w K mg base 4 "check_row" ["many", "row", "is_right"] (spP K (fnP (F_check_row t))) :=
  d_def F sc_check_row (fun f cdv A outer s H E hr => (s_cons (s_if (b_not (b_val (d_cb rc_isI kIs_ok (pe_callB call_isinst rfl T.n_isinstance bt_isinstance (DA.t (a_cons ns_Name (d_v (pv 1)) (a_cons ns_Name (d_c (pu_c (p := .ty "tuple") (pe_ty T.n_tuple bt_tuple))) a_nil))) (he := ns_Name _ _))))) (s_one s_bad) s_nil)
    (s_one (s_for (r_tup (r_cons r_name (r_cons r_name r_nil))) (ps_for PassesOwn.never rfl (i_enumT (pi_enumT rfl T.n_enumerate (DA.f (a_cons ns_Name (d_v (pv 1)) a_nil)))) (k_gtup (K := K) (n := 2) rfl rfl (pgs_cons (pg_name (i := 3) sc_check_row.nd rfl (by first | exact Or.inl rfl | exact Or.inr rfl)) (pgs_cons (pg_name (i := 4) sc_check_row.nd rfl (by first | exact Or.inl rfl | exact Or.inr rfl)) pgs_nil))) (s_one (s_if (b_not (b_val (d_callL (i := 2) hd hr rfl (a_cons ns_Name (d_v (pv 0)) (a_cons ns_Name (d_v (pv 4)) a_nil)) (he := ns_Name _ _)))) (s_one s_bad) s_nil)))))))
theorem ok_check_join (T : Txt mg) (F : FunD K mg "check_join" s_check_join ["join"]) (d_is_way_of_joining : Def P w K mg base 1 "is_way_of_joining" ["thing"] (spP K (fnP F_is_way_of_joining))) : Def P w K mg base 2 "check_join" ["join"] (spP K (fnP F_check_join)) :=
  d_def F sc_check_join (fun f cdv A outer s H E hr => (s_one (s_if (b_not (b_val (d_callD d_is_way_of_joining hr (a_cons ns_Name (d_v (pv 0)) a_nil) (he := ns_Name _ _)))) (s_one s_bad) s_nil)))
theorem ok_find_done (T : Txt mg) (F : FunD K mg "find_done" s_find_done ["store", "x"]) (d_find_in : Def P w K mg base 3 "find_in" ["ups", "short", "x"] (spP K (fnP F_find_in))) (d_copied : Def P w K mg base 1 "copied" ["numbers"] (spP K (fnP F_copied))) : Def P w K mg base 4 "find_done" ["store", "x"] (spP K (fnP F_find_done)) :=
  d_def F sc_find_done (fun f cdv A outer s H E hr => (s_cons (s_asg (r_tup (r_cons r_name (r_cons r_name (r_cons r_name (r_cons r_name r_nil))))) (ps_asg (DE.ee (d_v (pv 0))) (k_gtup (K := K) (n := 4) rfl rfl (pgs_cons (pg_name (i := 2) sc_find_done.nd rfl (by first | exact Or.inl rfl | exact Or.inr rfl)) (pgs_cons (pg_name (i := 3) sc_find_done.nd rfl (by first | exact Or.inl rfl | exact Or.inr rfl)) (pgs_cons (pg_name (i := 4) sc_find_done.nd rfl (by first | exact Or.inl rfl | exact Or.inr rfl)) (pgs_cons (pg_name (i := 5) sc_find_done.nd rfl (by first | exact Or.inl rfl | exact Or.inr rfl)) pgs_nil)))))))
    (s_cons (s_asg (r_tup (r_cons r_name (r_cons r_name (r_cons r_name r_nil)))) (ps_asg (DE.ee (d_callD d_find_in hr (a_cons ns_Name (d_v (pv 4)) (a_cons ns_Name (d_v (pv 3)) (a_cons ns_Name (d_v (pv 1)) a_nil))) (he := ns_Name _ _))) (k_gtup (K := K) (n := 3) rfl rfl (pgs_cons (pg_name (i := 6) sc_find_done.nd rfl (by first | exact Or.inl rfl | exact Or.inr rfl)) (pgs_cons (pg_name (i := 7) sc_find_done.nd rfl (by first | exact Or.inl rfl | exact Or.inr rfl)) (pgs_cons (pg_name (i := 8) sc_find_done.nd rfl (by first | exact Or.inl rfl | exact Or.inr rfl)) pgs_nil))))))
    (s_one (s_ret (d_tup (a_cons ns_Tuple (d_tup (a_cons ns_Name (d_v (pv 2)) (a_cons ns_Name (d_v (pv 3)) (a_cons ns_Name (d_v (pv 7)) (a_cons ns_Call (d_callD d_copied hr (a_cons ns_Name (d_v (pv 5)) a_nil) (he := ns_Name _ _)) a_nil))))) (a_cons ns_Name (d_v (pv 6)) (a_cons ns_Name (d_v (pv 8)) a_nil)))))))))
end
end K30
end
section
namespace K30
open PySem L2 Fo Pu Dp
open O30 (Txt top Tabs)
section
variable {P : Program} {w : World} {K : PySem.W.Frag} {mg : Str → Option Value} {base : Heap}
theorem ok__law_joins (T : Txt mg) (F : FunD K mg "_law_joins" s__law_joins ["_law_script", "_law_at", "_law_many_here", "_law_most"]) (d__law_numbers : Def P w K mg base 1 "_law_numbers" ["_law_cell_here", "_law_many_here"] (spP K (fnP F__law_numbers))) (d__law_cell : Def P w K mg base 1 "_law_cell" ["_law_script", "_law_k"] (spP K (fnP F__law_cell))) : Def P w K mg base 2 "_law_joins" ["_law_script", "_law_at", "_law_many_here", "_law_most"] (spP K (fnP F__law_joins)) :=
  d_def F sc__law_joins (fun f cdv A outer s H E hr => (s_cons (s_set (ps_set (i := 4) sc__law_joins.nd rfl (by first | exact Or.inl rfl | exact Or.inr rfl) (DE.ee (d_callD d__law_numbers hr (a_cons ns_Call (d_callD d__law_cell hr (a_cons ns_Name (d_v (pv 0)) (a_cons ns_Name (d_v (pv 1)) a_nil)) (he := ns_Name _ _)) (a_cons ns_Constant d_int a_nil)) (he := ns_Call _ _)))))
    (s_cons (s_own2 (d_lst a_nil) sc__law_joins.nd rfl (by first | exact Or.inl rfl | exact Or.inr rfl))
    (s_cons (s_for r_name (ps_for PassesOwn.never rfl (i_rng1 (pi_range1 rfl T.n_range (DA.t (a_cons ns_BinOp (d_mod (d_ix (d_v (pv 4)) d_int (fun _ _ => rfl)) (d_add (d_v (pv 3)) d_int)) a_nil)))) (pg_name (i := 6) sc__law_joins.nd rfl (by first | exact Or.inl rfl | exact Or.inr rfl)) (s_cons (s_set (ps_set (i := 7) sc__law_joins.nd rfl (by first | exact Or.inl rfl | exact Or.inr rfl) (DE.ee (d_sl (d_callD d__law_numbers hr (a_cons ns_Call (d_callD d__law_cell hr (a_cons ns_Name (d_v (pv 0)) (a_cons ns_BinOp (d_add (d_add (d_v (pv 1)) d_int) (d_div (d_v (pv 6)) d_int)) a_nil)) (he := ns_Name _ _)) (a_cons ns_Constant d_int a_nil)) (he := ns_Call _ _)) (o_pt (d_mul d_int (d_mod (d_v (pv 6)) d_int))) o_no))))
    (s_cons (s_par (ps_par (i := 8) (j := 9) rfl sc__law_joins.nd rfl rfl (by decide) rfl rfl (DA.f (a_cons ns_BinOp (d_mod (d_ix (d_v (pv 7)) d_int (fun _ _ => rfl)) (d_v (pv 2))) (a_cons ns_BinOp (d_mod (d_ix (d_v (pv 7)) d_int (fun _ _ => rfl)) (d_v (pv 2))) a_nil))) (by rfl)))
    (s_cons (s_if (b_cmp (c_eq hr.units) (d_mod (d_ix (d_v (pv 4)) d_int (fun _ _ => rfl)) d_int) d_int (nomark _)) (s_one (s_par (ps_par (i := 8) (j := 9) rfl sc__law_joins.nd rfl rfl (by decide) rfl rfl (DA.f (a_cons ns_BinOp (d_mod (d_v (pv 6)) (d_v (pv 2))) (a_cons ns_BinOp (d_mod (d_add (d_v (pv 6)) d_int) (d_v (pv 2))) a_nil))) (by rfl)))) s_nil)
    (s_cons (s_if (b_w (w_and (b_cmp (c_eq hr.units) (d_mod (d_ix (d_v (pv 4)) d_int (fun _ _ => rfl)) d_int) d_int (nomark _)) (w_and1 (b_cmp c_gt (d_mod (d_ix (d_v (pv 7)) d_int (fun _ _ => rfl)) d_int) d_int (nomark _))))) (s_cons (s_set (ps_set (i := 8) sc__law_joins.nd rfl (by first | exact Or.inl rfl | exact Or.inr rfl) (DE.ee (d_mod (d_mul (d_div (d_v (pv 8)) d_int) d_int) (d_v (pv 2))))))
    (s_one (s_set (ps_set (i := 9) sc__law_joins.nd rfl (by first | exact Or.inl rfl | exact Or.inr rfl) (DE.ee (d_cb rc_min2 kMin2_ok (pe_callB (call_min2 rfl) rfl T.n_min bt_min (DA.t (a_cons ns_BinOp (d_sub (d_v (pv 2)) d_int) (a_cons ns_BinOp (d_add (d_v (pv 8)) d_int) a_nil))) (he := ns_BinOp _ _)))))))) s_nil)
    (s_cons (s_if (b_w (w_and (b_cmp (c_ne hr.units) (d_v (pv 5)) (d_lst a_nil) (nomark _)) (w_and1 (b_cmp (c_eq hr.units) (d_mod (d_ix (d_v (pv 7)) d_int (fun _ _ => rfl)) d_int) d_int (nomark _))))) (s_one (s_asg (r_tup (r_cons r_name (r_cons r_name r_nil))) (ps_asg (DE.ee (d_ix (d_v (pv 5)) (d_mod (d_ix (d_v (pv 7)) d_int (fun _ _ => rfl)) (d_cb rc_len kLen_ok (pe_callB call_len rfl T.n_len bt_len (DA.t (a_cons ns_Name (d_v (pv 5)) a_nil)) (he := ns_Name _ _)))) (fun _ _ => rfl))) (k_gtup (K := K) (n := 2) rfl rfl (pgs_cons (pg_name (i := 8) sc__law_joins.nd rfl (by first | exact Or.inl rfl | exact Or.inr rfl)) (pgs_cons (pg_name (i := 9) sc__law_joins.nd rfl (by first | exact Or.inl rfl | exact Or.inr rfl)) pgs_nil)))))) s_nil)
    (s_one (s_app (ps_expr (pe_bm PySem.F.plainAttrs_list PySem.F.slot_list_append PySem.F.type_list_append mt_append (pv 5) (DA.f (a_cons ns_Subscript (d_ix (d_lst (a_cons ns_Tuple (d_tup (a_cons ns_Name (d_v (pv 8)) (a_cons ns_Name (d_v (pv 9)) a_nil))) (a_cons ns_Tuple (d_tup (a_cons ns_Name (d_v (pv 9)) (a_cons ns_Name (d_v (pv 8)) a_nil))) a_nil))) (d_mod (d_div (d_ix (d_v (pv 7)) d_int (fun _ _ => rfl)) d_int) d_int) (fun _ _ => rfl)) a_nil)))))))))))))
    (s_one (s_ret (d_cb rc_tup kTup_ok (pe_callTy call_tuple_of rfl T.n_tuple bt_tuple (DA.t (a_cons ns_Name (d_v (pv 5)) a_nil)) (he := ns_Name _ _)))))))))
theorem ok_check_joins (T : Txt mg) (F : FunD K mg "check_joins" s_check_joins ["many", "row"]) {a_is_pair : Addr} (m_is_pair : mg "is_pair" = some (.ref a_is_pair)) (d_check_row_OF_is_pair : Def P w K mg base 4 "check_row" ["many", "row", "is_right"] (spP K (fnP (F_check_row [(a_is_pair, F_is_pair)])))) : Def P w K mg base 5 "check_joins" ["many", "row"] (spP K (fnP (F_check_joins a_is_pair))) :=
  d_def F sc_check_joins (fun f cdv A outer s H E hr => (s_one (s_expr (ps_expr (DE.ee (d_callD d_check_row_OF_is_pair hr (a_cons ns_Name (d_v (pv 0)) (a_cons ns_Name (d_v (pv 1)) (a_cons ns_Name (d_fn m_is_pair) a_nil))) (he := ns_Name _ _)))))))
theorem ok_check_short (T : Txt mg) (F : FunD K mg "check_short" s_check_short ["short"]) (d_is_short : Def P w K mg base 1 "is_short" ["thing"] (spP K (fnP F_is_short))) : Def P w K mg base 2 "check_short" ["short"] (spP K (fnP F_check_short)) :=
  d_def F sc_check_short (fun f cdv A outer s H E hr => (s_one (s_if (b_not (b_val (d_callD d_is_short hr (a_cons ns_Name (d_v (pv 0)) a_nil) (he := ns_Name _ _)))) (s_one s_bad) s_nil)))
theorem ok_with_heads_joined (T : Txt mg) (F : FunD K mg "with_heads_joined" s_with_heads_joined ["store", "first", "second"]) (d_first_stays : Def P w K mg base 1 "first_stays" ["join", "marks", "first", "second"] (spP K (fnP F_first_stays))) (d_mark_behind : Def P w K mg base 1 "mark_behind" ["join", "top", "under"] (spP K (fnP F_mark_behind))) : Def P w K mg base 2 "with_heads_joined" ["store", "first", "second"] (spP K (fnP F_with_heads_joined)) :=
  d_def F sc_with_heads_joined (fun f cdv A outer s H E hr => (s_cons (s_asg (r_tup (r_cons r_name (r_cons r_name (r_cons r_name (r_cons r_name r_nil))))) (ps_asg (DE.ee (d_v (pv 0))) (k_gtup (K := K) (n := 4) rfl rfl (pgs_cons (pg_name (i := 3) sc_with_heads_joined.nd rfl (by first | exact Or.inl rfl | exact Or.inr rfl)) (pgs_cons (pg_name (i := 4) sc_with_heads_joined.nd rfl (by first | exact Or.inl rfl | exact Or.inr rfl)) (pgs_cons (pg_name (i := 5) sc_with_heads_joined.nd rfl (by first | exact Or.inl rfl | exact Or.inr rfl)) (pgs_cons (pg_name (i := 6) sc_with_heads_joined.nd rfl (by first | exact Or.inl rfl | exact Or.inr rfl)) pgs_nil)))))))
    (s_cons (s_set (ps_set (i := 7) sc_with_heads_joined.nd rfl (by first | exact Or.inl rfl | exact Or.inr rfl) (DE.ee (d_callD d_first_stays hr (a_cons ns_Name (d_v (pv 3)) (a_cons ns_Name (d_v (pv 6)) (a_cons ns_Name (d_v (pv 1)) (a_cons ns_Name (d_v (pv 2)) a_nil)))) (he := ns_Name _ _)))))
    (s_cons (s_asg (r_tup (r_cons r_name (r_cons r_name r_nil))) (ps_asg (DE.ee (d_if (b_val (d_v (pv 7))) (d_tup (a_cons ns_Name (d_v (pv 1)) (a_cons ns_Name (d_v (pv 2)) a_nil))) (d_tup (a_cons ns_Name (d_v (pv 2)) (a_cons ns_Name (d_v (pv 1)) a_nil))))) (k_gtup (K := K) (n := 2) rfl rfl (pgs_cons (pg_name (i := 8) sc_with_heads_joined.nd rfl (by first | exact Or.inl rfl | exact Or.inr rfl)) (pgs_cons (pg_name (i := 9) sc_with_heads_joined.nd rfl (by first | exact Or.inl rfl | exact Or.inr rfl)) pgs_nil)))))
    (s_cons (s_own2 (d_listc T.n_list (a_cons ns_Name (d_v (pv 5)) a_nil) (he := ns_Name _ _)) sc_with_heads_joined.nd rfl (by first | exact Or.inl rfl | exact Or.inr rfl))
    (s_cons (s_put (ps_asg (DE.ee (d_v (pv 8))) (pg_sub (pv 10) (DE.ee (d_v (pv 9))) set_list)))
    (s_cons (s_own2 (d_listc T.n_list (a_cons ns_Name (d_v (pv 6)) a_nil) (he := ns_Name _ _)) sc_with_heads_joined.nd rfl (by first | exact Or.inl rfl | exact Or.inr rfl))
    (s_cons (s_put (ps_asg (DE.ee (d_callD d_mark_behind hr (a_cons ns_Name (d_v (pv 3)) (a_cons ns_Subscript (d_ix (d_v (pv 6)) (d_v (pv 8)) (fun _ _ => rfl)) (a_cons ns_Subscript (d_ix (d_v (pv 6)) (d_v (pv 9)) (fun _ _ => rfl)) a_nil))) (he := ns_Name _ _))) (pg_sub (pv 11) (DE.ee (d_v (pv 8))) set_list)))
    (s_one (s_ret (d_tup (a_cons ns_Name (d_v (pv 3)) (a_cons ns_Name (d_v (pv 4)) (a_cons ns_Call (d_cb rc_tup kTup_ok (pe_callTy call_tuple_of rfl T.n_tuple bt_tuple (DA.t (a_cons ns_Name (d_v (pv 10)) a_nil)) (he := ns_Name _ _))) (a_cons ns_Call (d_cb rc_tup kTup_ok (pe_callTy call_tuple_of rfl T.n_tuple bt_tuple (DA.t (a_cons ns_Name (d_v (pv 11)) a_nil)) (he := ns_Name _ _))) a_nil)))))))))))))))
end
end K30
end
section
namespace K30
open PySem L2 Fo Pu Dp
open O30 (Txt top Tabs)
section
variable {P : Program} {w : World} {K : PySem.W.Frag} {mg : Str → Option Value} {base : Heap}
theorem ok__law_drawn (T : Txt mg) (F : FunD K mg "_law_drawn" s__law_drawn ["_law_script", "_law_at"]) (d__law_numbers : Def P w K mg base 1 "_law_numbers" ["_law_cell_here", "_law_many_here"] (spP K (fnP F__law_numbers))) (d__law_many : Def P w K mg base 1 "_law_many" ["_law_x"] (spP K (fnP F__law_many))) (d__law_cell : Def P w K mg base 1 "_law_cell" ["_law_script", "_law_k"] (spP K (fnP F__law_cell))) (d__law_joins : Def P w K mg base 2 "_law_joins" ["_law_script", "_law_at", "_law_many_here", "_law_most"] (spP K (fnP F__law_joins))) : Def P w K mg base 3 "_law_drawn" ["_law_script", "_law_at"] (spP K (fnP F__law_drawn)) :=
  d_def F sc__law_drawn (fun f cdv A outer s H E hr => (s_cons (s_set (ps_set (i := 2) sc__law_drawn.nd rfl (by first | exact Or.inl rfl | exact Or.inr rfl) (DE.ee (d_callD d__law_numbers hr (a_cons ns_Call (d_callD d__law_cell hr (a_cons ns_Name (d_v (pv 0)) (a_cons ns_BinOp (d_add d_int (d_div (d_v (pv 1)) d_int)) a_nil)) (he := ns_Name _ _)) (a_cons ns_Constant d_int a_nil)) (he := ns_Call _ _)))))
    (s_cons (s_set (ps_set (i := 3) sc__law_drawn.nd rfl (by first | exact Or.inl rfl | exact Or.inr rfl) (DE.ee (d_callD d__law_many hr (a_cons ns_Subscript (d_ix (d_v (pv 2)) d_int (fun _ _ => rfl)) a_nil) (he := ns_Subscript _ _)))))
    (s_one (s_ret (d_tup (a_cons ns_Name (d_v (pv 3)) (a_cons ns_Call (d_callD d__law_joins hr (a_cons ns_Name (d_v (pv 0)) (a_cons ns_Name (d_v (pv 1)) (a_cons ns_Name (d_v (pv 3)) (a_cons ns_Subscript (d_ix (d_lst (a_cons ns_Constant d_int (a_cons ns_Constant d_int a_nil))) (d_cb rc_int kInt_ok (pe_callTy call_int1 rfl T.n_int bt_int (DA.t (a_cons ns_Compare (d_cmp (c_eq hr.units) (d_mod (d_ix (d_v (pv 2)) d_int (fun _ _ => rfl)) d_int) d_int (nomark _)) a_nil)) (he := ns_Compare _ _))) (fun _ _ => rfl)) a_nil)))) (he := ns_Name _ _)) a_nil))))))))
theorem ok__law_times (T : Txt mg) (F : FunD K mg "_law_times" s__law_times ["_law_many_here", "_law_row"]) (d__law_new : Def P w K mg base 1 "_law_new" ["_law_many_here", "_law_join", "_law_short"] (spP K (fnP F__law_new))) (d__law_deed : Def P w K mg base 3 "_law_deed" ["_law_store", "_law_deed_here"] (spP K (fnP F__law_deed))) : Def P w K mg base 4 "_law_times" ["_law_many_here", "_law_row"] (spP K (fnP F__law_times)) :=
  d_def F sc__law_times (fun f cdv A outer s H E hr => (s_cons (s_set (ps_set (i := 2) sc__law_times.nd rfl (by first | exact Or.inl rfl | exact Or.inr rfl) (DE.ee (d_callD d__law_new hr (a_cons ns_Name (d_v (pv 0)) (a_cons ns_Constant d_str (a_cons ns_Constant d_str a_nil))) (he := ns_Name _ _)))))
    (s_cons (s_own2 (d_mul (d_lst (a_cons ns_Constant d_non a_nil)) (d_v (pv 0))) sc__law_times.nd rfl (by first | exact Or.inl rfl | exact Or.inr rfl))
    (s_cons (s_for (r_tup (r_cons r_name (r_cons (r_tup (r_cons r_name (r_cons r_name r_nil))) r_nil))) (ps_for PassesOwn.never rfl (i_enumT (pi_enumT rfl T.n_enumerate (DA.f (a_cons ns_Name (d_v (pv 1)) a_nil)))) (k_gtup (K := K) (n := 2) rfl rfl (pgs_cons (pg_name (i := 4) sc__law_times.nd rfl (by first | exact Or.inl rfl | exact Or.inr rfl)) (pgs_cons (k_gtup (K := K) (n := 2) rfl rfl (pgs_cons (pg_name (i := 5) sc__law_times.nd rfl (by first | exact Or.inl rfl | exact Or.inr rfl)) (pgs_cons (pg_name (i := 6) sc__law_times.nd rfl (by first | exact Or.inl rfl | exact Or.inr rfl)) pgs_nil))) pgs_nil))) (s_cons (s_set (ps_set (i := 7) sc__law_times.nd rfl (by first | exact Or.inl rfl | exact Or.inr rfl) (DE.ee (d_ix (d_callD d__law_deed hr (a_cons ns_Name (d_v (pv 2)) (a_cons ns_Tuple (d_tup (a_cons ns_Constant d_str (a_cons ns_Name (d_v (pv 5)) (a_cons ns_Name (d_v (pv 6)) a_nil)))) a_nil)) (he := ns_Name _ _)) d_int (fun _ _ => rfl)))))
    (s_cons (s_for r_name (ps_for PassesOwn.never rfl (i_rng1 (pi_range1 rfl T.n_range (DA.t (a_cons ns_Name (d_v (pv 0)) a_nil)))) (pg_name (i := 8) sc__law_times.nd rfl (by first | exact Or.inl rfl | exact Or.inr rfl)) (s_one (s_if (b_cmp (c_ne hr.units) (d_ix (d_ix (d_v (pv 7)) d_int (fun _ _ => rfl)) (d_v (pv 8)) (fun _ _ => rfl)) (d_ix (d_ix (d_v (pv 2)) d_int (fun _ _ => rfl)) (d_v (pv 8)) (fun _ _ => rfl)) (nomark _)) (s_one (s_put (ps_asg (DE.ee (d_v (pv 4))) (pg_sub (pv 3) (DE.ee (d_v (pv 8))) set_list)))) s_nil))))
    (s_one (s_set (ps_set (i := 2) sc__law_times.nd rfl (by first | exact Or.inl rfl | exact Or.inr rfl) (DE.ee (d_v (pv 7))))))))))
    (s_one (s_ret (d_tup (a_cons ns_Subscript (d_ix (d_v (pv 2)) d_int (fun _ _ => rfl)) (a_cons ns_Call (d_cb rc_tup kTup_ok (pe_callTy call_tuple_of rfl T.n_tuple bt_tuple (DA.t (a_cons ns_Name (d_v (pv 3)) a_nil)) (he := ns_Name _ _))) a_nil)))))))))
theorem ok_is_way_of_joining (T : Txt mg) (TK : Kon w K mg) (F : FunD K mg "is_way_of_joining" s_is_way_of_joining ["thing"]) : Def P w K mg base 1 "is_way_of_joining" ["thing"] (spP K (fnP F_is_way_of_joining)) :=
  d_def F sc_is_way_of_joining (fun f cdv A outer s H E hr => (s_one (s_ret (d_and (d_cb rc_isI kIs_ok (pe_callB call_isinst rfl T.n_isinstance bt_isinstance (DA.t (a_cons ns_Name (d_v (pv 0)) (a_cons ns_Name (d_c (pu_c (p := .ty "str") (pe_ty T.n_str bt_str))) a_nil))) (he := ns_Name _ _))) (d_one (d_cmp (c_in hr.units) (d_v (pv 0)) (d_ktu TK.k_JOINS) (by with_unfolding_all rfl)))))))
theorem ok_copied (T : Txt mg) (F : FunD K mg "copied" s_copied ["numbers"]) : Def P w K mg base 1 "copied" ["numbers"] (spP K (fnP F_copied)) :=
  d_def F sc_copied (fun f cdv A outer s H E hr => (s_one (s_ret (d_cb rc_tup kTup_ok (pe_callTy call_tuple_of rfl T.n_tuple bt_tuple (DA.t (a_cons ns_Call (d_listc T.n_list (a_cons ns_Name (d_v (pv 0)) a_nil) (he := ns_Name _ _)) a_nil)) (he := ns_Call _ _))))))
theorem ok_join_done (T : Txt mg) (F : FunD K mg "join_done" s_join_done ["store", "x", "y"]) (d_find_done : Def P w K mg base 4 "find_done" ["store", "x"] (spP K (fnP F_find_done))) (d_with_heads_joined : Def P w K mg base 2 "with_heads_joined" ["store", "first", "second"] (spP K (fnP F_with_heads_joined))) : Def P w K mg base 5 "join_done" ["store", "x", "y"] (spP K (fnP F_join_done)) :=
  d_def F sc_join_done (fun f cdv A outer s H E hr => (s_cons (s_asg (r_tup (r_cons r_name (r_cons r_name (r_cons r_name r_nil)))) (ps_asg (DE.ee (d_callD d_find_done hr (a_cons ns_Name (d_v (pv 0)) (a_cons ns_Name (d_v (pv 1)) a_nil)) (he := ns_Name _ _))) (k_gtup (K := K) (n := 3) rfl rfl (pgs_cons (pg_name (i := 3) sc_join_done.nd rfl (by first | exact Or.inl rfl | exact Or.inr rfl)) (pgs_cons (pg_name (i := 4) sc_join_done.nd rfl (by first | exact Or.inl rfl | exact Or.inr rfl)) (pgs_cons (pg_name (i := 5) sc_join_done.nd rfl (by first | exact Or.inl rfl | exact Or.inr rfl)) pgs_nil))))))
    (s_cons (s_asg (r_tup (r_cons r_name (r_cons r_name (r_cons r_name r_nil)))) (ps_asg (DE.ee (d_callD d_find_done hr (a_cons ns_Name (d_v (pv 3)) (a_cons ns_Name (d_v (pv 2)) a_nil)) (he := ns_Name _ _))) (k_gtup (K := K) (n := 3) rfl rfl (pgs_cons (pg_name (i := 6) sc_join_done.nd rfl (by first | exact Or.inl rfl | exact Or.inr rfl)) (pgs_cons (pg_name (i := 7) sc_join_done.nd rfl (by first | exact Or.inl rfl | exact Or.inr rfl)) (pgs_cons (pg_name (i := 8) sc_join_done.nd rfl (by first | exact Or.inl rfl | exact Or.inr rfl)) pgs_nil))))))
    (s_cons (s_set (ps_set (i := 9) sc_join_done.nd rfl (by first | exact Or.inl rfl | exact Or.inr rfl) (DE.ee (d_add (d_v (pv 5)) (d_v (pv 8))))))
    (s_cons (s_if (b_cmp (c_eq hr.units) (d_v (pv 4)) (d_v (pv 7)) (nomark _)) (s_one (s_ret (d_tup (a_cons ns_Name (d_v (pv 6)) (a_cons ns_Constant d_bl (a_cons ns_Name (d_v (pv 9)) a_nil)))))) s_nil)
    (s_one (s_ret (d_tup (a_cons ns_Call (d_callD d_with_heads_joined hr (a_cons ns_Name (d_v (pv 6)) (a_cons ns_Name (d_v (pv 4)) (a_cons ns_Name (d_v (pv 7)) a_nil))) (he := ns_Name _ _)) (a_cons ns_Constant d_bl (a_cons ns_Name (d_v (pv 9)) a_nil)))))))))))
end
end K30
end
section
namespace K30
open PySem L2 Fo Pu Dp
open O30 (Txt top Tabs)
section
variable {P : Program} {w : World} {K : PySem.W.Frag} {mg : Str → Option Value} {base : Heap}
theorem ok__law_new (T : Txt mg) (F : FunD K mg "_law_new" s__law_new ["_law_many_here", "_law_join", "_law_short"]) : Def P w K mg base 1 "_law_new" ["_law_many_here", "_law_join", "_law_short"] (spP K (fnP F__law_new)) :=
  d_def F sc__law_new (fun f cdv A outer s H E hr => (s_one (s_ret (d_tup (a_cons ns_Name (d_v (pv 1)) (a_cons ns_Name (d_v (pv 2)) (a_cons ns_Call (d_tupR T.n_tuple (a_cons ns_Call (d_cb rc_rng kRng_ok (pe_callTy call_range1 rfl T.n_range bt_range (DA.t (a_cons ns_Name (d_v (pv 0)) a_nil)) (he := ns_Name _ _))) a_nil) (he := ns_Call _ _)) (a_cons ns_BinOp (d_mul (d_tup (a_cons ns_Call (d_cb rc_int kInt_ok (pe_callTy call_int1 rfl T.n_int bt_int (DA.t (a_cons ns_Compare (d_cmp (c_eq hr.units) (d_v (pv 1)) d_str (nomark _)) a_nil)) (he := ns_Compare _ _))) a_nil)) (d_v (pv 0))) a_nil))))))))
theorem ok__law_find (T : Txt mg) (F : FunD K mg "_law_find" s__law_find ["_law_ups", "_law_short", "_law_x"]) (d__law_way : Def P w K mg base 1 "_law_way" ["_law_ups", "_law_x"] (spP K (fnP F__law_way))) : Def P w K mg base 2 "_law_find" ["_law_ups", "_law_short", "_law_x"] (spP K (fnP F__law_find)) :=
  d_def F sc__law_find (fun f cdv A outer s H E hr => (s_cons (s_own2 (d_listc T.n_list (a_cons ns_Name (d_v (pv 0)) a_nil) (he := ns_Name _ _)) sc__law_find.nd rfl (by first | exact Or.inl rfl | exact Or.inr rfl))
    (s_cons (s_set (ps_set (i := 3) sc__law_find.nd rfl (by first | exact Or.inl rfl | exact Or.inr rfl) (DE.ee (d_callD d__law_way hr (a_cons ns_Name (d_v (pv 0)) (a_cons ns_Name (d_v (pv 2)) a_nil)) (he := ns_Name _ _)))))
    (s_cons (s_set (ps_set (i := 4) sc__law_find.nd rfl (by first | exact Or.inl rfl | exact Or.inr rfl) (DE.ee (d_ix (d_v (pv 3)) (d_neg d_int) (fun _ _ => rfl)))))
    (s_cons (s_if (b_w (w_or (b_cmp (c_eq hr.units) (d_v (pv 1)) d_str (nomark _)) (w_or (b_cmp (c_eq hr.units) (d_v (pv 1)) d_str (nomark _)) (w_or1 (b_cmp (c_eq hr.units) (d_v (pv 1)) d_str (nomark _)))))) (s_cons (s_if (b_cmp (c_eq hr.units) (d_v (pv 1)) d_str (nomark _)) (s_one (s_for r_name (ps_for PassesOwn.never rfl (i_seq (d_v (pv 3))) (pg_name (i := 5) sc__law_find.nd rfl (by first | exact Or.inl rfl | exact Or.inr rfl)) (s_one (s_put (ps_asg (DE.ee (d_v (pv 4))) (pg_sub (pv 0) (DE.ee (d_v (pv 5))) set_list))))))) s_nil)
    (s_cons (s_if (b_cmp (c_eq hr.units) (d_v (pv 1)) d_str (nomark _)) (s_one (s_put (ps_asg (DE.ee (d_ix (d_v (pv 0)) (d_ix (d_v (pv 0)) (d_v (pv 2)) (fun _ _ => rfl)) (fun _ _ => rfl))) (pg_sub (pv 0) (DE.ee (d_v (pv 2))) set_list)))) s_nil)
    (s_one (s_ret (d_tup (a_cons ns_Name (d_v (pv 4)) (a_cons ns_Call (d_cb rc_tup kTup_ok (pe_callTy call_tuple_of rfl T.n_tuple bt_tuple (DA.t (a_cons ns_Name (d_v (pv 0)) a_nil)) (he := ns_Name _ _))) (a_cons ns_BinOp (d_sub (d_cb rc_len kLen_ok (pe_callB call_len rfl T.n_len bt_len (DA.t (a_cons ns_Name (d_v (pv 3)) a_nil)) (he := ns_Name _ _))) d_int) a_nil)))))))) s_nil)
    (s_cons (s_set (ps_set (i := 6) sc__law_find.nd rfl (by first | exact Or.inl rfl | exact Or.inr rfl) (DE.ee d_int)))
    (s_cons (s_set (ps_set (i := 7) sc__law_find.nd rfl (by first | exact Or.inl rfl | exact Or.inr rfl) (DE.ee (d_v (pv 2)))))
    (s_cons (s_while (ps_while PassesOwn.never (b_cmp (c_ne hr.units) (d_ix (d_v (pv 0)) (d_v (pv 7)) (fun _ _ => rfl)) (d_v (pv 7)) (nomark _)) (s_cons (s_set (ps_set (i := 8) sc__law_find.nd rfl (by first | exact Or.inl rfl | exact Or.inr rfl) (DE.ee (d_ix (d_v (pv 0)) (d_v (pv 7)) (fun _ _ => rfl)))))
    (s_cons (s_put (ps_asg (DE.ee (d_ix (d_v (pv 0)) (d_v (pv 8)) (fun _ _ => rfl))) (pg_sub (pv 0) (DE.ee (d_v (pv 7))) set_list)))
    (s_cons (s_set (ps_set (i := 7) sc__law_find.nd rfl (by first | exact Or.inl rfl | exact Or.inr rfl) (DE.ee (d_ix (d_lst (a_cons ns_Name (d_v (pv 8)) (a_cons ns_Subscript (d_ix (d_v (pv 0)) (d_v (pv 7)) (fun _ _ => rfl)) a_nil))) (d_cb rc_int kInt_ok (pe_callTy call_int1 rfl T.n_int bt_int (DA.t (a_cons ns_Compare (d_cmp (c_eq hr.units) (d_v (pv 1)) d_str (nomark _)) a_nil)) (he := ns_Compare _ _))) (fun _ _ => rfl)))))
    (s_one (s_set (ps_set (i := 6) sc__law_find.nd rfl (by first | exact Or.inl rfl | exact Or.inr rfl) (DE.ee (d_add (d_v (pv 6)) d_int))))))))))
    (s_one (s_ret (d_tup (a_cons ns_Name (d_v (pv 4)) (a_cons ns_Call (d_cb rc_tup kTup_ok (pe_callTy call_tuple_of rfl T.n_tuple bt_tuple (DA.t (a_cons ns_Name (d_v (pv 0)) a_nil)) (he := ns_Name _ _))) (a_cons ns_Name (d_v (pv 6)) a_nil))))))))))))))
theorem ok_check_many_and_row (T : Txt mg) (F : FunD K mg "check_many_and_row" s_check_many_and_row ["many", "row"]) {a_is_pair : Addr} (d_check_many : Def P w K mg base 3 "check_many" ["many"] (spP K (fnP F_check_many))) (d_check_joins : Def P w K mg base 5 "check_joins" ["many", "row"] (spP K (fnP (F_check_joins a_is_pair)))) : Def P w K mg base 6 "check_many_and_row" ["many", "row"] (spP K (fnP (F_check_many_and_row a_is_pair))) :=
  d_def F sc_check_many_and_row (fun f cdv A outer s H E hr => (s_cons (s_expr (ps_expr (DE.ee (d_callD d_check_many hr (a_cons ns_Name (d_v (pv 0)) a_nil) (he := ns_Name _ _)))))
    (s_one (s_expr (ps_expr (DE.ee (d_callD d_check_joins hr (a_cons ns_Name (d_v (pv 0)) (a_cons ns_Name (d_v (pv 1)) a_nil)) (he := ns_Name _ _))))))))
theorem ok_new_store (T : Txt mg) (F : FunD K mg "new_store" s_new_store ["many", "join", "short"]) (d_check_many : Def P w K mg base 3 "check_many" ["many"] (spP K (fnP F_check_many))) (d_check_join : Def P w K mg base 2 "check_join" ["join"] (spP K (fnP F_check_join))) (d_check_short : Def P w K mg base 2 "check_short" ["short"] (spP K (fnP F_check_short))) : Def P w K mg base 4 "new_store" ["many", "join", "short"] (spP K (fnP F_new_store)) :=
  d_def F sc_new_store (fun f cdv A outer s H E hr => (s_cons (s_expr (ps_expr (DE.ee (d_callD d_check_many hr (a_cons ns_Name (d_v (pv 0)) a_nil) (he := ns_Name _ _)))))
    (s_cons (s_expr (ps_expr (DE.ee (d_callD d_check_join hr (a_cons ns_Name (d_v (pv 1)) a_nil) (he := ns_Name _ _)))))
    (s_cons (s_expr (ps_expr (DE.ee (d_callD d_check_short hr (a_cons ns_Name (d_v (pv 2)) a_nil) (he := ns_Name _ _)))))
    (s_cons (s_set (ps_set (i := 3) sc_new_store.nd rfl (by first | exact Or.inl rfl | exact Or.inr rfl) (DE.ee (d_if (b_cmp (c_eq hr.units) (d_v (pv 1)) d_str (nomark _)) d_int d_int))))
    (s_one (s_ret (d_tup (a_cons ns_Name (d_v (pv 1)) (a_cons ns_Name (d_v (pv 2)) (a_cons ns_Call (d_tupR T.n_tuple (a_cons ns_Call (d_cb rc_rng kRng_ok (pe_callTy call_range1 rfl T.n_range bt_range (DA.t (a_cons ns_Name (d_v (pv 0)) a_nil)) (he := ns_Name _ _))) a_nil) (he := ns_Call _ _)) (a_cons ns_BinOp (d_mul (d_tup (a_cons ns_Name (d_v (pv 3)) a_nil)) (d_v (pv 0))) a_nil))))))))))))
theorem ok__law_right (T : Txt mg) (F : FunD K mg "_law_right" s__law_right ["_law_many_here", "_law_row"]) {a_is_pair : Addr} (d__law_times : Def P w K mg base 4 "_law_times" ["_law_many_here", "_law_row"] (spP K (fnP F__law_times))) (d_times_of : Def P w K mg base 7 "times_of" ["many", "row"] (spP K (fnP (F_times_of a_is_pair)))) : Def P w K mg base 8 "_law_right" ["_law_many_here", "_law_row"] (spP K (fnP (L__law_right a_is_pair))) :=
  d_def F sc__law_right (fun f cdv A outer s H E hr => (s_cons (s_set (ps_set (i := 2) sc__law_right.nd rfl (by first | exact Or.inl rfl | exact Or.inr rfl) (DE.ee (d_callD d__law_times hr (a_cons ns_Name (d_v (pv 0)) (a_cons ns_Name (d_v (pv 1)) a_nil)) (he := ns_Name _ _)))))
    (s_cons (s_set (ps_set (i := 3) sc__law_right.nd rfl (by first | exact Or.inl rfl | exact Or.inr rfl) (DE.ee (d_callD d_times_of hr (a_cons ns_Name (d_v (pv 0)) (a_cons ns_Name (d_v (pv 1)) a_nil)) (he := ns_Name _ _)))))
    (s_cons (s_if (b_w (w_or (b_not (b_val (d_cb rc_isI kIs_ok (pe_callB call_isinst rfl T.n_isinstance bt_isinstance (DA.t (a_cons ns_Name (d_v (pv 3)) (a_cons ns_Name (d_c (pu_c (p := .ty "tuple") (pe_ty T.n_tuple bt_tuple))) a_nil))) (he := ns_Name _ _))))) (w_or (b_cmp (c_ne hr.units) (d_v (pv 3)) (d_v (pv 2)) (nomark _)) (w_or1 (b_not (b_val (d_cb rc_all kAll_ok (pe_callB (call_all rfl) rfl T.n_all bt_all (DA.t (a_cons ns_ListComp (d_comp r_name (pe_cmp' ["_law_part"] [none] (i_seq (d_v (pv 3))) (fun bC bs bH bx => (pg_name (i := 0) (show List.Nodup (["_law_part"] : List Str) by decide +kernel) rfl (by first | exact Or.inl rfl | exact Or.inr rfl))) (fun bC bs bH bx => if_nil) (fun bC bs bH bx => DE.ee (d_cb rc_isI kIs_ok (pe_callB call_isinst rfl T.n_isinstance bt_isinstance (DA.t (a_cons ns_Name (d_v (pv 0)) (a_cons ns_Name (d_c (pu_c (p := .ty "tuple") (pe_ty T.n_tuple bt_tuple))) a_nil))) (he := ns_Name _ _)))) (gkeep_name rfl))) a_nil)) (he := ns_ListComp _ _))))))))) (s_one (s_ret d_bl)) s_nil)
    (s_cons (s_if (b_val (d_cb rc_any kAny_ok (pe_callB (call_any rfl) rfl T.n_any bt_any (DA.t (a_cons ns_ListComp (d_comp r_name (pe_cmp' ["_law_number"] [none] (i_seq (d_add (d_ix (d_v (pv 3)) d_int (fun _ _ => rfl)) (d_ix (d_v (pv 3)) d_int (fun _ _ => rfl)))) (fun bC bs bH bx => (pg_name (i := 0) (show List.Nodup (["_law_number"] : List Str) by decide +kernel) rfl (by first | exact Or.inl rfl | exact Or.inr rfl))) (fun bC bs bH bx => if_nil) (fun bC bs bH bx => DE.ee (d_cb rc_isI kIs_ok (pe_callB call_isinst rfl T.n_isinstance bt_isinstance (DA.t (a_cons ns_Name (d_v (pv 0)) (a_cons ns_Name (d_c (pu_c (p := .ty "bool") (pe_ty T.n_bool bt_bool))) a_nil))) (he := ns_Name _ _)))) (gkeep_name rfl))) a_nil)) (he := ns_ListComp _ _)))) (s_one (s_ret d_bl)) s_nil)
    (s_cons (s_asg (r_tup (r_cons r_name (r_cons r_name r_nil))) (ps_asg (DE.ee (d_v (pv 3))) (k_gtup (K := K) (n := 2) rfl rfl (pgs_cons (pg_name (i := 4) sc__law_right.nd rfl (by first | exact Or.inl rfl | exact Or.inr rfl)) (pgs_cons (pg_name (i := 5) sc__law_right.nd rfl (by first | exact Or.inl rfl | exact Or.inr rfl)) pgs_nil)))))
    (s_cons (s_for r_name (ps_for PassesOwn.never rfl (i_rng1 (pi_range1 rfl T.n_range (DA.t (a_cons ns_Name (d_v (pv 0)) a_nil)))) (pg_name (i := 6) sc__law_right.nd rfl (by first | exact Or.inl rfl | exact Or.inr rfl)) (s_cons (s_set (ps_set (i := 7) sc__law_right.nd rfl (by first | exact Or.inl rfl | exact Or.inr rfl) (DE.ee (d_ix (d_v (pv 4)) (d_v (pv 6)) (fun _ _ => rfl)))))
    (s_one (s_if (b_w (w_or (b_cmp (c_ne hr.units) (d_cmp (c_eq hr.units) (d_v (pv 7)) (d_v (pv 6)) (nomark _)) (d_cmp c_is (d_ix (d_v (pv 5)) (d_v (pv 6)) (fun _ _ => rfl)) d_non (nomark _)) (nomark _)) (w_or1 (b_w (w_and (b_cmp (c_ne hr.units) (d_v (pv 7)) (d_v (pv 6)) (nomark _)) (w_and (b_cmp c_isNot (d_ix (d_v (pv 5)) (d_v (pv 7)) (fun _ _ => rfl)) d_non (nomark _)) (w_and1 (b_cmp c_le (d_ix (d_v (pv 5)) (d_v (pv 7)) (fun _ _ => rfl)) (d_ix (d_v (pv 5)) (d_v (pv 6)) (fun _ _ => rfl)) (nomark _))))))))) (s_one (s_ret d_bl)) s_nil)))))
    (s_one (s_ret (d_cmp (c_eq hr.units) (d_callD d_times_of hr (a_cons ns_Name (d_v (pv 0)) (a_cons ns_Name (d_v (pv 1)) a_nil)) (he := ns_Name _ _)) (d_v (pv 2)) (nomark _)))))))))))
end
end K30
end
section
namespace K30
open PySem L2 Fo Pu Dp
open O30 (Txt top Tabs)
section
variable {P : Program} {w : World} {K : PySem.W.Frag} {mg : Str → Option Value} {base : Heap}
theorem law_body (T : Txt mg) {f : Addr} {cdv : Value} {A : Around} {outer : List Env} {s : Shared} {H : Hp} {vs : List V} {Q : VK} {E : XK} (hr : Room 8 (A.deeper (PyProof.Rows.envOfC "law" (defScope s_law) s.heap.objs.size f cdv))) (h : spLaw K vs H Q E) {a_is_pair : Addr} (d__law_drawn : Def P w K mg base 3 "_law_drawn" ["_law_script", "_law_at"] (spP K (fnP F__law_drawn))) (d__law_right : Def P w K mg base 8 "_law_right" ["_law_many_here", "_law_row"] (spP K (fnP (L__law_right a_is_pair)))) :
    ∃ t, PSs (cxOf CX0 P w K mg base ["_law_script", "_law_at", "_law_many_here", "_law_row"] "law" (defScope s_law) f cdv A outer s H E).nox (defBody s_law) t ∧ t { nx := fun _ H' => Q .non H', rt := Q } (L2.start ["_law_script", "_law_at", "_law_many_here", "_law_row"] vs) H :=
  law_go (N := ["_law_script", "_law_at", "_law_many_here", "_law_row"]) (X := (cxOf CX0 P w K mg base ["_law_script", "_law_at", "_law_many_here", "_law_row"] "law" (defScope s_law) f cdv A outer s H E).nox) (s_cons (s_for r_name (ps_for PassesOwn.never rfl (i_seq (d_lst (a_cons ns_Constant d_int (a_cons ns_Constant d_int (a_cons ns_Constant d_int a_nil))))) (pg_name (i := 1) sc_law.nd rfl (by first | exact Or.inl rfl | exact Or.inr rfl)) (s_cons (s_asg (r_tup (r_cons r_name (r_cons r_name r_nil))) (ps_asg (DE.ee (d_callD d__law_drawn hr (a_cons ns_Name (d_v (pv 0)) (a_cons ns_Name (d_v (pv 1)) a_nil)) (he := ns_Name _ _))) (k_gtup (K := K) (n := 2) rfl rfl (pgs_cons (pg_name (i := 2) sc_law.nd rfl (by first | exact Or.inl rfl | exact Or.inr rfl)) (pgs_cons (pg_name (i := 3) sc_law.nd rfl (by first | exact Or.inl rfl | exact Or.inr rfl)) pgs_nil)))))
    (s_one (s_if (b_not (b_val (d_callD d__law_right hr (a_cons ns_Name (d_v (pv 2)) (a_cons ns_Name (d_v (pv 3)) a_nil)) (he := ns_Name _ _)))) (s_one (s_ret d_bl)) s_nil)))))
    (s_one (s_ret d_bl))) h law_true
end
end K30
end

section
namespace K30
open PySem L2 Fo Pu Dp
open O30 (Txt top Tabs)
@[elab_as_elim] theorem len1 {P : List Value → Prop} {us : List Value} (h : us.length = 1) (k : ∀ a, P [a]) : P us := by
  obtain _ | ⟨_, us⟩ := us
  · cases h
  obtain _ | ⟨_, us⟩ := us
  · exact k _
  · simp at h
@[elab_as_elim] theorem len2 {P : List Value → Prop} {us : List Value} (h : us.length = 2) (k : ∀ a b, P [a, b]) : P us := by
  obtain _ | ⟨_, us⟩ := us
  · cases h
  obtain _ | ⟨_, us⟩ := us
  · cases h
  obtain _ | ⟨_, us⟩ := us
  · exact k _ _
  · simp at h
@[elab_as_elim] theorem len3 {P : List Value → Prop} {us : List Value} (h : us.length = 3) (k : ∀ a b c, P [a, b, c]) : P us := by
  obtain _ | ⟨_, us⟩ := us
  · cases h
  obtain _ | ⟨_, us⟩ := us
  · cases h
  obtain _ | ⟨_, us⟩ := us
  · cases h
  obtain _ | ⟨_, us⟩ := us
  · exact k _ _ _
  · simp at h
@[elab_as_elim] theorem len4 {P : List Value → Prop} {us : List Value} (h : us.length = 4) (k : ∀ a b c d, P [a, b, c, d]) : P us := by
  obtain _ | ⟨_, us⟩ := us
  · cases h
  obtain _ | ⟨_, us⟩ := us
  · cases h
  obtain _ | ⟨_, us⟩ := us
  · cases h
  obtain _ | ⟨_, us⟩ := us
  · cases h
  obtain _ | ⟨_, us⟩ := us
  · exact k _ _ _ _
  · simp at h
@[elab_as_elim] theorem len5 {P : List Value → Prop} {us : List Value} (h : us.length = 5) (k : ∀ a b c d e, P [a, b, c, d, e]) : P us := by
  obtain _ | ⟨_, us⟩ := us
  · cases h
  obtain _ | ⟨_, us⟩ := us
  · cases h
  obtain _ | ⟨_, us⟩ := us
  · cases h
  obtain _ | ⟨_, us⟩ := us
  · cases h
  obtain _ | ⟨_, us⟩ := us
  · cases h
  obtain _ | ⟨_, us⟩ := us
  · exact k _ _ _ _ _
  · simp at h
theorem all_mk {l : PySem.W.OpenLaw} {w : World} {K : PySem.W.Frag} {h : Heap} {mg : Str → Option Value} {fa f0 f1 f2 f3 f4 f5 f6 f7 f8 f9 f10 f11 f12 f13 f14 f15 f16 f17 f18 f19 f20 f21 f22 f23 f24 f25 f26 f27 f28 f29 f30 f31 f32 f33 f34 f35 f36 f37 f38 f39 : Addr} (X : K.In h) (G : h.Ns mainGlobals mg) (hfa : mg "law" = some (.ref fa))
    {od0 an0 od1 an1 od2 an2 od3 an3 od4 an4 od5 an5 od6 an6 od7 an7 od8 an8 od9 an9 od10 an10 od11 an11 od12 an12 od13 an13 od14 an14 od15 an15 od16 an16 od17 an17 od18 an18 od19 an19 od20 an20 od21 an21 od22 an22 od23 an23 od24 an24 od25 an25 od26 an26 od27 an27 od28 an28 od29 an29 od30 an30 od31 an31 od32 an32 od33 an33 od34 an34 od35 an35 od36 an36 od37 an37 od38 an38 od39 an39 : Option Addr} {sl0 sl1 sl2 sl3 sl4 sl5 sl6 sl7 sl8 sl9 sl10 sl11 sl12 sl13 sl14 sl15 sl16 sl17 sl18 sl19 sl20 sl21 sl22 sl23 sl24 sl25 sl26 sl27 sl28 sl29 sl30 sl31 sl32 sl33 sl34 sl35 sl36 sl37 sl38 sl39 : Array (Option Value)} {oc0 kV0 dc0 pm0 cd0 ct0 oc1 kV1 dc1 pm1 cd1 ct1 oc2 kV2 dc2 pm2 cd2 ct2 oc3 kV3 dc3 pm3 cd3 ct3 oc4 kV4 dc4 pm4 cd4 ct4 oc5 kV5 dc5 pm5 cd5 ct5 oc6 kV6 dc6 pm6 cd6 ct6 oc7 kV7 dc7 pm7 cd7 ct7 oc8 kV8 dc8 pm8 cd8 ct8 oc9 kV9 dc9 pm9 cd9 ct9 oc10 kV10 dc10 pm10 cd10 ct10 oc11 kV11 dc11 pm11 cd11 ct11 oc12 kV12 dc12 pm12 cd12 ct12 oc13 kV13 dc13 pm13 cd13 ct13 oc14 kV14 dc14 pm14 cd14 ct14 oc15 kV15 dc15 pm15 cd15 ct15 oc16 kV16 dc16 pm16 cd16 ct16 oc17 kV17 dc17 pm17 cd17 ct17 oc18 kV18 dc18 pm18 cd18 ct18 oc19 kV19 dc19 pm19 cd19 ct19 oc20 kV20 dc20 pm20 cd20 ct20 oc21 kV21 dc21 pm21 cd21 ct21 oc22 kV22 dc22 pm22 cd22 ct22 oc23 kV23 dc23 pm23 cd23 ct23 oc24 kV24 dc24 pm24 cd24 ct24 oc25 kV25 dc25 pm25 cd25 ct25 oc26 kV26 dc26 pm26 cd26 ct26 oc27 kV27 dc27 pm27 cd27 ct27 oc28 kV28 dc28 pm28 cd28 ct28 oc29 kV29 dc29 pm29 cd29 ct29 oc30 kV30 dc30 pm30 cd30 ct30 oc31 kV31 dc31 pm31 cd31 ct31 oc32 kV32 dc32 pm32 cd32 ct32 oc33 kV33 dc33 pm33 cd33 ct33 oc34 kV34 dc34 pm34 cd34 ct34 oc35 kV35 dc35 pm35 cd35 ct35 oc36 kV36 dc36 pm36 cd36 ct36 oc37 kV37 dc37 pm37 cd37 ct37 oc38 kV38 dc38 pm38 cd38 ct38 oc39 kV39 dc39 pm39 cd39 ct39 : Value}
    (a0 : PySem.W.nsIn K mainGlobals "find_none" = some (some (.ref f0))) (l0 : K.lookup f0 = some ⟨oc0, od0, .func (PySem.W.fnOf "find_none" "find_none" (defArgs s_find_none) (defBody s_find_none) (defScope s_find_none) .none kV0 dc0 pm0 an0 cd0 ct0), sl0⟩) (c0 : PySem.W.codeIn K cd0 "find_none" = true) (k0 : PySem.W.keepIn K (.ref f0) = true)
    (a1 : PySem.W.nsIn K mainGlobals "find_whole" = some (some (.ref f1))) (l1 : K.lookup f1 = some ⟨oc1, od1, .func (PySem.W.fnOf "find_whole" "find_whole" (defArgs s_find_whole) (defBody s_find_whole) (defScope s_find_whole) .none kV1 dc1 pm1 an1 cd1 ct1), sl1⟩) (c1 : PySem.W.codeIn K cd1 "find_whole" = true) (k1 : PySem.W.keepIn K (.ref f1) = true)
    (a2 : PySem.W.nsIn K mainGlobals "find_halves" = some (some (.ref f2))) (l2 : K.lookup f2 = some ⟨oc2, od2, .func (PySem.W.fnOf "find_halves" "find_halves" (defArgs s_find_halves) (defBody s_find_halves) (defScope s_find_halves) .none kV2 dc2 pm2 an2 cd2 ct2), sl2⟩) (c2 : PySem.W.codeIn K cd2 "find_halves" = true) (k2 : PySem.W.keepIn K (.ref f2) = true)
    (a3 : PySem.W.nsIn K mainGlobals "find_splits" = some (some (.ref f3))) (l3 : K.lookup f3 = some ⟨oc3, od3, .func (PySem.W.fnOf "find_splits" "find_splits" (defArgs s_find_splits) (defBody s_find_splits) (defScope s_find_splits) .none kV3 dc3 pm3 an3 cd3 ct3), sl3⟩) (c3 : PySem.W.codeIn K cd3 "find_splits" = true) (k3 : PySem.W.keepIn K (.ref f3) = true)
    (a4 : PySem.W.nsIn K mainGlobals "find_one" = some (some (.ref f4))) (l4 : K.lookup f4 = some ⟨oc4, od4, .func (PySem.W.fnOf "find_one" "find_one" (defArgs s_find_one) (defBody s_find_one) (defScope s_find_one) .none kV4 dc4 pm4 an4 cd4 ct4), sl4⟩) (c4 : PySem.W.codeIn K cd4 "find_one" = true) (k4 : PySem.W.keepIn K (.ref f4) = true)
    (a5 : PySem.W.nsIn K mainGlobals "_law_numbers" = some (some (.ref f5))) (l5 : K.lookup f5 = some ⟨oc5, od5, .func (PySem.W.fnOf "_law_numbers" "_law_numbers" (defArgs s__law_numbers) (defBody s__law_numbers) (defScope s__law_numbers) .none kV5 dc5 pm5 an5 cd5 ct5), sl5⟩) (c5 : PySem.W.codeIn K cd5 "_law_numbers" = true) (k5 : PySem.W.keepIn K (.ref f5) = true)
    (a6 : PySem.W.nsIn K mainGlobals "_law_many" = some (some (.ref f6))) (l6 : K.lookup f6 = some ⟨oc6, od6, .func (PySem.W.fnOf "_law_many" "_law_many" (defArgs s__law_many) (defBody s__law_many) (defScope s__law_many) .none kV6 dc6 pm6 an6 cd6 ct6), sl6⟩) (c6 : PySem.W.codeIn K cd6 "_law_many" = true) (k6 : PySem.W.keepIn K (.ref f6) = true)
    (a7 : PySem.W.nsIn K mainGlobals "_law_cell" = some (some (.ref f7))) (l7 : K.lookup f7 = some ⟨oc7, od7, .func (PySem.W.fnOf "_law_cell" "_law_cell" (defArgs s__law_cell) (defBody s__law_cell) (defScope s__law_cell) .none kV7 dc7 pm7 an7 cd7 ct7), sl7⟩) (c7 : PySem.W.codeIn K cd7 "_law_cell" = true) (k7 : PySem.W.keepIn K (.ref f7) = true)
    (a8 : PySem.W.nsIn K mainGlobals "_law_joins" = some (some (.ref f8))) (l8 : K.lookup f8 = some ⟨oc8, od8, .func (PySem.W.fnOf "_law_joins" "_law_joins" (defArgs s__law_joins) (defBody s__law_joins) (defScope s__law_joins) .none kV8 dc8 pm8 an8 cd8 ct8), sl8⟩) (c8 : PySem.W.codeIn K cd8 "_law_joins" = true) (k8 : PySem.W.keepIn K (.ref f8) = true)
    (a9 : PySem.W.nsIn K mainGlobals "_law_drawn" = some (some (.ref f9))) (l9 : K.lookup f9 = some ⟨oc9, od9, .func (PySem.W.fnOf "_law_drawn" "_law_drawn" (defArgs s__law_drawn) (defBody s__law_drawn) (defScope s__law_drawn) .none kV9 dc9 pm9 an9 cd9 ct9), sl9⟩) (c9 : PySem.W.codeIn K cd9 "_law_drawn" = true) (k9 : PySem.W.keepIn K (.ref f9) = true)
    (a10 : PySem.W.nsIn K mainGlobals "_law_new" = some (some (.ref f10))) (l10 : K.lookup f10 = some ⟨oc10, od10, .func (PySem.W.fnOf "_law_new" "_law_new" (defArgs s__law_new) (defBody s__law_new) (defScope s__law_new) .none kV10 dc10 pm10 an10 cd10 ct10), sl10⟩) (c10 : PySem.W.codeIn K cd10 "_law_new" = true) (k10 : PySem.W.keepIn K (.ref f10) = true)
    (a11 : PySem.W.nsIn K mainGlobals "_law_way" = some (some (.ref f11))) (l11 : K.lookup f11 = some ⟨oc11, od11, .func (PySem.W.fnOf "_law_way" "_law_way" (defArgs s__law_way) (defBody s__law_way) (defScope s__law_way) .none kV11 dc11 pm11 an11 cd11 ct11), sl11⟩) (c11 : PySem.W.codeIn K cd11 "_law_way" = true) (k11 : PySem.W.keepIn K (.ref f11) = true)
    (a12 : PySem.W.nsIn K mainGlobals "_law_find" = some (some (.ref f12))) (l12 : K.lookup f12 = some ⟨oc12, od12, .func (PySem.W.fnOf "_law_find" "_law_find" (defArgs s__law_find) (defBody s__law_find) (defScope s__law_find) .none kV12 dc12 pm12 an12 cd12 ct12), sl12⟩) (c12 : PySem.W.codeIn K cd12 "_law_find" = true) (k12 : PySem.W.keepIn K (.ref f12) = true)
    (a13 : PySem.W.nsIn K mainGlobals "_law_linked" = some (some (.ref f13))) (l13 : K.lookup f13 = some ⟨oc13, od13, .func (PySem.W.fnOf "_law_linked" "_law_linked" (defArgs s__law_linked) (defBody s__law_linked) (defScope s__law_linked) .none kV13 dc13 pm13 an13 cd13 ct13), sl13⟩) (c13 : PySem.W.codeIn K cd13 "_law_linked" = true) (k13 : PySem.W.keepIn K (.ref f13) = true)
    (a14 : PySem.W.nsIn K mainGlobals "_law_deed" = some (some (.ref f14))) (l14 : K.lookup f14 = some ⟨oc14, od14, .func (PySem.W.fnOf "_law_deed" "_law_deed" (defArgs s__law_deed) (defBody s__law_deed) (defScope s__law_deed) .none kV14 dc14 pm14 an14 cd14 ct14), sl14⟩) (c14 : PySem.W.codeIn K cd14 "_law_deed" = true) (k14 : PySem.W.keepIn K (.ref f14) = true)
    (a15 : PySem.W.nsIn K mainGlobals "_law_times" = some (some (.ref f15))) (l15 : K.lookup f15 = some ⟨oc15, od15, .func (PySem.W.fnOf "_law_times" "_law_times" (defArgs s__law_times) (defBody s__law_times) (defScope s__law_times) .none kV15 dc15 pm15 an15 cd15 ct15), sl15⟩) (c15 : PySem.W.codeIn K cd15 "_law_times" = true) (k15 : PySem.W.keepIn K (.ref f15) = true)
    (a16 : PySem.W.nsIn K mainGlobals "is_whole" = some (some (.ref f16))) (l16 : K.lookup f16 = some ⟨oc16, od16, .func (PySem.W.fnOf "is_whole" "is_whole" (defArgs s_is_whole) (defBody s_is_whole) (defScope s_is_whole) .none kV16 dc16 pm16 an16 cd16 ct16), sl16⟩) (c16 : PySem.W.codeIn K cd16 "is_whole" = true) (k16 : PySem.W.keepIn K (.ref f16) = true)
    (a17 : PySem.W.nsIn K mainGlobals "is_many" = some (some (.ref f17))) (l17 : K.lookup f17 = some ⟨oc17, od17, .func (PySem.W.fnOf "is_many" "is_many" (defArgs s_is_many) (defBody s_is_many) (defScope s_is_many) .none kV17 dc17 pm17 an17 cd17 ct17), sl17⟩) (c17 : PySem.W.codeIn K cd17 "is_many" = true) (k17 : PySem.W.keepIn K (.ref f17) = true)
    (a18 : PySem.W.nsIn K mainGlobals "check_many" = some (some (.ref f18))) (l18 : K.lookup f18 = some ⟨oc18, od18, .func (PySem.W.fnOf "check_many" "check_many" (defArgs s_check_many) (defBody s_check_many) (defScope s_check_many) .none kV18 dc18 pm18 an18 cd18 ct18), sl18⟩) (c18 : PySem.W.codeIn K cd18 "check_many" = true) (k18 : PySem.W.keepIn K (.ref f18) = true)
    (a19 : PySem.W.nsIn K mainGlobals "check_row" = some (some (.ref f19))) (l19 : K.lookup f19 = some ⟨oc19, od19, .func (PySem.W.fnOf "check_row" "check_row" (defArgs s_check_row) (defBody s_check_row) (defScope s_check_row) .none kV19 dc19 pm19 an19 cd19 ct19), sl19⟩) (c19 : PySem.W.codeIn K cd19 "check_row" = true) (k19 : PySem.W.keepIn K (.ref f19) = true)
    (a20 : PySem.W.nsIn K mainGlobals "is_thing" = some (some (.ref f20))) (l20 : K.lookup f20 = some ⟨oc20, od20, .func (PySem.W.fnOf "is_thing" "is_thing" (defArgs s_is_thing) (defBody s_is_thing) (defScope s_is_thing) .none kV20 dc20 pm20 an20 cd20 ct20), sl20⟩) (c20 : PySem.W.codeIn K cd20 "is_thing" = true) (k20 : PySem.W.keepIn K (.ref f20) = true)
    (a21 : PySem.W.nsIn K mainGlobals "is_pair" = some (some (.ref f21))) (l21 : K.lookup f21 = some ⟨oc21, od21, .func (PySem.W.fnOf "is_pair" "is_pair" (defArgs s_is_pair) (defBody s_is_pair) (defScope s_is_pair) .none kV21 dc21 pm21 an21 cd21 ct21), sl21⟩) (c21 : PySem.W.codeIn K cd21 "is_pair" = true) (k21 : PySem.W.keepIn K (.ref f21) = true)
    (a22 : PySem.W.nsIn K mainGlobals "check_joins" = some (some (.ref f22))) (l22 : K.lookup f22 = some ⟨oc22, od22, .func (PySem.W.fnOf "check_joins" "check_joins" (defArgs s_check_joins) (defBody s_check_joins) (defScope s_check_joins) .none kV22 dc22 pm22 an22 cd22 ct22), sl22⟩) (c22 : PySem.W.codeIn K cd22 "check_joins" = true) (k22 : PySem.W.keepIn K (.ref f22) = true)
    (a23 : PySem.W.nsIn K mainGlobals "check_many_and_row" = some (some (.ref f23))) (l23 : K.lookup f23 = some ⟨oc23, od23, .func (PySem.W.fnOf "check_many_and_row" "check_many_and_row" (defArgs s_check_many_and_row) (defBody s_check_many_and_row) (defScope s_check_many_and_row) .none kV23 dc23 pm23 an23 cd23 ct23), sl23⟩) (c23 : PySem.W.codeIn K cd23 "check_many_and_row" = true) (k23 : PySem.W.keepIn K (.ref f23) = true)
    (a24 : PySem.W.nsIn K mainGlobals "is_way_of_joining" = some (some (.ref f24))) (l24 : K.lookup f24 = some ⟨oc24, od24, .func (PySem.W.fnOf "is_way_of_joining" "is_way_of_joining" (defArgs s_is_way_of_joining) (defBody s_is_way_of_joining) (defScope s_is_way_of_joining) .none kV24 dc24 pm24 an24 cd24 ct24), sl24⟩) (c24 : PySem.W.codeIn K cd24 "is_way_of_joining" = true) (k24 : PySem.W.keepIn K (.ref f24) = true)
    (a25 : PySem.W.nsIn K mainGlobals "check_join" = some (some (.ref f25))) (l25 : K.lookup f25 = some ⟨oc25, od25, .func (PySem.W.fnOf "check_join" "check_join" (defArgs s_check_join) (defBody s_check_join) (defScope s_check_join) .none kV25 dc25 pm25 an25 cd25 ct25), sl25⟩) (c25 : PySem.W.codeIn K cd25 "check_join" = true) (k25 : PySem.W.keepIn K (.ref f25) = true)
    (a26 : PySem.W.nsIn K mainGlobals "is_short" = some (some (.ref f26))) (l26 : K.lookup f26 = some ⟨oc26, od26, .func (PySem.W.fnOf "is_short" "is_short" (defArgs s_is_short) (defBody s_is_short) (defScope s_is_short) .none kV26 dc26 pm26 an26 cd26 ct26), sl26⟩) (c26 : PySem.W.codeIn K cd26 "is_short" = true) (k26 : PySem.W.keepIn K (.ref f26) = true)
    (a27 : PySem.W.nsIn K mainGlobals "check_short" = some (some (.ref f27))) (l27 : K.lookup f27 = some ⟨oc27, od27, .func (PySem.W.fnOf "check_short" "check_short" (defArgs s_check_short) (defBody s_check_short) (defScope s_check_short) .none kV27 dc27 pm27 an27 cd27 ct27), sl27⟩) (c27 : PySem.W.codeIn K cd27 "check_short" = true) (k27 : PySem.W.keepIn K (.ref f27) = true)
    (a28 : PySem.W.nsIn K mainGlobals "new_store" = some (some (.ref f28))) (l28 : K.lookup f28 = some ⟨oc28, od28, .func (PySem.W.fnOf "new_store" "new_store" (defArgs s_new_store) (defBody s_new_store) (defScope s_new_store) .none kV28 dc28 pm28 an28 cd28 ct28), sl28⟩) (c28 : PySem.W.codeIn K cd28 "new_store" = true) (k28 : PySem.W.keepIn K (.ref f28) = true)
    (a29 : PySem.W.nsIn K mainGlobals "find_in" = some (some (.ref f29))) (l29 : K.lookup f29 = some ⟨oc29, od29, .func (PySem.W.fnOf "find_in" "find_in" (defArgs s_find_in) (defBody s_find_in) (defScope s_find_in) .none kV29 dc29 pm29 an29 cd29 ct29), sl29⟩) (c29 : PySem.W.codeIn K cd29 "find_in" = true) (k29 : PySem.W.keepIn K (.ref f29) = true)
    (a30 : PySem.W.nsIn K mainGlobals "copied" = some (some (.ref f30))) (l30 : K.lookup f30 = some ⟨oc30, od30, .func (PySem.W.fnOf "copied" "copied" (defArgs s_copied) (defBody s_copied) (defScope s_copied) .none kV30 dc30 pm30 an30 cd30 ct30), sl30⟩) (c30 : PySem.W.codeIn K cd30 "copied" = true) (k30 : PySem.W.keepIn K (.ref f30) = true)
    (a31 : PySem.W.nsIn K mainGlobals "find_done" = some (some (.ref f31))) (l31 : K.lookup f31 = some ⟨oc31, od31, .func (PySem.W.fnOf "find_done" "find_done" (defArgs s_find_done) (defBody s_find_done) (defScope s_find_done) .none kV31 dc31 pm31 an31 cd31 ct31), sl31⟩) (c31 : PySem.W.codeIn K cd31 "find_done" = true) (k31 : PySem.W.keepIn K (.ref f31) = true)
    (a32 : PySem.W.nsIn K mainGlobals "first_stays" = some (some (.ref f32))) (l32 : K.lookup f32 = some ⟨oc32, od32, .func (PySem.W.fnOf "first_stays" "first_stays" (defArgs s_first_stays) (defBody s_first_stays) (defScope s_first_stays) .none kV32 dc32 pm32 an32 cd32 ct32), sl32⟩) (c32 : PySem.W.codeIn K cd32 "first_stays" = true) (k32 : PySem.W.keepIn K (.ref f32) = true)
    (a33 : PySem.W.nsIn K mainGlobals "mark_behind" = some (some (.ref f33))) (l33 : K.lookup f33 = some ⟨oc33, od33, .func (PySem.W.fnOf "mark_behind" "mark_behind" (defArgs s_mark_behind) (defBody s_mark_behind) (defScope s_mark_behind) .none kV33 dc33 pm33 an33 cd33 ct33), sl33⟩) (c33 : PySem.W.codeIn K cd33 "mark_behind" = true) (k33 : PySem.W.keepIn K (.ref f33) = true)
    (a34 : PySem.W.nsIn K mainGlobals "with_heads_joined" = some (some (.ref f34))) (l34 : K.lookup f34 = some ⟨oc34, od34, .func (PySem.W.fnOf "with_heads_joined" "with_heads_joined" (defArgs s_with_heads_joined) (defBody s_with_heads_joined) (defScope s_with_heads_joined) .none kV34 dc34 pm34 an34 cd34 ct34), sl34⟩) (c34 : PySem.W.codeIn K cd34 "with_heads_joined" = true) (k34 : PySem.W.keepIn K (.ref f34) = true)
    (a35 : PySem.W.nsIn K mainGlobals "join_done" = some (some (.ref f35))) (l35 : K.lookup f35 = some ⟨oc35, od35, .func (PySem.W.fnOf "join_done" "join_done" (defArgs s_join_done) (defBody s_join_done) (defScope s_join_done) .none kV35 dc35 pm35 an35 cd35 ct35), sl35⟩) (c35 : PySem.W.codeIn K cd35 "join_done" = true) (k35 : PySem.W.keepIn K (.ref f35) = true)
    (a36 : PySem.W.nsIn K mainGlobals "forest_and_times" = some (some (.ref f36))) (l36 : K.lookup f36 = some ⟨oc36, od36, .func (PySem.W.fnOf "forest_and_times" "forest_and_times" (defArgs s_forest_and_times) (defBody s_forest_and_times) (defScope s_forest_and_times) .none kV36 dc36 pm36 an36 cd36 ct36), sl36⟩) (c36 : PySem.W.codeIn K cd36 "forest_and_times" = true) (k36 : PySem.W.keepIn K (.ref f36) = true)
    (a37 : PySem.W.nsIn K mainGlobals "times_of" = some (some (.ref f37))) (l37 : K.lookup f37 = some ⟨oc37, od37, .func (PySem.W.fnOf "times_of" "times_of" (defArgs s_times_of) (defBody s_times_of) (defScope s_times_of) .none kV37 dc37 pm37 an37 cd37 ct37), sl37⟩) (c37 : PySem.W.codeIn K cd37 "times_of" = true) (k37 : PySem.W.keepIn K (.ref f37) = true)
    (a38 : PySem.W.nsIn K mainGlobals "_law_right" = some (some (.ref f38))) (l38 : K.lookup f38 = some ⟨oc38, od38, .func (PySem.W.fnOf "_law_right" "_law_right" (defArgs s__law_right) (defBody s__law_right) (defScope s__law_right) .none kV38 dc38 pm38 an38 cd38 ct38), sl38⟩) (c38 : PySem.W.codeIn K cd38 "_law_right" = true) (k38 : PySem.W.keepIn K (.ref f38) = true)
    (a39 : PySem.W.nsIn K mainGlobals "law" = some (some (.ref f39))) (l39 : K.lookup f39 = some ⟨oc39, od39, .func (PySem.W.fnOf "law" "law" (defArgs s_law) (defBody s_law) (defScope s_law) .none kV39 dc39 pm39 an39 cd39 ct39), sl39⟩) (c39 : PySem.W.codeIn K cd39 "law" = true) (k39 : PySem.W.keepIn K (.ref f39) = true)
    (z_abs : PySem.W.nsIn K mainGlobals "abs" = some none)
    (z_all : PySem.W.nsIn K mainGlobals "all" = some none)
    (z_any : PySem.W.nsIn K mainGlobals "any" = some none)
    (z_bool : PySem.W.nsIn K mainGlobals "bool" = some none)
    (z_enumerate : PySem.W.nsIn K mainGlobals "enumerate" = some none)
    (z_int : PySem.W.nsIn K mainGlobals "int" = some none)
    (z_isinstance : PySem.W.nsIn K mainGlobals "isinstance" = some none)
    (z_len : PySem.W.nsIn K mainGlobals "len" = some none)
    (z_list : PySem.W.nsIn K mainGlobals "list" = some none)
    (z_min : PySem.W.nsIn K mainGlobals "min" = some none)
    (z_range : PySem.W.nsIn K mainGlobals "range" = some none)
    (z_str : PySem.W.nsIn K mainGlobals "str" = some none)
    (z_tuple : PySem.W.nsIn K mainGlobals "tuple" = some none)
    {tk_MOST_THINGS : Tok}
    (y_MOST_THINGS : PySem.W.nsIn K mainGlobals "MOST_THINGS" = some (some (.int 40 tk_MOST_THINGS)))
    {aM : Addr} {u0 u1 u2 u3 u4 : Tok} (y_tab : PySem.W.nsIn K mainGlobals "MANNERS" = some (some (.ref aM)))
    (y_lay : K.lookup aM = some ⟨.type "dict", none, .dict #[⟨PyData.keyHash w.params "none", .str "none" u0, .ref f0⟩, ⟨PyData.keyHash w.params "whole", .str "whole" u1, .ref f1⟩, ⟨PyData.keyHash w.params "halves", .str "halves" u2, .ref f2⟩, ⟨PyData.keyHash w.params "splits", .str "splits" u3, .ref f3⟩, ⟨PyData.keyHash w.params "one", .str "one" u4, .ref f4⟩] 5, #[]⟩) (y_sys : (aM == sysModules) = false)
    {aK0 : Addr} {oK0 : Option Addr} {nK0 : Nat} {sK0 : Array (Option Value)} {tK0_0 tK0_1 tK0_2 tK0_3 : Tok} (yk0 : PySem.W.nsIn K mainGlobals "JOINS" = some (some (.ref aK0)))
    (lk0 : K.lookup aK0 = some ⟨.type "tuple", oK0, .seq #[.str "size" tK0_0, .str "rank" tK0_1, .str "told" tK0_2, .str "names" tK0_3] nK0, sK0⟩)
    : ∃ fd : FuncData, (∀ (s : Shared) (u : Value), BindsTo s fd ⟨[u], []⟩ [("_law_script", u)]) ∧ ∀ base : Heap, K.In base ∧ base.Ns mainGlobals mg → FnOk l.prog w K mg base CX0 9 fa fd ["_law_script"] (spLaw K) := by
  have T : Txt mg := ⟨PySem.W.mg_none_of X G z_abs, PySem.W.mg_none_of X G z_all, PySem.W.mg_none_of X G z_any, PySem.W.mg_none_of X G z_bool, PySem.W.mg_none_of X G z_enumerate, PySem.W.mg_none_of X G z_int, PySem.W.mg_none_of X G z_isinstance, PySem.W.mg_none_of X G z_len, PySem.W.mg_none_of X G z_list, PySem.W.mg_none_of X G z_min, PySem.W.mg_none_of X G z_range, PySem.W.mg_none_of X G z_str, PySem.W.mg_none_of X G z_tuple, ⟨_, PySem.W.mg_of X G y_MOST_THINGS⟩⟩
  have TM : Tabs w K mg aM [("none", f0), ("whole", f1), ("halves", f2), ("splits", f3), ("one", f4)] := ⟨PySem.W.mg_of X G y_tab, ⟨y_sys, (show List.Nodup (["none", "whole", "halves", "splits", "one"] : List Str) by decide +kernel), _, _, y_lay, .cons (.cons (.cons (.cons (.cons (.nil)))))⟩⟩
  have TK : Kon w K mg := ⟨⟨aK0, PySem.W.mg_of X G yk0, ktup_mk lk0 (.str (.str (.str (.str .nil)))) (show 4 ≤ sizeLine by decide)⟩⟩
  have F_find_none : FunD K mg "find_none" s_find_none ["ups", "x"] := fund_mk l0 c0 k0 (PySem.W.mg_of X G a0) fun _ _ _ _ _ _ us hl => len2 hl fun _ _ => rfl
  have F_find_whole : FunD K mg "find_whole" s_find_whole ["ups", "x"] := fund_mk l1 c1 k1 (PySem.W.mg_of X G a1) fun _ _ _ _ _ _ us hl => len2 hl fun _ _ => rfl
  have F_find_halves : FunD K mg "find_halves" s_find_halves ["ups", "x"] := fund_mk l2 c2 k2 (PySem.W.mg_of X G a2) fun _ _ _ _ _ _ us hl => len2 hl fun _ _ => rfl
  have F_find_splits : FunD K mg "find_splits" s_find_splits ["ups", "x"] := fund_mk l3 c3 k3 (PySem.W.mg_of X G a3) fun _ _ _ _ _ _ us hl => len2 hl fun _ _ => rfl
  have F_find_one : FunD K mg "find_one" s_find_one ["ups", "x"] := fund_mk l4 c4 k4 (PySem.W.mg_of X G a4) fun _ _ _ _ _ _ us hl => len2 hl fun _ _ => rfl
  have F__law_numbers : FunD K mg "_law_numbers" s__law_numbers ["_law_cell_here", "_law_many_here"] := fund_mk l5 c5 k5 (PySem.W.mg_of X G a5) fun _ _ _ _ _ _ us hl => len2 hl fun _ _ => rfl
  have F__law_many : FunD K mg "_law_many" s__law_many ["_law_x"] := fund_mk l6 c6 k6 (PySem.W.mg_of X G a6) fun _ _ _ _ _ _ us hl => len1 hl fun _ => rfl
  have F__law_cell : FunD K mg "_law_cell" s__law_cell ["_law_script", "_law_k"] := fund_mk l7 c7 k7 (PySem.W.mg_of X G a7) fun _ _ _ _ _ _ us hl => len2 hl fun _ _ => rfl
  have F__law_joins : FunD K mg "_law_joins" s__law_joins ["_law_script", "_law_at", "_law_many_here", "_law_most"] := fund_mk l8 c8 k8 (PySem.W.mg_of X G a8) fun _ _ _ _ _ _ us hl => len4 hl fun _ _ _ _ => rfl
  have F__law_drawn : FunD K mg "_law_drawn" s__law_drawn ["_law_script", "_law_at"] := fund_mk l9 c9 k9 (PySem.W.mg_of X G a9) fun _ _ _ _ _ _ us hl => len2 hl fun _ _ => rfl
  have F__law_new : FunD K mg "_law_new" s__law_new ["_law_many_here", "_law_join", "_law_short"] := fund_mk l10 c10 k10 (PySem.W.mg_of X G a10) fun _ _ _ _ _ _ us hl => len3 hl fun _ _ _ => rfl
  have F__law_way : FunD K mg "_law_way" s__law_way ["_law_ups", "_law_x"] := fund_mk l11 c11 k11 (PySem.W.mg_of X G a11) fun _ _ _ _ _ _ us hl => len2 hl fun _ _ => rfl
  have F__law_find : FunD K mg "_law_find" s__law_find ["_law_ups", "_law_short", "_law_x"] := fund_mk l12 c12 k12 (PySem.W.mg_of X G a12) fun _ _ _ _ _ _ us hl => len3 hl fun _ _ _ => rfl
  have F__law_linked : FunD K mg "_law_linked" s__law_linked ["_law_join", "_law_ups", "_law_marks", "_law_one", "_law_other"] := fund_mk l13 c13 k13 (PySem.W.mg_of X G a13) fun _ _ _ _ _ _ us hl => len5 hl fun _ _ _ _ _ => rfl
  have F__law_deed : FunD K mg "_law_deed" s__law_deed ["_law_store", "_law_deed_here"] := fund_mk l14 c14 k14 (PySem.W.mg_of X G a14) fun _ _ _ _ _ _ us hl => len2 hl fun _ _ => rfl
  have F__law_times : FunD K mg "_law_times" s__law_times ["_law_many_here", "_law_row"] := fund_mk l15 c15 k15 (PySem.W.mg_of X G a15) fun _ _ _ _ _ _ us hl => len2 hl fun _ _ => rfl
  have F_is_whole : FunD K mg "is_whole" s_is_whole ["thing"] := fund_mk l16 c16 k16 (PySem.W.mg_of X G a16) fun _ _ _ _ _ _ us hl => len1 hl fun _ => rfl
  have F_is_many : FunD K mg "is_many" s_is_many ["thing"] := fund_mk l17 c17 k17 (PySem.W.mg_of X G a17) fun _ _ _ _ _ _ us hl => len1 hl fun _ => rfl
  have F_check_many : FunD K mg "check_many" s_check_many ["many"] := fund_mk l18 c18 k18 (PySem.W.mg_of X G a18) fun _ _ _ _ _ _ us hl => len1 hl fun _ => rfl
  have F_check_row : FunD K mg "check_row" s_check_row ["many", "row", "is_right"] := fund_mk l19 c19 k19 (PySem.W.mg_of X G a19) fun _ _ _ _ _ _ us hl => len3 hl fun _ _ _ => rfl
  have F_is_thing : FunD K mg "is_thing" s_is_thing ["many", "thing"] := fund_mk l20 c20 k20 (PySem.W.mg_of X G a20) fun _ _ _ _ _ _ us hl => len2 hl fun _ _ => rfl
  have F_is_pair : FunD K mg "is_pair" s_is_pair ["many", "thing"] := fund_mk l21 c21 k21 (PySem.W.mg_of X G a21) fun _ _ _ _ _ _ us hl => len2 hl fun _ _ => rfl
  have F_check_joins : FunD K mg "check_joins" s_check_joins ["many", "row"] := fund_mk l22 c22 k22 (PySem.W.mg_of X G a22) fun _ _ _ _ _ _ us hl => len2 hl fun _ _ => rfl
  have F_check_many_and_row : FunD K mg "check_many_and_row" s_check_many_and_row ["many", "row"] := fund_mk l23 c23 k23 (PySem.W.mg_of X G a23) fun _ _ _ _ _ _ us hl => len2 hl fun _ _ => rfl
  have F_is_way_of_joining : FunD K mg "is_way_of_joining" s_is_way_of_joining ["thing"] := fund_mk l24 c24 k24 (PySem.W.mg_of X G a24) fun _ _ _ _ _ _ us hl => len1 hl fun _ => rfl
  have F_check_join : FunD K mg "check_join" s_check_join ["join"] := fund_mk l25 c25 k25 (PySem.W.mg_of X G a25) fun _ _ _ _ _ _ us hl => len1 hl fun _ => rfl
  have F_is_short : FunD K mg "is_short" s_is_short ["thing"] := fund_mk l26 c26 k26 (PySem.W.mg_of X G a26) fun _ _ _ _ _ _ us hl => len1 hl fun _ => rfl
  have F_check_short : FunD K mg "check_short" s_check_short ["short"] := fund_mk l27 c27 k27 (PySem.W.mg_of X G a27) fun _ _ _ _ _ _ us hl => len1 hl fun _ => rfl
  have F_new_store : FunD K mg "new_store" s_new_store ["many", "join", "short"] := fund_mk l28 c28 k28 (PySem.W.mg_of X G a28) fun _ _ _ _ _ _ us hl => len3 hl fun _ _ _ => rfl
  have F_find_in : FunD K mg "find_in" s_find_in ["ups", "short", "x"] := fund_mk l29 c29 k29 (PySem.W.mg_of X G a29) fun _ _ _ _ _ _ us hl => len3 hl fun _ _ _ => rfl
  have F_copied : FunD K mg "copied" s_copied ["numbers"] := fund_mk l30 c30 k30 (PySem.W.mg_of X G a30) fun _ _ _ _ _ _ us hl => len1 hl fun _ => rfl
  have F_find_done : FunD K mg "find_done" s_find_done ["store", "x"] := fund_mk l31 c31 k31 (PySem.W.mg_of X G a31) fun _ _ _ _ _ _ us hl => len2 hl fun _ _ => rfl
  have F_first_stays : FunD K mg "first_stays" s_first_stays ["join", "marks", "first", "second"] := fund_mk l32 c32 k32 (PySem.W.mg_of X G a32) fun _ _ _ _ _ _ us hl => len4 hl fun _ _ _ _ => rfl
  have F_mark_behind : FunD K mg "mark_behind" s_mark_behind ["join", "top", "under"] := fund_mk l33 c33 k33 (PySem.W.mg_of X G a33) fun _ _ _ _ _ _ us hl => len3 hl fun _ _ _ => rfl
  have F_with_heads_joined : FunD K mg "with_heads_joined" s_with_heads_joined ["store", "first", "second"] := fund_mk l34 c34 k34 (PySem.W.mg_of X G a34) fun _ _ _ _ _ _ us hl => len3 hl fun _ _ _ => rfl
  have F_join_done : FunD K mg "join_done" s_join_done ["store", "x", "y"] := fund_mk l35 c35 k35 (PySem.W.mg_of X G a35) fun _ _ _ _ _ _ us hl => len3 hl fun _ _ _ => rfl
  have F_forest_and_times : FunD K mg "forest_and_times" s_forest_and_times ["many", "row"] := fund_mk l36 c36 k36 (PySem.W.mg_of X G a36) fun _ _ _ _ _ _ us hl => len2 hl fun _ _ => rfl
  have F_times_of : FunD K mg "times_of" s_times_of ["many", "row"] := fund_mk l37 c37 k37 (PySem.W.mg_of X G a37) fun _ _ _ _ _ _ us hl => len2 hl fun _ _ => rfl
  have F__law_right : FunD K mg "_law_right" s__law_right ["_law_many_here", "_law_row"] := fund_mk l38 c38 k38 (PySem.W.mg_of X G a38) fun _ _ _ _ _ _ us hl => len2 hl fun _ _ => rfl
  have F_law : FunD K mg "law" s_law ["_law_script"] := fund_mk l39 c39 k39 (PySem.W.mg_of X G a39) fun _ _ _ _ _ _ us hl => len1 hl fun _ => rfl
  refine FunD.top (R := fun base => K.In base ∧ base.Ns mainGlobals mg) F_law hfa sc_law (fun vs H Q E h => by obtain ⟨a, ns, rfl, _⟩ := h; rfl) fun base hb f cdv A outer s H vs Q E hr h => ?_
  have D_find_none := O30.ok_find_none (P := l.prog) (w := w) (base := base) T F_find_none
  have D_find_whole := O30.ok_find_whole T F_find_whole D_find_none
  have D_find_halves := O30.ok_find_halves (P := l.prog) (w := w) (base := base) T F_find_halves
  have D_find_splits := O30.ok_find_splits (P := l.prog) (w := w) (base := base) T F_find_splits
  have D_find_one := O30.ok_find_one T F_find_one D_find_none
  have D_L := O30.all_manners (D_find_none.at (PySem.W.mg_of X G a0)) (D_find_whole.at (PySem.W.mg_of X G a1)) (D_find_halves.at (PySem.W.mg_of X G a2)) (D_find_splits.at (PySem.W.mg_of X G a3)) (D_find_one.at (PySem.W.mg_of X G a4))
  have D_find_in := Dp.fd_find_in (O30.br_find_in (O30.tab_manners _ _ _ _ _) (O30.ok_find_in (P := l.prog) (w := w) (base := base) T TM F_find_in D_L))
  have D_is_short := Dp.fd_is_short (O30.br_is_short (O30.tab_manners _ _ _ _ _) (O30.ok_is_short (P := l.prog) (w := w) (base := base) T TM F_is_short))
  have D__law_numbers := ok__law_numbers (P := l.prog) (w := w) (base := base) T F__law_numbers 
  have D__law_many := ok__law_many (P := l.prog) (w := w) (base := base) T F__law_many 
  have D__law_cell := ok__law_cell (P := l.prog) (w := w) (base := base) T F__law_cell 
  have D__law_joins := ok__law_joins (P := l.prog) (w := w) (base := base) T F__law_joins D__law_numbers D__law_cell
  have D__law_drawn := ok__law_drawn (P := l.prog) (w := w) (base := base) T F__law_drawn D__law_numbers D__law_many D__law_cell D__law_joins
  have D__law_new := ok__law_new (P := l.prog) (w := w) (base := base) T F__law_new 
  have D__law_way := ok__law_way (P := l.prog) (w := w) (base := base) T F__law_way 
  have D__law_find := ok__law_find (P := l.prog) (w := w) (base := base) T F__law_find D__law_way
  have D__law_linked := ok__law_linked (P := l.prog) (w := w) (base := base) T F__law_linked 
  have D__law_deed := ok__law_deed (P := l.prog) (w := w) (base := base) T F__law_deed D__law_find D__law_linked
  have D__law_times := ok__law_times (P := l.prog) (w := w) (base := base) T F__law_times D__law_new D__law_deed
  have D_is_whole := ok_is_whole (P := l.prog) (w := w) (base := base) T F_is_whole 
  have D_is_many := ok_is_many (P := l.prog) (w := w) (base := base) T F_is_many D_is_whole
  have D_check_many := ok_check_many (P := l.prog) (w := w) (base := base) T F_check_many D_is_many
  have D_is_thing := ok_is_thing (P := l.prog) (w := w) (base := base) T F_is_thing D_is_whole
  have D_is_pair := ok_is_pair (P := l.prog) (w := w) (base := base) T F_is_pair D_is_thing
  have D_check_row_OF_is_pair := ok_check_row (P := l.prog) (w := w) (base := base) T F_check_row (t := [(f21, Dp.F_is_pair)]) (fun z G1 hz => by obtain ⟨hz1, hz2⟩ := look1 hz; subst hz1 hz2; exact D_is_pair.at (PySem.W.mg_of X G a21))
  have D_check_joins := ok_check_joins (P := l.prog) (w := w) (base := base) T F_check_joins (PySem.W.mg_of X G a21) D_check_row_OF_is_pair
  have D_check_many_and_row := ok_check_many_and_row (P := l.prog) (w := w) (base := base) T F_check_many_and_row D_check_many D_check_joins
  have D_is_way_of_joining := ok_is_way_of_joining (P := l.prog) (w := w) (base := base) T TK F_is_way_of_joining 
  have D_check_join := ok_check_join (P := l.prog) (w := w) (base := base) T F_check_join D_is_way_of_joining
  have D_check_short := ok_check_short (P := l.prog) (w := w) (base := base) T F_check_short D_is_short
  have D_new_store := ok_new_store (P := l.prog) (w := w) (base := base) T F_new_store D_check_many D_check_join D_check_short
  have D_copied := ok_copied (P := l.prog) (w := w) (base := base) T F_copied 
  have D_find_done := ok_find_done (P := l.prog) (w := w) (base := base) T F_find_done D_find_in D_copied
  have D_first_stays := ok_first_stays (P := l.prog) (w := w) (base := base) T F_first_stays 
  have D_mark_behind := ok_mark_behind (P := l.prog) (w := w) (base := base) T F_mark_behind 
  have D_with_heads_joined := ok_with_heads_joined (P := l.prog) (w := w) (base := base) T F_with_heads_joined D_first_stays D_mark_behind
  have D_join_done := ok_join_done (P := l.prog) (w := w) (base := base) T F_join_done D_find_done D_with_heads_joined
  have D_forest_and_times := ok_forest_and_times (P := l.prog) (w := w) (base := base) T F_forest_and_times D_new_store D_join_done
  have D_times_of := ok_times_of (P := l.prog) (w := w) (base := base) T F_times_of D_check_many_and_row D_forest_and_times
  have D__law_right := ok__law_right (P := l.prog) (w := w) (base := base) T F__law_right D__law_times D_times_of
  exact law_body T hr h D__law_drawn D__law_right
end K30
def PySem.W.Fast.tw7738086517178512115 : Unit := ()
def PySem.W.Fast.tw4724365636421406956 : Unit := ()
def PySem.W.Fast.tw13549558907725684409 : Unit := ()
def PySem.W.Fast.tw10951179229505568568 : Unit := ()
def PySem.W.Fast.tw16072016896704055797 : Unit := ()
def PySem.W.Fast.tw1375160951073577844 : Unit := ()
def PySem.W.Fast.tw2652681158570654398 : Unit := ()
def PySem.W.Fast.tw9658133784158403756 : Unit := ()
def PySem.W.Fast.tw4700684716643962396 : Unit := ()
def PySem.W.Fast.tw1782498457417559964 : Unit := ()
def PySem.W.Fast.tw12086012435015014927 : Unit := ()
def PySem.W.Fast.tw10554961829705959143 : Unit := ()
def PySem.W.Fast.tw6026826160892924586 : Unit := ()
def PySem.W.Fast.tw16160659865965036013 : Unit := ()
open PySem PySem.W PyProof.Rows
set_option maxRecDepth 100000 in
set_option maxHeartbeats 0 in
theorem PySem.Challenge.cw_lotheads_k30_times_on_ups_holds : PySem.Challenge.rw_lotheads_k30_times_on_ups.Holds := by
  w_on; o_law; k_head; (case hw => w_witness2)
  k_fill
  refine Pu.walk (k := 9) (by decide) (l := PySem.Challenge.rw_lotheads_k30_times_on_ups) rfl rfl (fun w h Y => PySem.W.kIn_of Y) ?F
  case F =>
    intro w mg fa h KX G hmg
    refine' K30.all_mk KX G hmg ?a0 ?l0 ?c0 ?k0 ?a1 ?l1 ?c1 ?k1 ?a2 ?l2 ?c2 ?k2 ?a3 ?l3 ?c3 ?k3 ?a4 ?l4 ?c4 ?k4 ?a5 ?l5 ?c5 ?k5 ?a6 ?l6 ?c6 ?k6 ?a7 ?l7 ?c7 ?k7 ?a8 ?l8 ?c8 ?k8 ?a9 ?l9 ?c9 ?k9 ?a10 ?l10 ?c10 ?k10 ?a11 ?l11 ?c11 ?k11 ?a12 ?l12 ?c12 ?k12 ?a13 ?l13 ?c13 ?k13 ?a14 ?l14 ?c14 ?k14 ?a15 ?l15 ?c15 ?k15 ?a16 ?l16 ?c16 ?k16 ?a17 ?l17 ?c17 ?k17 ?a18 ?l18 ?c18 ?k18 ?a19 ?l19 ?c19 ?k19 ?a20 ?l20 ?c20 ?k20 ?a21 ?l21 ?c21 ?k21 ?a22 ?l22 ?c22 ?k22 ?a23 ?l23 ?c23 ?k23 ?a24 ?l24 ?c24 ?k24 ?a25 ?l25 ?c25 ?k25 ?a26 ?l26 ?c26 ?k26 ?a27 ?l27 ?c27 ?k27 ?a28 ?l28 ?c28 ?k28 ?a29 ?l29 ?c29 ?k29 ?a30 ?l30 ?c30 ?k30 ?a31 ?l31 ?c31 ?k31 ?a32 ?l32 ?c32 ?k32 ?a33 ?l33 ?c33 ?k33 ?a34 ?l34 ?c34 ?k34 ?a35 ?l35 ?c35 ?k35 ?a36 ?l36 ?c36 ?k36 ?a37 ?l37 ?c37 ?k37 ?a38 ?l38 ?c38 ?k38 ?a39 ?l39 ?c39 ?k39 ?z_abs ?z_all ?z_any ?z_bool ?z_enumerate ?z_int ?z_isinstance ?z_len ?z_list ?z_min ?z_range ?z_str ?z_tuple ?y_MOST_THINGS ?y_tab ?y_lay ?y_sys ?yk0 ?lk0
    (case a0 => k_is); (case l0 => k_is); (case c0 => k_is); (case k0 => k_is)
    (case a1 => k_is); (case l1 => k_is); (case c1 => k_is); (case k1 => k_is)
    (case a2 => k_is); (case l2 => k_is); (case c2 => k_is); (case k2 => k_is)
    (case a3 => k_is); (case l3 => k_is); (case c3 => k_is); (case k3 => k_is)
    (case a4 => k_is); (case l4 => k_is); (case c4 => k_is); (case k4 => k_is)
    (case a5 => k_is); (case l5 => k_is); (case c5 => k_is); (case k5 => k_is)
    (case a6 => k_is); (case l6 => k_is); (case c6 => k_is); (case k6 => k_is)
    (case a7 => k_is); (case l7 => k_is); (case c7 => k_is); (case k7 => k_is)
    (case a8 => k_is); (case l8 => k_is); (case c8 => k_is); (case k8 => k_is)
    (case a9 => k_is); (case l9 => k_is); (case c9 => k_is); (case k9 => k_is)
    (case a10 => k_is); (case l10 => k_is); (case c10 => k_is); (case k10 => k_is)
    (case a11 => k_is); (case l11 => k_is); (case c11 => k_is); (case k11 => k_is)
    (case a12 => k_is); (case l12 => k_is); (case c12 => k_is); (case k12 => k_is)
    (case a13 => k_is); (case l13 => k_is); (case c13 => k_is); (case k13 => k_is)
    (case a14 => k_is); (case l14 => k_is); (case c14 => k_is); (case k14 => k_is)
    (case a15 => k_is); (case l15 => k_is); (case c15 => k_is); (case k15 => k_is)
    (case a16 => k_is); (case l16 => k_is); (case c16 => k_is); (case k16 => k_is)
    (case a17 => k_is); (case l17 => k_is); (case c17 => k_is); (case k17 => k_is)
    (case a18 => k_is); (case l18 => k_is); (case c18 => k_is); (case k18 => k_is)
    (case a19 => k_is); (case l19 => k_is); (case c19 => k_is); (case k19 => k_is)
    (case a20 => k_is); (case l20 => k_is); (case c20 => k_is); (case k20 => k_is)
    (case a21 => k_is); (case l21 => k_is); (case c21 => k_is); (case k21 => k_is)
    (case a22 => k_is); (case l22 => k_is); (case c22 => k_is); (case k22 => k_is)
    (case a23 => k_is); (case l23 => k_is); (case c23 => k_is); (case k23 => k_is)
    (case a24 => k_is); (case l24 => k_is); (case c24 => k_is); (case k24 => k_is)
    (case a25 => k_is); (case l25 => k_is); (case c25 => k_is); (case k25 => k_is)
    (case a26 => k_is); (case l26 => k_is); (case c26 => k_is); (case k26 => k_is)
    (case a27 => k_is); (case l27 => k_is); (case c27 => k_is); (case k27 => k_is)
    (case a28 => k_is); (case l28 => k_is); (case c28 => k_is); (case k28 => k_is)
    (case a29 => k_is); (case l29 => k_is); (case c29 => k_is); (case k29 => k_is)
    (case a30 => k_is); (case l30 => k_is); (case c30 => k_is); (case k30 => k_is)
    (case a31 => k_is); (case l31 => k_is); (case c31 => k_is); (case k31 => k_is)
    (case a32 => k_is); (case l32 => k_is); (case c32 => k_is); (case k32 => k_is)
    (case a33 => k_is); (case l33 => k_is); (case c33 => k_is); (case k33 => k_is)
    (case a34 => k_is); (case l34 => k_is); (case c34 => k_is); (case k34 => k_is)
    (case a35 => k_is); (case l35 => k_is); (case c35 => k_is); (case k35 => k_is)
    (case a36 => k_is); (case l36 => k_is); (case c36 => k_is); (case k36 => k_is)
    (case a37 => k_is); (case l37 => k_is); (case c37 => k_is); (case k37 => k_is)
    (case a38 => k_is); (case l38 => k_is); (case c38 => k_is); (case k38 => k_is)
    (case a39 => k_is); (case l39 => k_is); (case c39 => k_is); (case k39 => k_is)
    (case z_abs => k_is)
    (case z_all => k_is)
    (case z_any => k_is)
    (case z_bool => k_is)
    (case z_enumerate => k_is)
    (case z_int => k_is)
    (case z_isinstance => k_is)
    (case z_len => k_is)
    (case z_list => k_is)
    (case z_min => k_is)
    (case z_range => k_is)
    (case z_str => k_is)
    (case z_tuple => k_is)
    (case y_MOST_THINGS => k_is)
    (case y_tab => k_is)
    (case y_lay => k_is)
    (case y_sys => rfl)
    (case yk0 => k_is)
    (case lk0 => k_is)

end
