import PyProof.Rows.All
import Wide.All
import OpenK.AllK
import Wide.FinOn
import Lean
import PyProof.EqAt
import PyProof.EqKinds
import PyProof.TupleCall
import PyProof.NeKinds
import KE.KSortTup
import PySem.Challenge.RW_lotheads_k02_ways_heads_and_lots
set_option Elab.async false
set_option linter.all false
set_option maxRecDepth 100000
namespace L2
open PySem PySem.Spec PyProof.Rows
noncomputable abbrev Key := Sum Int Str
noncomputable def keyIs : Key → Value → Bool
  | .inl k, v => Value.isInt k v
  | .inr x, v => Value.isStrOf x v
noncomputable def keyH (w : World) : Key → Int
  | .inl k => hashInt k
  | .inr x => hashStr w x
theorem keyIs_shape : ∀ {k : Key} {v : Value}, keyIs k v = true → (∃ i t, k = Sum.inl i ∧ v = Value.int i t) ∨ (∃ x t, k = Sum.inr x ∧ v = Value.str x t)
  | .inl i, v, h => by
    obtain ⟨t, e⟩ := Value.isInt_shape (k := i) (v := v) h
    exact .inl ⟨i, t, rfl, e⟩
  | .inr x, v, h => by
    obtain ⟨t, e⟩ := Value.isStrOf_shape (x := x) (v := v) h
    exact .inr ⟨x, t, rfl, e⟩
theorem keyIs_int (i : Int) (t : Tok) : keyIs (.inl i) (.int i t) = true := by simp [keyIs, Value.isInt]
theorem keyIs_str (x : Str) (t : Tok) : keyIs (.inr x) (.str x t) = true := by simp [keyIs, Value.isStrOf]
theorem key_ll (a b : Int) : decide ((Sum.inl a : Key) = Sum.inl b) = (a == b) := by
  by_cases e : a = b
  · subst e; simp
  · have h : ¬ (Sum.inl a : Key) = Sum.inl b := fun q => e (Sum.inl.inj q)
    rw [decide_eq_false h]
    exact (beq_eq_false_iff_ne.mpr e).symm
theorem key_rr (a b : Str) : decide ((Sum.inr a : Key) = Sum.inr b) = decide (a = b) := by
  by_cases e : a = b
  · subst e; simp
  · have h : ¬ (Sum.inr a : Key) = Sum.inr b := fun q => e (Sum.inr.inj q)
    rw [decide_eq_false h, decide_eq_false e]
theorem key_lr (a : Int) (b : Str) : decide ((Sum.inl a : Key) = Sum.inr b) = false := decide_eq_false (fun q => nomatch q)
theorem key_rl (a : Str) (b : Int) : decide ((Sum.inr a : Key) = Sum.inl b) = false := decide_eq_false (fun q => nomatch q)
noncomputable def mixKind (prog : Program) (w : World) : PySem.KeyKind prog w Key where
  is := keyIs
  hash := keyH w
  inj := fun v a b ha hb => by
    rcases keyIs_shape ha with ⟨i, t, rfl, rfl⟩ | ⟨x, t, rfl, rfl⟩
    · rcases keyIs_shape hb with ⟨j, u, rfl, e⟩ | ⟨y, u, rfl, e⟩
      · injection e with e1 _; rw [e1]
      · exact nomatch e
    · rcases keyIs_shape hb with ⟨j, u, rfl, e⟩ | ⟨y, u, rfl, e⟩
      · exact nomatch e
      · injection e with e1 _; rw [e1]
  byValue := fun k v h => by
    rcases keyIs_shape h with ⟨i, t, rfl, rfl⟩ | ⟨x, t, rfl, rfl⟩ <;> rfl
  pyHash := fun hv h => by
    rcases keyIs_shape hv with ⟨i, t, rfl, rfl⟩ | ⟨x, t, rfl, rfl⟩
    · exact wpAny_pyHash_int h
    · exact wpAny_pyHash_str h
  eqBool := fun hu hv h => by
    rcases keyIs_shape hu with ⟨i, t, rfl, rfl⟩ | ⟨x, t, rfl, rfl⟩
    · rcases keyIs_shape hv with ⟨j, u, rfl, rfl⟩ | ⟨y, u, rfl, rfl⟩
      · rw [key_ll] at h; exact wpAny_eqBool_int h
      · rw [key_lr] at h; exact SeqAt.EqAt.int_str i t y u _ _ _ _ h
    · rcases keyIs_shape hv with ⟨j, u, rfl, rfl⟩ | ⟨y, u, rfl, rfl⟩
      · rw [key_rl] at h; exact SeqAt.EqAt.str_int x t j u _ _ _ _ h
      · rw [key_rr] at h; exact wpAny_eqBool_str h
  «strs» := fun k x t v h => by
    rcases keyIs_shape h with ⟨i, u, rfl, e⟩ | ⟨y, u, rfl, e⟩
    · exact nomatch e
    · injection e with e1 _
      subst e1
      cases v <;> rfl
theorem mixKind_int (prog : Program) (w : World) (i : Int) (t : Tok) : (mixKind prog w).is (.inl i) (.int i t) = true := keyIs_int i t
theorem mixKind_str (prog : Program) (w : World) (x : Str) (t : Tok) : (mixKind prog w).is (.inr x) (.str x t) = true := keyIs_str x t
end L2
namespace L2
open PySem PySem.Spec PyProof.Rows
inductive V where
  | non | bl (b : Bool) | int (i : Int) | str (x : Str) | byt (b : Array UInt8) | flt (b : UInt64) | ref (a : Addr) | ty (n : String)
  deriving DecidableEq
noncomputable def RelV : V → Value → Prop
  | .non, u => u = Value.none
  | .bl b, u => u = Value.bool b
  | .int i, u => ∃ t, u = Value.int i t
  | .str x, u => ∃ t, u = Value.str x t
  | .byt b, u => ∃ t, u = Value.bytes b t
  | .flt b, u => ∃ t, u = Value.float b t
  | .ref a, u => u = Value.ref a
  | .ty n, u => u = Value.type n
noncomputable abbrev Vals : List V → List Value → Prop := Paired RelV
theorem Vals.length {xs : List V} {us : List Value} (r : Vals xs us) : xs.length = us.length := Paired.length r
theorem Vals.get : ∀ {xs : List V} {us : List Value} {i : Nat} {x : V}, Vals xs us → xs[i]? = some x → ∃ u, us[i]? = some u ∧ RelV x u
  | _, _, _, _, .nil, e => by simp at e
  | _, _, 0, _, .cons r _, e => by simp at e; subst e; exact ⟨_, rfl, r⟩
  | _, _, i + 1, x, .cons _ t, e => by
    obtain ⟨u, h1, h2⟩ := Vals.get (i := i) (x := x) t (by simpa using e)
    exact ⟨u, by simpa using h1, h2⟩
theorem Vals.set {x : V} {u : Value} (r : RelV x u) : ∀ {xs : List V} {us : List Value} (i : Nat), Vals xs us → Vals (xs.set i x) (us.set i u)
  | _, _, _, .nil => .nil
  | _, _, 0, .cons _ t => .cons r t
  | _, _, i + 1, .cons q t => .cons q (Vals.set r i t)
theorem Vals.append : ∀ {xs ys : List V} {us ws : List Value}, Vals xs us → Vals ys ws → Vals (xs ++ ys) (us ++ ws)
  | _, _, _, _, .nil, s => s
  | _, _, _, _, .cons r t, s => .cons r (Vals.append t s)
theorem Vals.take : ∀ {xs : List V} {us : List Value} (n : Nat), Vals xs us → Vals (xs.take n) (us.take n)
  | _, _, 0, _ => .nil
  | _, _, _ + 1, .nil => .nil
  | _, _, n + 1, .cons r t => .cons r (Vals.take n t)
theorem Vals.drop : ∀ {xs : List V} {us : List Value} (n : Nat), Vals xs us → Vals (xs.drop n) (us.drop n)
  | _, _, 0, r => r
  | _, _, _ + 1, .nil => .nil
  | _, _, n + 1, .cons _ t => Vals.drop n t
noncomputable def RelO : Option V → Option Value → Prop
  | some v, some u => RelV v u
  | none, none => True
  | _, _ => False
noncomputable def KV {κ : Type} : List (κ × V) → List (κ × Value) → Prop := Paired fun (p : κ × V) (q : κ × Value) => p.1 = q.1 ∧ RelV p.2 q.2
noncomputable def kV : Key → V
  | .inl i => .int i
  | .inr x => .str x
inductive HO where
  
  | lst (xs : List V)
  
  | tup (xs : List V)
  
  | dK (kvs : List (Key × V)) | dT (kvs : List (List Key × V))
  
  | set (S : Int → Bool) (n : Nat)
  
  | ins (C dx : Addr) (fs : List (Str × V))
  
  | own (x : Addr)
  
  | xd (fs : List (Str × V))
  
  | met (f x : Addr)
  
  | rng (lo hi : Int)
  
  | frz (o : Obj) (u : HO)
  
  | tbl (ps : Array Value)
  
  | ext (φ : Heap → Prop)
noncomputable abbrev Hp := Addr → Option HO
noncomputable def upd (H : Hp) (a : Addr) (o : HO) : Hp := fun b => if b = a then some o else H b
theorem upd_same {H : Hp} {a : Addr} {o : HO} : upd H a o a = some o := by unfold upd; rw [if_pos rfl]
theorem upd_ne {H : Hp} {a b : Addr} {o : HO} (h : b ≠ a) : upd H a o b = H b := by unfold upd; rw [if_neg h]
theorem ne_of_none {H : Hp} {a b : Addr} {o : HO} (h : H a = some o) (h' : H b = none) : a ≠ b := by
  intro e; subst e; rw [h] at h'; cases h'
section
variable (P : Program) (w : World)
noncomputable def ObjOk (H : Hp) (h : Heap) (a : Addr) : HO → Prop
  | .lst xs => xs.length ≤ sizeLine ∧ ∃ (its : List Value) (n : Nat), Vals xs its ∧ h.get? a = some { cls := .type "list", data := .seq its.toArray n }
  | .tup xs => xs.length ≤ sizeLine ∧ ∃ its : List Value, Vals xs its ∧ IsTup h a its.toArray
  | .dK kvs => kvs.length ≤ sizeLine ∧ (a == sysModules) = false ∧ ∃ vs, KV kvs vs ∧ h.DictOf (mixKind P w) a vs
  | .dT kvs => kvs.length ≤ sizeLine ∧ (a == sysModules) = false ∧ ∃ xs : List (List Key × Addr × Value),
      Paired (fun (p : List Key × V) (q : List Key × Addr × Value) => p.1 = q.1 ∧ H q.2.1 = some (.tup (p.1.map kV)) ∧ RelV p.2 q.2.2) kvs xs ∧
      ∃ o es ep, h.get? a = some o ∧ o.ExactDict ∧ o.data = .dict es ep ∧ es.toList = xs.map (entryOfKey (tupleKind (mixKind P w))) ∧ (xs.map (·.1)).Nodup
  | .set S n => h.SetOf (intKind P w) a S n
  | .ins C dx fs => H dx = some (.own a) ∧ fs.length ≤ 1000 ∧ dx ≠ a ∧ h.get? a = some (PySem.W.instObj C dx) ∧
      ∃ mA, h.Ns1 dx mA ∧ (∀ f, RelO (fs.lookup f) (mA f)) ∧ PySem.Within mA (fs.map (·.1))
  | .own _ => ∃ o, h.get? a = some o
  | .xd fs => ∃ mA, h.Ns1 a mA ∧ ∀ f, RelO (fs.lookup f) (mA f)
  | .rng lo hi => ∃ t u v, h.get? a = some { cls := .type "range", data := .fields #[.int lo t, .int hi u, .int 1 v] }
  | .frz o u => h.get? a = some o ∧ ObjOk H h a u
  | .tbl ps => h.get? a = some { cls := .none, data := .fields ps }
  | .met f x => h.get? a = some (PySem.W.methodObj (.ref f) (.ref x))
  | .ext φ => φ h ∧ (∃ o, h.get? a = some o) ∧ ∀ h1 h2 : Heap, φ h1 → (∀ o, h1.get? a = some o → h2.get? a = some o) → φ h2
noncomputable def HOk (H : Hp) (h : Heap) : Prop := ∀ a o, H a = some o → ObjOk P w H h a o
end
section
variable {P : Program} {w : World} {H H' : Hp} {h h' : Heap} {a : Addr} {o : HO}
theorem ObjOk.lt (x : ObjOk P w H h a o) : a < h.objs.size := by
  cases o with
  | lst xs => obtain ⟨_, _, _, _, e⟩ := x; exact Heap.lt_size e
  | tup xs => obtain ⟨_, _, _, p⟩ := x; exact p.lt
  | dK kvs => obtain ⟨_, _, _, _, o, _, _, e, _⟩ := x; exact Heap.lt_size e
  | dT kvs => obtain ⟨_, _, _, _, o, _, _, e, _⟩ := x; exact Heap.lt_size e
  | set S n => obtain ⟨o, _, _, _, e, _⟩ := x; exact Heap.lt_size e
  | ins C dx fs => obtain ⟨_, _, _, e, _⟩ := x; exact Heap.lt_size e
  | own y => obtain ⟨_, e⟩ := x; exact Heap.lt_size e
  | xd fs => obtain ⟨_, ⟨_, _, _, e, _⟩, _⟩ := x; exact Heap.lt_size e
  | rng lo hi => obtain ⟨_, _, _, e⟩ := x; exact Heap.lt_size e
  | frz ob u => obtain ⟨e, _⟩ := x; exact Heap.lt_size e
  | tbl ps => exact Heap.lt_size (show h.get? a = some _ from x)
  | met f y => exact Heap.lt_size (show h.get? a = some _ from x)
  | ext φ => obtain ⟨_, ⟨_, e⟩, _⟩ := x; exact Heap.lt_size e
theorem Paired.mapP {α β : Type} {F G : α → β → Prop} : ∀ {l₁ : List α} {l₂ : List β}, Paired F l₁ l₂ → (∀ a b, F a b → G a b) → Paired G l₁ l₂
  | _, _, .nil, _ => .nil
  | _, _, .cons r t, f => .cons (f _ _ r) (Paired.mapP t f)
theorem ObjOk.stay (x : ObjOk P w H h a o) (k : ∀ b u, (b = a ∨ H b = some (.own a)) → h.get? b = some u → h'.get? b = some u)
    (ho : ∀ b, H b = some (.own a) → H' b = some (.own a)) (ht : ∀ b xs, H b = some (.tup xs) → H' b = some (.tup xs)) : ObjOk P w H' h' a o := by
  induction o with
  | lst xs => obtain ⟨z, its, n, r, e⟩ := x; exact ⟨z, its, n, r, k _ _ (.inl rfl) e⟩
  | tup xs => obtain ⟨z, its, r, ob, e, c⟩ := x; exact ⟨z, its, r, ob, k _ _ (.inl rfl) e, c⟩
  | dK kvs => obtain ⟨z, y, vs, r, ob, es, ep, e, c⟩ := x; exact ⟨z, y, vs, r, ob, es, ep, k _ _ (.inl rfl) e, c⟩
  | dT kvs =>
    obtain ⟨z, y, xs, r, ob, es, ep, e, c⟩ := x
    exact ⟨z, y, xs, Paired.mapP r fun p q z => ⟨z.1, ht _ _ z.2.1, z.2.2⟩, ob, es, ep, k _ _ (.inl rfl) e, c⟩
  | set S n => obtain ⟨ob, es, ep, t, e, c⟩ := x; exact ⟨ob, es, ep, t, k _ _ (.inl rfl) e, c⟩
  | ins C dx fs =>
    obtain ⟨d, z, ne, e, mA, ⟨od, es, ep, e2, c⟩, r⟩ := x
    exact ⟨ho _ d, z, ne, k _ _ (.inl rfl) e, mA, ⟨od, es, ep, k _ _ (.inr d) e2, c⟩, r⟩
  | own y => obtain ⟨ob, e⟩ := x; exact ⟨ob, k _ _ (.inl rfl) e⟩
  | xd fs => obtain ⟨mA, ⟨od, es, ep, e, c⟩, r⟩ := x; exact ⟨mA, ⟨od, es, ep, k _ _ (.inl rfl) e, c⟩, r⟩
  | rng lo hi => obtain ⟨t, u, v, e⟩ := x; exact ⟨t, u, v, k _ _ (.inl rfl) e⟩
  | frz ob u ih => obtain ⟨e, q⟩ := x; exact ⟨k _ _ (.inl rfl) e, ih q⟩
  | tbl ps =>
    have e : h.get? a = some { cls := .none, data := .fields ps } := x
    show h'.get? a = some { cls := .none, data := .fields ps }
    exact k a _ (.inl rfl) e
  | met f y =>
    have e : h.get? a = some (PySem.W.methodObj (.ref f) (.ref y)) := x
    show h'.get? a = some (PySem.W.methodObj (.ref f) (.ref y))
    exact k a _ (.inl rfl) e
  | ext φ => obtain ⟨p, ⟨o, e⟩, st⟩ := x; exact ⟨st _ _ p fun o q => k _ _ (.inl rfl) q, ⟨o, k _ _ (.inl rfl) e⟩, st⟩
theorem HOk.lt (x : HOk P w H h) (e : H a = some o) : a < h.objs.size := (x a o e).lt
theorem HOk.fresh (x : HOk P w H h) (e : h.objs.size ≤ a) : H a = none := by
  cases q : H a with
  | none => rfl
  | some u => exact absurd (Nat.lt_of_lt_of_le (x.lt q) e) (Nat.lt_irrefl _)
theorem HOk.kept (x : HOk P w H h) (k : ∀ b u, h.get? b = some u → h'.get? b = some u) : HOk P w H h' := fun a o e =>
  (x a o e).stay (fun b u _ q => k b u q) (fun _ q => q) fun _ _ q => q
theorem HOk.laid (x : HOk P w H h) (k : ∀ b u, h.get? b = some u → h'.get? b = some u) (hp : h.objs.size ≤ a) (new : ObjOk P w (upd H a o) h' a o) : HOk P w (upd H a o) h' := fun b u e => by
  have hn := x.fresh hp
  by_cases hb : b = a
  · subst hb; rw [upd_same] at e; cases e; exact new
  · rw [upd_ne hb] at e
    exact (x b u e).stay (fun c v _ q => k c v q) (fun c q => by rw [upd_ne (ne_of_none q hn)]; exact q) fun c xs q => by rw [upd_ne (ne_of_none q hn)]; exact q
end
noncomputable def Rd (H : Hp) (a : Addr) (u : HO) : Prop := H a = some u ∨ ∃ o, H a = some (.frz o u)
theorem Rd.of {H : Hp} {a : Addr} {u : HO} (h : H a = some u) : Rd H a u := .inl h
theorem Rd.ok {P : Program} {w : World} {H : Hp} {h : Heap} {a : Addr} {u : HO} (r : Rd H a u) (x : HOk P w H h) : ObjOk P w H h a u := by
  rcases r with r | ⟨o, r⟩
  · exact x a u r
  · obtain ⟨_, q⟩ := x a _ r
    exact q
noncomputable def Mut : Option HO → Prop
  | some (.lst _) => True
  | some (.dK _) => True
  | some (.dT _) => True
  | some (.set _ _) => True
  | some (.ins _ _ _) => True
  | some (.ext _) => True
  | _ => False
section
variable {P : Program} {w : World} {H : Hp} {h h' : Heap} {x e : Addr} {o' : HO}
theorem HOk.write (ok : HOk P w H h) (mu : Mut (H x)) (he : e = x ∨ H e = some (.own x)) (k : ∀ b u, b ≠ e → h.get? b = some u → h'.get? b = some u) (heo : ∃ u, h'.get? e = some u)
    (new : ObjOk P w (upd H x o') h' x o') : HOk P w (upd H x o') h' := fun b u q => by
  have nown : ∀ c y, H c = some (.own y) → c ≠ x := fun c y r z => by subst z; rw [r] at mu; exact mu
  have ntup : ∀ c xs, H c = some (.tup xs) → c ≠ x := fun c xs r z => by subst z; rw [r] at mu; exact mu
  by_cases hb : b = x
  · subst hb; rw [upd_same] at q; cases q; exact new
  · rw [upd_ne hb] at q
    by_cases hbe : b = e
    · have q' : H b = some (.own x) := by
        rcases he with z | z
        · exact absurd (hbe.trans z) hb
        · rw [hbe]; exact z
      rw [q] at q'; cases q'
      obtain ⟨v, hv⟩ := heo
      exact ⟨v, by rw [hbe]; exact hv⟩
    · refine (ok b u q).stay (fun c v hc r => k c v ?_ r) (fun c r => by rw [upd_ne (nown c b r)]; exact r) fun c xs r => by rw [upd_ne (ntup c xs r)]; exact r
      rcases hc with rfl | hc
      · exact hbe
      · rintro rfl
        rcases he with z | z
        · exact nown c b hc z
        · rw [hc] at z; cases z; exact hb rfl
end
structure Un (fs ex : List Addr) (H H' : Hp) (h h' : Heap) : Prop where
  keep : ∀ b o, h.get? b = some o → H b = none → b ∉ fs → b ∉ ex → h'.get? b = some o
  slot : ∀ b o, h.get? b = some o → H b = none → b ∈ fs → b ∉ ex → ∃ sl, h'.get? b = some { o with slots := sl }
  free : ∀ b o, h.get? b = some o → H b = none → b ∉ ex → H' b = none
  there : ∀ b o, h.get? b = some o → b ∉ ex → ∃ o', h'.get? b = some o'
  tups : ∀ b xs, H b = some (.tup xs) → H' b = some (.tup xs)
  frzs : ∀ b o u, H b = some (.frz o u) → H' b = some (.frz o u)
  tbls : ∀ b ps, H b = some (.tbl ps) → ∃ more, H' b = some (.tbl (ps ++ more))
section
variable {fs fs' ex ex' : List Addr} {H H1 H2 : Hp} {h h1 h2 h' : Heap} {a x e : Addr} {o : HO}
theorem Un.any (u : Un fs ex H H1 h h1) {b : Addr} {ob : Obj} (q : h.get? b = some ob) (n : H b = none) (hx : b ∉ ex) : ∃ sl, h1.get? b = some { ob with slots := sl } := by
  by_cases hb : b ∈ fs
  · exact u.slot b ob q n hb hx
  · exact ⟨ob.slots, u.keep b ob q n hb hx⟩
theorem Un.trans (a : Un fs ex H H1 h h1) (b : Un fs ex H1 H2 h1 h2) : Un fs ex H H2 h h2 where
  keep := fun c ob q n hc hx => b.keep c ob (a.keep c ob q n hc hx) (a.free c ob q n hx) hc hx
  slot := fun c ob q n hc hx => by
    obtain ⟨sl, e1⟩ := a.slot c ob q n hc hx
    obtain ⟨sl', e2⟩ := b.slot c _ e1 (a.free c ob q n hx) hc hx
    exact ⟨sl', e2⟩
  free := fun c ob q n hx => by
    obtain ⟨o', e1⟩ := a.there c ob q hx
    exact b.free c o' e1 (a.free c ob q n hx) hx
  there := fun c ob q hx => by
    obtain ⟨o', e1⟩ := a.there c ob q hx
    exact b.there c o' e1 hx
  tups := fun c xs q => b.tups c xs (a.tups c xs q)
  frzs := fun c ob xs q => b.frzs c ob xs (a.frzs c ob xs q)
  tbls := fun c ps q => by
    obtain ⟨m1, e1⟩ := a.tbls c ps q
    obtain ⟨m2, e2⟩ := b.tbls c _ e1
    exact ⟨m1 ++ m2, by rw [e2, Array.append_assoc]⟩
theorem Un.kept (k : ∀ b u, h.get? b = some u → h'.get? b = some u) : Un fs ex H H h h' :=
  ⟨fun b ob q _ _ _ => k b ob q, fun b ob q _ _ _ => ⟨ob.slots, k b ob q⟩, fun _ _ _ n _ => n, fun b ob q _ => ⟨ob, k b ob q⟩, fun _ _ q => q, fun _ _ _ q => q, fun _ ps q => ⟨#[], by rw [q]; simp⟩⟩
theorem Un.refl : Un fs ex H H h h := Un.kept fun _ _ q => q
theorem Un.laid (k : ∀ b u, h.get? b = some u → h'.get? b = some u) (hp : h.objs.size ≤ a) (hn : H a = none) : Un fs ex H (upd H a o) h h' where
  keep := fun b u q _ _ _ => k b u q
  slot := fun b u q _ _ _ => ⟨u.slots, k b u q⟩
  free := fun b u q n _ => by rw [upd_ne (Nat.ne_of_lt (Nat.lt_of_lt_of_le (Heap.lt_size q) hp))]; exact n
  there := fun b u q _ => ⟨u, k b u q⟩
  tups := fun b xs q => by rw [upd_ne (ne_of_none q hn)]; exact q
  frzs := fun b u xs q => by rw [upd_ne (ne_of_none q hn)]; exact q
  tbls := fun b ps q => ⟨#[], by rw [upd_ne (ne_of_none q hn), q]; simp⟩
theorem Un.write (mu : Mut (H x)) (he : e = x ∨ H e = some (.own x)) (k : ∀ b u, b ≠ e → h.get? b = some u → h'.get? b = some u) (heo : ∃ u, h'.get? e = some u) : Un fs ex H (upd H x o) h h' := by
  have hx : ∀ b, H b = none → b ≠ x := fun b n z => by subst z; rw [n] at mu; exact mu
  have hb : ∀ b, H b = none → b ≠ e := fun b n z => by
    subst z
    rcases he with r | r
    · exact hx b n r
    · rw [n] at r; cases r
  have hm : ∀ b u, H b = some u → ¬ Mut (some u) → b ≠ x := fun b u q nm z => by subst z; rw [q] at mu; exact nm mu
  refine ⟨fun b u q n _ _ => k b u (hb b n) q, fun b u q n _ _ => ⟨u.slots, k b u (hb b n) q⟩, fun b u q n _ => by rw [upd_ne (hx b n)]; exact n, fun b u q _ => ?_,
    fun b xs q => by rw [upd_ne (hm b _ q fun z => z)]; exact q, fun b u xs q => by rw [upd_ne (hm b _ q fun z => z)]; exact q, fun b ps q => ⟨#[], by rw [upd_ne (hm b _ q fun z => z), q]; simp⟩⟩
  by_cases hbe : b = e
  · subst hbe; exact heo
  · exact ⟨u, k b u hbe q⟩
theorem Un.mono (u : Un fs ex H H1 h h1) (hs : ∀ b ∈ fs, b ∈ fs') (hx : ∀ b ∈ ex, b ∈ ex') : Un fs' ex' H H1 h h1 :=
  ⟨fun b ob q n hb he => u.keep b ob q n (fun z => hb (hs b z)) fun z => he (hx b z), fun _ _ q n _ he => u.any q n fun z => he (hx _ z), fun b ob q n he => u.free b ob q n fun z => he (hx b z), fun b ob q he => u.there b ob q fun z => he (hx b z), u.tups, u.frzs, u.tbls⟩
end
noncomputable def trk (h : Heap) (H : Hp) : List Addr := (List.range h.objs.size).filter fun a => (H a).isSome
noncomputable def hidT (h : Heap) (H : Hp) : Heap := PySem.W.hideAll h (trk h H)
theorem hidT_size (h : Heap) (H : Hp) : (hidT h H).objs.size = h.objs.size := PySem.W.hideAll_size _ _
theorem hidT_get {h : Heap} {H : Hp} {b : Addr} {o : Obj} (e : h.get? b = some o) (n : H b = none) : (hidT h H).get? b = some o :=
  PySem.W.hideAll_get _ e fun hm => by
    have q : (H b).isSome = true := (List.mem_filter.mp hm).2
    rw [n] at q; simp at q
theorem of_hidT {h : Heap} {H : Hp} {b : Addr} {o : Obj} (e : (hidT h H).get? b = some o) : h.get? b = some o ∧ H b = none := by
  have e' : h.get? b = some o := PySem.W.of_hideAll (trk h H) e
  refine ⟨e', ?_⟩
  cases q : H b with
  | none => rfl
  | some x =>
    have hm : b ∈ trk h H := List.mem_filter.mpr ⟨List.mem_range.mpr (Heap.lt_size e'), by simp [q]⟩
    have z : (hidT h H).get? b = none := PySem.W.hideAll_none (trk h H) hm
    rw [z] at e; cases e
noncomputable def allNews (g h : Heap) (L : Addr) : List (Addr × Obj) := (List.range h.objs.size).filterMap fun a => if a = L ∨ (g.get? a).isSome = true then none else (h.get? a).map fun o => (a, o)
theorem mem_allNews {g h : Heap} {L a : Addr} {o : Obj} (h1 : a ≠ L) (h2 : g.get? a = none) (h3 : h.get? a = some o) : (a, o) ∈ allNews g h L :=
  List.mem_filterMap.mpr ⟨a, List.mem_range.mpr (Heap.lt_size h3), by simp [h1, h2, h3]⟩
theorem of_mem_allNews {g h : Heap} {L : Addr} {p : Addr × Obj} (hp : p ∈ allNews g h L) : p.1 ≠ L ∧ g.get? p.1 = none ∧ h.get? p.1 = some p.2 := by
  obtain ⟨b, _, e⟩ := List.mem_filterMap.mp hp
  split at e
  · cases e
  · rename_i hn
    cases q : h.get? b with
    | none => rw [q] at e; simp at e
    | some u =>
      rw [q] at e
      simp only [Option.map_some, Option.some.injEq] at e
      subst e
      refine ⟨fun z => hn (.inl z), ?_, q⟩
      show g.get? b = none
      cases r : g.get? b with
      | none => rfl
      | some v => exact (hn (.inr (by simp [r]))).elim
noncomputable def rest (g h : Heap) (L d : Addr) : List (Addr × Obj) := (allNews g h L).filter fun p => decide (p.1 ≠ d)
theorem news_all {g h : Heap} {L : Addr} : News g L h (allNews g h L) := fun p hp => let ⟨a, b, c⟩ := of_mem_allNews hp; ⟨c, a, b⟩
end L2
namespace L2
open PySem PySem.Spec PyProof.Rows
structure Mod (K : PySem.W.Frag) (mg : Str → Option Value) (base : Heap) : Prop where
  kin : K.In base
  glob : base.Ns mainGlobals mg
  blt : ∃ mb, base.Ns builtinsNs mb ∧ ∀ x : Str, x ≠ "__name__" → mb x = bootBuiltins x
  nolimit : base.NoLimit
structure Cx where
  prog : Program
  w : World
  K : PySem.W.Frag
  mg : Str → Option Value
  base : Heap
  A : Around
  N : List Str
  s₀ : Shared
  H₀ : Hp
  env : Env
  outer : List Env
  stack : List Env
  ex : List Addr
  fn : Str → Bool
  calm : Bool
  pn : List (Addr × Obj)
  xe : Value → Shared → Prop
noncomputable def frs (l : List Env) : List Addr := l.filterMap (·.frame)
noncomputable abbrev Cx.fs (X : Cx) : List Addr := frs X.outer
noncomputable def Vis (sc : Scope) (x : Str) : Prop := sc.names.lookup x = some .local ∨ sc.names.lookup x = some .cell ∨ sc.names.lookup x = some .free
noncomputable def Loc (sc : Scope) (x : Str) : Prop := sc.names.lookup x = some .local ∨ sc.names.lookup x = some .cell
noncomputable def Look (env : Env) (h : Heap) (m : Str → Option Value) (x : Str) (u : Value) : Prop :=
  (env.kindOf x = some .local ∧ m x = some u) ∨ ((env.kindOf x = some .cell ∨ env.kindOf x = some .free) ∧ ∃ c, env.cells.lookup x = some c ∧ h.IsCell c (some u))
structure Cx.Ok (X : Cx) : Prop where
  mod : Mod X.K X.mg X.base
  kind : X.env.scope.kind = .function
  glob : X.env.globals = mainGlobals
  blt : X.env.builtins = builtinsNs
  above : X.s₀.heap.objs.size ≤ X.env.locals
  inj : ∀ x y c, X.env.cells.lookup x = some c → X.env.cells.lookup y = some c → x = y
  has : ∀ x, (X.env.kindOf x = some .cell ∨ X.env.kindOf x = some .free) → ∃ c, X.env.cells.lookup x = some c
  cab : ∀ x c, X.fn x = true → X.env.cells.lookup x = some c → X.s₀.heap.objs.size ≤ c
  hd : X.calm = true → X.A.handled = none
  frames : X.A.frames = some X.stack
  stk : X.stack = X.outer ∨ (X.stack = X.env :: X.outer ∧ X.env.frame = some X.env.locals)
  exf : ∀ b ∈ X.ex, b ≠ X.env.locals ∧ ∀ x c, X.env.cells.lookup x = some c → c ≠ b
  bs : ∀ b o, X.base.get? b = some o → X.s₀.heap.get? b = some o ∧ X.H₀ b = none
  bsz : X.base.objs.size ≤ X.s₀.heap.objs.size
  noex : ∀ b o, X.base.get? b = some o → b ∉ X.ex
  exfs : ∀ b ∈ X.ex, b ∉ X.fs
  funs : X.s₀.heap.FunFrames X.base X.outer
  frf : ∀ b ∈ X.fs, X.H₀ b = none
structure Inv (X : Cx) (pins : List (Addr × Obj)) (σ : List (Option V)) (H : Hp) (s : Shared) : Prop where
  ok : X.Ok
  os : s.os = X.s₀.os
  bare : AllBare s.gens
  base : Un X.fs X.ex X.H₀ H X.s₀.heap s.heap
  loc : ∃ m, s.heap.Ns X.env.locals m ∧ ∀ (i : Nat) (x : Str) (v : V), X.N[i]? = some x → σ[i]? = some (some v) → Vis X.env.scope x → ∃ u, RelV v u ∧ Look X.env s.heap m x u
  cell : ∀ x c, X.env.cells.lookup x = some c → ∃ v, s.heap.IsCell c v
  free : H X.env.locals = none
  freeC : ∀ x c, X.env.cells.lookup x = some c → H c = none
  pin : ∀ p ∈ X.pn ++ pins, s.heap.get? p.1 = some p.2 ∧ H p.1 = none ∧ p.1 ≠ X.env.locals ∧ p.1 ∉ X.fs ∧ ∀ v, p.2.data ≠ .cell v
  hok : HOk X.prog X.w H s.heap
  len : σ.length = X.N.length
section
variable {X : Cx} {pins : List (Addr × Obj)} {σ : List (Option V)} {H H' : Hp} {s : Shared} {h' : Heap}
theorem Cx.Ok.nofr (ok : X.Ok) {b : Addr} {o : Obj} (e : X.base.get? b = some o) : b ∉ X.fs := fun hb => by
  have := (ok.funs.mem hb).1
  rw [e] at this; cases this
theorem Inv.bs (I : Inv X pins σ H s) : ∀ b o, X.base.get? b = some o → s.heap.get? b = some o ∧ H b = none := fun b o e =>
  ⟨I.base.keep b o (I.ok.bs b o e).1 (I.ok.bs b o e).2 (I.ok.nofr e) (I.ok.noex b o e), I.base.free b o (I.ok.bs b o e).1 (I.ok.bs b o e).2 (I.ok.noex b o e)⟩
theorem Inv.bk (I : Inv X pins σ H s) : ∀ b o, X.base.get? b = some o → s.heap.get? b = some o := fun b o e => (I.bs b o e).1
theorem Inv.mod (I : Inv X pins σ H s) : Mod X.K X.mg X.base := I.ok.mod
theorem Inv.kIn (I : Inv X pins σ H s) : X.K.In s.heap := I.ok.mod.kin.keeps I.bk
theorem Inv.nolimit (I : Inv X pins σ H s) : s.heap.NoLimit := I.ok.mod.nolimit.keeps I.bk
theorem Inv.fr (I : Inv X pins σ H s) : ∃ m, Fr X.base X.env.locals s.heap m :=
  let ⟨m, hn, _⟩ := I.loc
  ⟨m, hn, I.bk, Nat.le_trans I.ok.bsz I.ok.above⟩
theorem Inv.lt (I : Inv X pins σ H s) : X.env.locals < s.heap.objs.size := let ⟨_, hn, _⟩ := I.loc; hn.lt
theorem Inv.sz (I : Inv X pins σ H s) : X.s₀.heap.objs.size ≤ s.heap.objs.size := Nat.le_trans I.ok.above (Nat.le_of_lt I.lt)
theorem Inv.nofs (I : Inv X pins σ H s) {a : Addr} (h : s.heap.objs.size ≤ a) : a ∉ X.fs := fun hb => by
  obtain ⟨_, o, ho, _⟩ := I.ok.funs.mem hb
  exact absurd (Nat.lt_of_lt_of_le (Heap.lt_size ho) (Nat.le_trans I.sz h)) (Nat.lt_irrefl _)
theorem Inv.cne (I : Inv X pins σ H s) : ∀ x c, X.env.cells.lookup x = some c → c ≠ X.env.locals := fun x c e z => by
  obtain ⟨v, o, ho, hd⟩ := I.cell x c e
  obtain ⟨m, ⟨o', es, ep, ho', hd', _⟩, _⟩ := I.loc
  rw [z, ho'] at ho; cases ho; rw [hd'] at hd; cases hd
theorem Inv.funs (I : Inv X pins σ H s) : s.heap.FunFrames X.base X.outer := by
  have all : ∀ (l : List Env), (∀ b ∈ frs l, b ∈ X.fs) → X.s₀.heap.FunFrames X.base l → s.heap.FunFrames X.base l := by
    intro l
    induction l with
    | nil => intro _ _; trivial
    | cons env r ih =>
      intro hs hl
      obtain ⟨hk, ⟨L, o, hf, hn, ho, hd⟩, hr⟩ := hl
      have hL : L ∈ X.fs := hs L (by unfold frs; rw [List.filterMap_cons, hf]; exact List.mem_cons_self)
      obtain ⟨sl, e⟩ := I.base.slot L o ho (I.ok.frf L hL) hL fun z => I.ok.exfs L z hL
      exact ⟨hk, ⟨L, _, hf, hn, e, hd⟩, ih (fun b hb => hs b (by unfold frs; rw [List.filterMap_cons, hf]; exact List.mem_cons_of_mem _ hb)) hr⟩
  exact all X.outer (fun _ hb => hb) I.ok.funs
theorem Inv.stack (I : Inv X pins σ H s) : s.heap.FunFrames X.base X.stack := by
  rcases I.ok.stk with e | ⟨e, hf⟩
  · rw [e]; exact I.funs
  · rw [e]
    obtain ⟨m, hn, _⟩ := I.loc
    refine .cons (by rw [I.ok.kind]; decide) hf hn ?_ I.funs
    exact Heap.get?_none_of_le (Nat.le_trans I.ok.bsz I.ok.above)
theorem Inv.stkSub (I : Inv X pins σ H s) : ∀ b ∈ frs X.stack, b ∈ X.env.locals :: X.fs := fun b hb => by
  rcases I.ok.stk with e | ⟨e, hf⟩
  · rw [e] at hb; exact List.mem_cons_of_mem _ hb
  · rw [e] at hb
    unfold frs at hb
    rw [List.filterMap_cons, hf] at hb
    exact hb
theorem Inv.stkFree (I : Inv X pins σ H s) : ∀ b ∈ frs X.stack, H b = none := fun b hb => by
  rcases List.mem_cons.mp (I.stkSub b hb) with e | hb
  · rw [e]; exact I.free
  · obtain ⟨_, o, ho, _⟩ := I.ok.funs.mem hb
    exact I.base.free b o ho (I.ok.frf b hb) fun z => I.ok.exfs b z hb
theorem Inv.step {g' : Array GenState} {t' : Nat} {d' : Drawn} {ch : List Addr} (I : Inv X pins σ H s)
    (hch : ∀ b ∈ ch, (b ∈ X.ex ∨ X.s₀.heap.objs.size ≤ b) ∧ b ≠ X.env.locals ∧ (∀ x c, X.env.cells.lookup x = some c → c ≠ b) ∧ ∀ p ∈ X.pn ++ pins, p.1 ≠ b)
    (keep : ∀ b o, b ≠ X.env.locals → b ∉ X.fs → b ∉ ch → s.heap.get? b = some o → H b = none → h'.get? b = some o)
    (slot : ∀ b o, b ≠ X.env.locals → b ∈ X.fs → b ∉ ch → s.heap.get? b = some o → H b = none → ∃ sl, h'.get? b = some { o with slots := sl }) (free : ∀ b o, b ∉ ch → s.heap.get? b = some o → H b = none → H' b = none)
    (there : ∀ b o, b ∉ ch → s.heap.get? b = some o → ∃ o', h'.get? b = some o')
    (tups : ∀ b xs, H b = some (.tup xs) → H' b = some (.tup xs)) (frzs : ∀ b o u, H b = some (.frz o u) → H' b = some (.frz o u)) (tbls : ∀ b ps, H b = some (.tbl ps) → ∃ more, H' b = some (.tbl (ps ++ more)))
    (ns : ∀ m, s.heap.Ns X.env.locals m → h'.Ns X.env.locals m) (hok : HOk X.prog X.w H' h') (hg : AllBare g') :
    Inv X pins σ H' { s with heap := h', gens := g', drawn := d', toks := t' } := by
  have neL : ∀ b o, X.s₀.heap.get? b = some o → b ≠ X.env.locals := fun b o e => Nat.ne_of_lt (Nat.lt_of_lt_of_le (Heap.lt_size e) I.ok.above)
  have neC : ∀ b o, X.s₀.heap.get? b = some o → b ∉ X.ex → b ∉ ch := fun b o e hx hb => by
    rcases (hch b hb).1 with z | z
    · exact hx z
    · exact absurd (Nat.lt_of_lt_of_le (Heap.lt_size e) z) (Nat.lt_irrefl _)
  have cellK : ∀ x c, X.env.cells.lookup x = some c → ∀ v, s.heap.IsCell c v → h'.IsCell c v := fun x c e v ⟨o, ho, hd⟩ => by
    have nch : c ∉ ch := fun z => (hch c z).2.2.1 x c e rfl
    by_cases hc : c ∈ X.fs
    · obtain ⟨sl, q⟩ := slot c o (I.cne x c e) hc nch ho (I.freeC x c e)
      exact ⟨_, q, hd⟩
    · exact ⟨o, keep c o (I.cne x c e) hc nch ho (I.freeC x c e), hd⟩
  refine ⟨I.ok, I.os, hg, ⟨fun b o e n hb hx => ?_, fun b o e n hb hx => ?_, fun b o e n hx => ?_, fun b o e hx => ?_, fun b xs e => tups b xs (I.base.tups b xs e), fun b o xs e => frzs b o xs (I.base.frzs b o xs e), fun b ps e => ?_⟩, ?_, fun x c e => ?_, ?_, fun x c e => ?_, fun p hp => ?_, hok, I.len⟩
  · exact keep b o (neL b o e) hb (neC b o e hx) (I.base.keep b o e n hb hx) (I.base.free b o e n hx)
  · obtain ⟨sl, e1⟩ := I.base.slot b o e n hb hx
    obtain ⟨sl', e2⟩ := slot b _ (neL b o e) hb (neC b o e hx) e1 (I.base.free b o e n hx)
    exact ⟨sl', e2⟩
  · obtain ⟨o', e1⟩ := I.base.there b o e hx
    exact free b o' (neC b o e hx) e1 (I.base.free b o e n hx)
  · obtain ⟨o', e1⟩ := I.base.there b o e hx
    exact there b o' (neC b o e hx) e1
  · obtain ⟨m1, e1⟩ := I.base.tbls b ps e
    obtain ⟨m2, e2⟩ := tbls b _ e1
    exact ⟨m1 ++ m2, by rw [e2, Array.append_assoc]⟩
  · obtain ⟨m, hn, hl⟩ := I.loc
    refine ⟨m, ns m hn, fun i x v e1 e2 e3 => ?_⟩
    obtain ⟨u, r, l⟩ := hl i x v e1 e2 e3
    refine ⟨u, r, ?_⟩
    rcases l with l | ⟨k, c, e, z⟩
    · exact .inl l
    · exact .inr ⟨k, c, e, cellK x c e _ z⟩
  · obtain ⟨v, z⟩ := I.cell x c e
    exact ⟨v, cellK x c e v z⟩
  · obtain ⟨m, ⟨o, _, _, ho, _⟩, _⟩ := I.loc
    exact free _ o (fun z => (hch _ z).2.1 rfl) ho I.free
  · obtain ⟨v, o, ho, hd⟩ := I.cell x c e
    exact free c o (fun z => (hch c z).2.2.1 x c e rfl) ho (I.freeC x c e)
  · obtain ⟨e, n, ne, nf, d⟩ := I.pin p hp
    have nch : p.1 ∉ ch := fun z => (hch p.1 z).2.2.2 p hp rfl
    exact ⟨keep p.1 p.2 ne nf nch e n, free p.1 p.2 nch e n, ne, nf, d⟩
theorem Inv.un {t' : Nat} (I : Inv X pins σ H s) (u : Un X.fs [] H H' s.heap h') (hok : HOk X.prog X.w H' h') : Inv X pins σ H' { s with heap := h', toks := t' } := by
  obtain ⟨m, ⟨o, es, ep, ho, r⟩, _⟩ := id I.loc
  obtain ⟨sl, hL⟩ := u.any ho I.free (by simp)
  exact I.step (g' := s.gens) (d' := s.drawn) (ch := []) (fun _ z => nomatch z) (fun b o _ hb _ e n => u.keep b o e n hb (by simp)) (fun b o _ hb _ e n => u.slot b o e n hb (by simp)) (fun b o _ e n => u.free b o e n (by simp)) (fun b o _ e => u.there b o e (by simp)) u.tups u.frzs u.tbls (fun m' hm => by
    obtain ⟨o', es', ep', ho', r'⟩ := hm
    rw [ho] at ho'; cases ho'
    exact ⟨_, es', ep', hL, r'⟩) hok I.bare
theorem Inv.call {g' : Array GenState} {t' : Nat} {d' : Drawn} {ch : List Addr} (I : Inv X pins σ H s) (u : Un (frs X.stack) ch H H' s.heap h') (hok : HOk X.prog X.w H' h') (hg : AllBare g')
    (hch : ∀ b ∈ ch, (b ∈ X.ex ∨ X.s₀.heap.objs.size ≤ b) ∧ b ≠ X.env.locals ∧ (∀ x c, X.env.cells.lookup x = some c → c ≠ b) ∧ ∀ p ∈ X.pn ++ pins, p.1 ≠ b) :
    Inv X pins σ H' { s with heap := h', gens := g', drawn := d', toks := t' } := by
  obtain ⟨m, ⟨o, es, ep, ho, r⟩, _⟩ := id I.loc
  obtain ⟨sl, hL⟩ := u.any ho I.free fun z => (hch _ z).2.1 rfl
  exact I.step (ch := ch) hch (fun b o hL hb hc e n => u.keep b o e n (fun z => (List.mem_cons.mp (I.stkSub b z)).elim hL hb) hc) (fun b o _ _ hc e n => u.any e n hc) (fun b o hc e n => u.free b o e n hc) (fun b o hc e => u.there b o e hc) u.tups u.frzs u.tbls (fun m' hm => by
    obtain ⟨o', es', ep', ho', r'⟩ := hm
    rw [ho] at ho'; cases ho'
    exact ⟨_, es', ep', hL, r'⟩) hok hg
theorem Inv.turned {t' : Nat} {it : Addr} (I : Inv X pins σ H s) (k : ∀ b o, b ≠ it → s.heap.get? b = some o → h'.get? b = some o) (hn : H it = none) (hL : it ≠ X.env.locals)
    (h1 : it ∈ X.ex ∨ X.s₀.heap.objs.size ≤ it) (h2 : ∀ x c, X.env.cells.lookup x = some c → c ≠ it) (h3 : ∀ p ∈ X.pn ++ pins, p.1 ≠ it) : Inv X pins σ H { s with heap := h', toks := t' } := by
  have nit : ∀ b u, H b = some u → b ≠ it := fun b u e z => by rw [z, hn] at e; cases e
  refine I.step (g' := s.gens) (d' := s.drawn) (ch := [it]) (fun b hb => ?_) (fun b o _ _ hc e _ => k b o (fun z => hc (by simp [z])) e) (fun b o _ _ hc e _ => ⟨o.slots, k b o (fun z => hc (by simp [z])) e⟩) (fun _ _ _ _ n => n)
    (fun b o hc e => ⟨o, k b o (fun z => hc (by simp [z])) e⟩) (fun _ _ e => e) (fun _ _ _ e => e) (fun b ps e => ⟨#[], by rw [e]; simp⟩) (fun m hm => ?_) (fun b u e => ?_) I.bare
  · have e : b = it := by simpa using hb
    subst e
    exact ⟨h1, hL, h2, h3⟩
  · obtain ⟨o, es, ep, ho, r⟩ := hm
    exact ⟨o, es, ep, k _ o (Ne.symm hL) ho, r⟩
  · refine (I.hok b u e).stay (fun c v hc q => k c v ?_ q) (fun _ q => q) fun _ _ q => q
    rcases hc with z | z
    · rw [z]; exact nit b u e
    · exact nit c _ z
theorem Inv.tok (I : Inv X pins σ H s) (t : Nat) : Inv X pins σ H { s with toks := t } := I.un (h' := s.heap) (t' := t) Un.refl I.hok
theorem Inv.kept {t' : Nat} (I : Inv X pins σ H s) (k : ∀ b u, s.heap.get? b = some u → h'.get? b = some u) : Inv X pins σ H { s with heap := h', toks := t' } := I.un (Un.kept k) (I.hok.kept k)
theorem Inv.laid {a : Addr} {o : HO} {t' : Nat} (I : Inv X pins σ H s) (k : ∀ b u, s.heap.get? b = some u → h'.get? b = some u) (hp : s.heap.objs.size ≤ a) (new : ObjOk X.prog X.w (upd H a o) h' a o) :
    Inv X pins σ (upd H a o) { s with heap := h', toks := t' } := I.un (Un.laid k hp (I.hok.fresh hp)) (I.hok.laid k hp new)
theorem Inv.write {x e : Addr} {o : HO} {t' : Nat} (I : Inv X pins σ H s) (mu : Mut (H x)) (he : e = x ∨ H e = some (.own x)) (k : ∀ b u, b ≠ e → s.heap.get? b = some u → h'.get? b = some u) (heo : ∃ u, h'.get? e = some u)
    (new : ObjOk X.prog X.w (upd H x o) h' x o) : Inv X pins σ (upd H x o) { s with heap := h', toks := t' } := I.un (Un.write mu he k heo) (I.hok.write mu he k heo new)
theorem Inv.weak {σ' : List (Option V)} (I : Inv X pins σ H s) (hl : σ'.length = σ.length) (w : ∀ (i : Nat) v, σ'[i]? = some (some v) → σ[i]? = some (some v)) : Inv X pins σ' H s :=
  ⟨I.ok, I.os, I.bare, I.base, let ⟨m, hn, hl'⟩ := I.loc; ⟨m, hn, fun i x v e1 e2 e3 => hl' i x v e1 (w i v e2) e3⟩, I.cell, I.free, I.freeC, I.pin, I.hok, hl.trans I.len⟩
theorem Inv.pins_of {pins' : List (Addr × Obj)} (I : Inv X pins σ H s) (h : ∀ p ∈ pins', s.heap.get? p.1 = some p.2 ∧ H p.1 = none ∧ p.1 ≠ X.env.locals ∧ p.1 ∉ X.fs ∧ ∀ v, p.2.data ≠ .cell v) : Inv X pins' σ H s :=
  ⟨I.ok, I.os, I.bare, I.base, I.loc, I.cell, I.free, I.freeC, fun p hp => (List.mem_append.mp hp).elim (fun z => I.pin p (List.mem_append_left _ z)) (h p), I.hok, I.len⟩
theorem nodup_ix {N : List Str} (hN : N.Nodup) {i j : Nat} {x : Str} (a : N[i]? = some x) (b : N[j]? = some x) : i = j := by
  obtain ⟨h1, e1⟩ := List.getElem?_eq_some_iff.mp a
  obtain ⟨h2, e2⟩ := List.getElem?_eq_some_iff.mp b
  exact (List.getElem_inj hN).mp (e1.trans e2.symm)
theorem store_ok2 {M : Model} {A : Around} {E : Value → Shared → Prop} {i : Nat} {x : Str} {v : V} {u : Value} {Q : Unit → Shared → Prop} (I : Inv X pins σ H s) (hN : X.N.Nodup) (hi : X.N[i]? = some x) (hx : Loc X.env.scope x) (r : RelV v u)
    (h : ∀ s', Inv X pins (σ.set i (some v)) H s' → (∃ a, Heap.SameBut a s.heap s'.heap ∧ (a = X.env.locals ∨ X.env.cells.lookup x = some a)) → Q () s') (hf : X.fn x = true ∨ X.env.scope.names.lookup x = some .local := by first | exact .inl rfl | exact .inr rfl | assumption) : wpAny M A (storeName X.env x u) Q E s := by
  obtain ⟨m, hn, hl⟩ := id I.loc
  have hcls : (X.env.scope.kind == .class || (X.env.scope.kind == .module && X.env.locals != X.env.globals)) = false := by rw [I.ok.kind]; rfl
  have hiσ : i < σ.length := by rw [I.len]; exact (List.getElem?_eq_some_iff.mp hi).1
  have cne := I.cne
  have tracked : ∀ {a : Addr} {h' : Heap}, (∃ o, s.heap.get? a = some o ∧ H a = none) → Heap.SameBut a s.heap h' → HOk X.prog X.w H h' := fun {a h'} ha hs b ob e => by
    obtain ⟨_, _, hfree⟩ := ha
    refine (I.hok b ob e).stay (fun c w' hc q => (hs.2 c ?_).trans q) (fun _ q => q) fun _ _ q => q
    rintro rfl
    rcases hc with rfl | hc
    · rw [hfree] at e; cases e
    · rw [hfree] at hc; cases hc
  rcases hx with hk | hk
  · refine wpAny_storeName_local hk hn (fun h' hn' hs => ?_) hcls
    obtain ⟨oL, _, _, hoL, _⟩ := id hn
    refine h _ ⟨I.ok, I.os, I.bare, ⟨fun b o e n hb hx => ?_, fun b o e n hb hx => ?_, I.base.free, fun b o e hx => ?_, I.base.tups, I.base.frzs, I.base.tbls⟩, ⟨_, hn', fun j y v' e1 e2 e3 => ?_⟩, fun y c e => ?_, I.free, I.freeC, fun p hp => ?_, tracked ⟨oL, hoL, I.free⟩ hs, by simpa using I.len⟩ ⟨_, hs, .inl rfl⟩
    · exact (hs.2 b (Nat.ne_of_lt (Nat.lt_of_lt_of_le (Heap.lt_size e) I.ok.above))).trans (I.base.keep b o e n hb hx)
    · obtain ⟨sl, e1⟩ := I.base.slot b o e n hb hx
      exact ⟨sl, (hs.2 b (Nat.ne_of_lt (Nat.lt_of_lt_of_le (Heap.lt_size e) I.ok.above))).trans e1⟩
    · obtain ⟨o', e1⟩ := I.base.there b o e hx
      exact ⟨o', (hs.2 b (Nat.ne_of_lt (Nat.lt_of_lt_of_le (Heap.lt_size e) I.ok.above))).trans e1⟩
    · by_cases hj : j = i
      · subst hj
        rw [hi] at e1; cases e1
        rw [List.getElem?_set_self hiσ] at e2
        cases e2
        exact ⟨u, r, .inl ⟨hk, by simp⟩⟩
      · rw [List.getElem?_set_ne (Ne.symm hj)] at e2
        obtain ⟨u', r', q⟩ := hl j y v' e1 e2 e3
        refine ⟨u', r', ?_⟩
        rcases q with ⟨k, e⟩ | ⟨k, c, e, z⟩
        · refine .inl ⟨k, ?_⟩
          have : y ≠ x := fun e => hj (nodup_ix hN e1 (e ▸ hi))
          simp [this, e]
        · exact .inr ⟨k, c, e, z.sameBut hs (cne y c e)⟩
    · obtain ⟨w', z⟩ := I.cell y c e
      exact ⟨w', z.sameBut hs (cne y c e)⟩
    · obtain ⟨e, n, ne, nf, d⟩ := I.pin p hp
      exact ⟨(hs.2 p.1 ne).trans e, n, ne, nf, d⟩
  · have hfn : X.fn x = true := by
      rcases hf with z | z
      · exact z
      · rw [z] at hk; cases hk
    obtain ⟨c, hc⟩ := I.ok.has x (.inl hk)
    obtain ⟨w', z⟩ := I.cell x c hc
    refine wpAny_storeName_cell I.ok.kind hk hc z (fun h' hc' hs => ?_)
    obtain ⟨oc, hoc, hocd⟩ := id z
    refine h { s with heap := h' } ⟨I.ok, I.os, I.bare, ⟨fun b o e n hb hx => ?_, fun b o e n hb hx => ?_, I.base.free, fun b o e hx => ?_, I.base.tups, I.base.frzs, I.base.tbls⟩, ⟨m, hn.sameBut hs (Ne.symm (cne x c hc)), fun j y v' e1 e2 e3 => ?_⟩, fun y c' e => ?_, I.free, I.freeC, fun p hp => ?_, tracked ⟨oc, hoc, I.freeC x c hc⟩ hs, by simpa using I.len⟩ ⟨c, hs, .inr hc⟩
    · exact (hs.2 b (Nat.ne_of_lt (Nat.lt_of_lt_of_le (Heap.lt_size e) (I.ok.cab x c hfn hc)))).trans (I.base.keep b o e n hb hx)
    · obtain ⟨sl, e1⟩ := I.base.slot b o e n hb hx
      exact ⟨sl, (hs.2 b (Nat.ne_of_lt (Nat.lt_of_lt_of_le (Heap.lt_size e) (I.ok.cab x c hfn hc)))).trans e1⟩
    · obtain ⟨o', e1⟩ := I.base.there b o e hx
      exact ⟨o', (hs.2 b (Nat.ne_of_lt (Nat.lt_of_lt_of_le (Heap.lt_size e) (I.ok.cab x c hfn hc)))).trans e1⟩
    · by_cases hj : j = i
      · subst hj
        rw [hi] at e1; cases e1
        rw [List.getElem?_set_self hiσ] at e2
        cases e2
        exact ⟨u, r, .inr ⟨.inl hk, c, hc, hc'⟩⟩
      · rw [List.getElem?_set_ne (Ne.symm hj)] at e2
        obtain ⟨u', r', q⟩ := hl j y v' e1 e2 e3
        refine ⟨u', r', ?_⟩
        rcases q with q | ⟨k, c', e, z'⟩
        · exact .inl q
        · refine .inr ⟨k, c', e, z'.sameBut hs ?_⟩
          rintro rfl
          exact hj (nodup_ix hN e1 (I.ok.inj _ _ _ e hc ▸ hi))
    · by_cases hcc : c' = c
      · subst hcc; exact ⟨_, hc'⟩
      · obtain ⟨w2, z2⟩ := I.cell y c' e
        exact ⟨w2, z2.sameBut hs hcc⟩
    · obtain ⟨e, n, ne, nf, d⟩ := I.pin p hp
      refine ⟨(hs.2 p.1 ?_).trans e, n, ne, nf, d⟩
      intro q
      rw [q, hoc] at e
      have q' : oc = p.2 := Option.some.inj e
      exact d w' (by rw [← q']; exact hocd)
theorem store_ok {M : Model} {A : Around} {E : Value → Shared → Prop} {i : Nat} {x : Str} {v : V} {u : Value} {Q : Unit → Shared → Prop} (I : Inv X pins σ H s) (hN : X.N.Nodup) (hi : X.N[i]? = some x) (hx : Loc X.env.scope x) (r : RelV v u)
    (h : ∀ s', Inv X pins (σ.set i (some v)) H s' → Q () s') (hf : X.fn x = true ∨ X.env.scope.names.lookup x = some .local := by first | exact .inl rfl | exact .inr rfl | assumption) : wpAny M A (storeName X.env x u) Q E s :=
  store_ok2 I hN hi hx r (fun s' I' _ => h s' I') hf
theorem Inv.call' {s' : Shared} {ch : List Addr} (I : Inv X pins σ H s) (ho : s'.os = s.os) (u : Un (frs X.stack) ch H H' s.heap s'.heap) (hok : HOk X.prog X.w H' s'.heap) (hg : AllBare s'.gens)
    (hch : ∀ b ∈ ch, (b ∈ X.ex ∨ X.s₀.heap.objs.size ≤ b) ∧ b ≠ X.env.locals ∧ (∀ x c, X.env.cells.lookup x = some c → c ≠ b) ∧ ∀ p ∈ X.pn ++ pins, p.1 ≠ b) : Inv X pins σ H' s' := by
  obtain ⟨h', g', d', t', o'⟩ := s'
  have e : o' = s.os := ho
  subst e
  exact I.call (g' := g') (t' := t') (d' := d') u hok hg hch
end
noncomputable abbrev XK := Value → Option Addr → Hp → Prop
noncomputable abbrev St := List (Option V)
noncomputable abbrev VK := V → Hp → Prop
noncomputable abbrev TE := St → Hp → VK → Prop
noncomputable abbrev TT := St → Hp → (Bool → Hp → Prop) → Prop
noncomputable abbrev TA := St → Hp → (List V → Hp → Prop) → Prop
structure Ends where
  nx : St → Hp → Prop
  rt : VK
  bk : St → Hp → Prop := fun _ _ => False
  ct : St → Hp → Prop := fun _ _ => False
noncomputable abbrev TS := Ends → St → Hp → Prop
noncomputable def EP (X : Cx) (pins : List (Addr × Obj)) (σ : St) (Q : VK) (u : Value) (s' : Shared) : Prop := ∃ v H', Inv X pins σ H' s' ∧ RelV v u ∧ Q v H'
noncomputable def TP (X : Cx) (pins : List (Addr × Obj)) (σ : St) (Q : Bool → Hp → Prop) (b : Bool) (s' : Shared) : Prop := ∃ H', Inv X pins σ H' s' ∧ Q b H'
noncomputable def AP (X : Cx) (pins : List (Addr × Obj)) (σ : St) (Q : List V → Hp → Prop) (us : List Value) (s' : Shared) : Prop := ∃ vs H', Inv X pins σ H' s' ∧ Vals vs us ∧ Q vs H'
noncomputable def SP (X : Cx) (pins : List (Addr × Obj)) (D : Ends) (f : Flow) (s' : Shared) : Prop :=
  match f with
  | .next => ∃ σ' H', Inv X pins σ' H' s' ∧ D.nx σ' H'
  | .brk => ∃ σ' H', Inv X pins σ' H' s' ∧ D.bk σ' H'
  | .cont => ∃ σ' H', Inv X pins σ' H' s' ∧ D.ct σ' H'
  | .ret u => ∃ v σ' H', Inv X pins σ' H' s' ∧ RelV v u ∧ D.rt v H'
noncomputable def PE (X : Cx) (e : Expr) (t : TE) : Prop :=
  ∀ (pins : List (Addr × Obj)) (s : Shared) (σ : St) (H : Hp) (Q : VK), Inv X pins σ H s → t σ H Q → wpAny (model X.prog X.w) X.A (eval e X.env) (EP X pins σ Q) X.xe s
noncomputable def PT (X : Cx) (e : Expr) (t : TT) : Prop :=
  ∀ (pins : List (Addr × Obj)) (s : Shared) (σ : St) (H : Hp) (Q : Bool → Hp → Prop), Inv X pins σ H s → t σ H Q → wpAny (model X.prog X.w) X.A (isTrue e X.env (eval e X.env)) (TP X pins σ Q) X.xe s
noncomputable def PW (X : Cx) (e : Expr) (t : TT) : Prop :=
  ∀ (whole : Sem Value) (pins : List (Addr × Obj)) (s : Shared) (σ : St) (H : Hp) (Q : Bool → Hp → Prop), Inv X pins σ H s → t σ H Q → wpAny (model X.prog X.w) X.A (isTrue e X.env whole) (TP X pins σ Q) X.xe s
theorem PW.pt {X : Cx} {e : Expr} {t : TT} (h : PW X e t) : PT X e t := h _
noncomputable def PA (X : Cx) (es : List Expr) (t : TA) : Prop :=
  ∀ (pos : Pos) (pins : List (Addr × Obj)) (s : Shared) (σ : St) (H : Hp) (Q : List V → Hp → Prop), Inv X pins σ H s → t σ H Q → wpAny (model X.prog X.w) X.A (spliced (backTo pos (starEach es X.env))) (AP X pins σ Q) X.xe s
noncomputable def PS (X : Cx) (st : Stmt) (t : TS) : Prop :=
  ∀ (pins : List (Addr × Obj)) (s : Shared) (σ : St) (H : Hp) (D : Ends), Inv X pins σ H s → t D σ H → wpAny (model X.prog X.w) X.A (exec st X.env) (SP X pins D) X.xe s
noncomputable def PSs (X : Cx) (st : List Stmt) (t : TS) : Prop :=
  ∀ (pins : List (Addr × Obj)) (s : Shared) (σ : St) (H : Hp) (D : Ends), Inv X pins σ H s → t D σ H → wpAny (model X.prog X.w) X.A (execs st X.env) (SP X pins D) X.xe s
theorem thn {α : Type} {t : Sem α} {Q Q' : α → Shared → Prop} {M : Model} {A : Around} {E : Value → Shared → Prop} {s : Shared} (h : wpAny M A t Q E s) (hQ : ∀ a s, Q a s → Q' a s) : wpAny M A t Q' E s := wpAny_mono h hQ fun _ _ x => x
end L2
namespace L2
open PySem PySem.Spec PyProof.Rows
section
variable {X : Cx}
noncomputable def tVar (i : Nat) : TE := fun σ H Q => ∃ v, σ[i]? = some (some v) ∧ Q v H
noncomputable def tC (v : V) : TE := fun _ H Q => Q v H
theorem pe_var {i : Nat} {x : Str} {pos : Pos} (hN : X.N[i]? = some x) (hv : Vis X.env.scope x) (hd : (x == ("__debug__" : Str)) = false := by decide) (hcd : (x == ("__classdict__" : Str)) = false := by decide) : PE X (.Name x pos) (tVar i) := by
  intro pins s σ H Q I h
  obtain ⟨v, e, h⟩ := h
  obtain ⟨m, hn, hl⟩ := I.loc
  obtain ⟨u, r, l⟩ := hl i x v hN e hv
  have fin : EP X pins σ Q u s := ⟨v, H, I, r, h⟩
  rcases l with ⟨hk, hm⟩ | ⟨hk, c, hc, hcell⟩
  · exact wpAny_Name (wpAny_loadName_local I.ok.kind hk hn hm fin) hd
  · rcases hk with hk | hk
    · exact wpAny_Name (wpAny_loadName_cell I.ok.kind hk hc hcell fin) hd
    · exact wpAny_Name (wpAny_loadName_free I.ok.kind hk hc hcell fin hcd) hd
theorem pe_int {i j pos} : PE X (.Constant (.int i) j pos) (tC (.int i)) := fun _ _ _ H _ I h => wpAny_Constant_int ⟨.int i, H, I.tok _, ⟨_, rfl⟩, h⟩
theorem pe_bl {b j pos} : PE X (.Constant (.bool b) j pos) (tC (.bl b)) := fun _ _ _ H _ I h => Constant_bool ⟨.bl b, H, I, rfl, h⟩
noncomputable def Gl (X : Cx) (x : Str) : Prop := X.env.kindOf x = some .globalImplicit
theorem ld_glob {E : Value → Shared → Prop} {pins : List (Addr × Obj)} {s : Shared} {σ : St} {H : Hp} {x : Str} {u : Value} {pos : Pos} {Q : Value → Shared → Prop} (I : Inv X pins σ H s) (hg : Gl X x) (hm : X.mg x = some u) (h : Q u s)
    (hd : (x == ("__debug__" : Str)) = false := by decide) : wpAny (model X.prog X.w) X.A (eval (.Name x pos) X.env) Q E s :=
  Calls.Name_function_global I.ok.kind hg (Calls.loadGlobal_global (by rw [I.ok.glob]; exact I.mod.glob.keeps I.bk) hm h) hd
theorem ld_blt {E : Value → Shared → Prop} {pins : List (Addr × Obj)} {s : Shared} {σ : St} {H : Hp} {x : Str} {u : Value} {pos : Pos} {Q : Value → Shared → Prop} (I : Inv X pins σ H s) (hg : Gl X x) (hm : X.mg x = none) (hv : bootBuiltins x = some u) (h : Q u s)
    (hn : x ≠ "__name__" := by decide) (hd : (x == ("__debug__" : Str)) = false := by decide) : wpAny (model X.prog X.w) X.A (eval (.Name x pos) X.env) Q E s := by
  obtain ⟨mb, h1, h2⟩ := I.mod.blt
  exact Calls.Name_function_global I.ok.kind hg (Calls.loadGlobal_builtin (by rw [I.ok.glob]; exact I.mod.glob.keeps I.bk) hm (by rw [I.ok.blt]; exact h1.keeps I.bk) ((h2 x hn).trans hv) h) hd
theorem pe_glob {x : Str} {v : V} {u : Value} {pos : Pos} (hg : Gl X x) (hm : X.mg x = some u) (r : RelV v u) (hd : (x == ("__debug__" : Str)) = false := by decide) : PE X (.Name x pos) (tC v) :=
  fun _ _ _ H _ I h => ld_glob I hg hm ⟨v, H, I, r, h⟩ hd
theorem pe_bltn {x : Str} {v : V} {u : Value} {pos : Pos} (hg : Gl X x) (hm : X.mg x = none) (hv : bootBuiltins x = some u) (r : RelV v u) (hn : x ≠ "__name__" := by decide) (hd : (x == ("__debug__" : Str)) = false := by decide) : PE X (.Name x pos) (tC v) :=
  fun _ _ _ H _ I h => ld_blt I hg hm hv ⟨v, H, I, r, h⟩ hn hd
variable {a b : Expr} {ta tb : TE} {pos : Pos}
noncomputable def tB (t : TE) : TT := fun σ H Q => t σ H fun x H1 => ∃ c, x = .bl c ∧ Q c H1
theorem pt_val {e : Expr} {t : TE} (h : PE X e t) (he : ∀ whole, isTrue e X.env whole = (do let v ← whole; standAt e.pos; holding [v] (truthy v)) := by intro _; rfl) : PT X e (tB t) := by
  intro pins s σ H Q I hw
  refine isTrue_plain (thn (h pins s σ H _ I hw) fun v s1 ⟨x, H1, I1, r1, q1⟩ => ?_) (he _)
  obtain ⟨d, rfl, q⟩ := q1
  cases r1
  exact wpAny_truthy_bool ⟨H1, I1, q⟩
variable {tA tB' : TT} {rest : List Expr}
noncomputable def tAnd (t u : TT) : TT := fun σ H Q => t σ H fun c H1 => if c = true then u σ H1 Q else Q false H1
noncomputable def tOr (t u : TT) : TT := fun σ H Q => t σ H fun c H1 => if c = true then Q true H1 else u σ H1 Q
noncomputable def tNot (t : TT) : TT := fun σ H Q => t σ H fun c H1 => Q (!c) H1
theorem pw_and1 (ha : PT X a tA) : PW X (.BoolOp .And [a] pos) tA := by
  intro wh pins s σ H Q I h
  refine isTrue_and (thn (ha pins s σ H Q I h) fun c s1 e => ?_)
  cases c with
  | true => exact isTrue_and_nil e
  | false => exact e
theorem pw_or1 (ha : PT X a tA) : PW X (.BoolOp .Or [a] pos) tA := by
  intro wh pins s σ H Q I h
  refine isTrue_or (thn (ha pins s σ H Q I h) fun c s1 e => ?_)
  cases c with
  | false => exact isTrue_or_nil e
  | true => exact e
theorem pw_and (ha : PT X a tA) (hb : PW X (.BoolOp .And (b :: rest) pos) tB') : PW X (.BoolOp .And (a :: b :: rest) pos) (tAnd tA tB') := by
  intro wh pins s σ H Q I h
  refine isTrue_and (thn (ha pins s σ H _ I h) fun c s1 ⟨H1, I1, q1⟩ => ?_)
  cases c with
  | true => exact hb wh pins s1 σ H1 Q I1 q1
  | false => exact ⟨H1, I1, q1⟩
theorem pw_or (ha : PT X a tA) (hb : PW X (.BoolOp .Or (b :: rest) pos) tB') : PW X (.BoolOp .Or (a :: b :: rest) pos) (tOr tA tB') := by
  intro wh pins s σ H Q I h
  refine isTrue_or (thn (ha pins s σ H _ I h) fun c s1 ⟨H1, I1, q1⟩ => ?_)
  cases c with
  | true => exact ⟨H1, I1, q1⟩
  | false => exact hb wh pins s1 σ H1 Q I1 q1
theorem pt_not (ha : PT X a tA) : PT X (.UnaryOp .Not a pos) (tNot tA) := by
  intro pins s σ H Q I h
  exact isTrue_not (ha pins s σ H (fun c H1 => Q (!c) H1) I h)
noncomputable def tAndV (ta tb : TE) : TE := fun σ H Q => ta σ H fun x H1 => ∃ c, x = .bl c ∧ if c = true then tb σ H1 Q else Q (.bl false) H1
noncomputable def tNotV (ta : TE) : TE := fun σ H Q => ta σ H fun x H1 => ∃ c, x = .bl c ∧ Q (.bl (!c)) H1
theorem pe_one {op} {t : TE} (h : PE X a t) : PE X (.BoolOp op [a] pos) t := fun pins s σ H Q I hw => BoolOp_one (h pins s σ H Q I hw)
theorem pe_and (ha : PE X a ta) (hb : PE X (.BoolOp .And (b :: rest) pos) tb) : PE X (.BoolOp .And (a :: b :: rest) pos) (tAndV ta tb) := by
  intro pins s σ H Q I h
  refine BoolOp_and (thn (ha pins s σ H _ I h) fun v s1 ⟨x, H1, I1, r1, q1⟩ => ?_)
  obtain ⟨c, rfl, q1⟩ := q1
  cases r1
  refine wpAny_truthy_bool ?_
  cases c with
  | true => exact hb pins s1 σ H1 Q I1 q1
  | false => exact ⟨.bl false, H1, I1, rfl, q1⟩
theorem pe_not (ha : PE X a ta) : PE X (.UnaryOp .Not a pos) (tNotV ta) := by
  intro pins s σ H Q I h
  refine UnaryOp_ (thn (ha pins s σ H _ I h) fun v s1 ⟨x, H1, I1, r1, q1⟩ => ?_)
  obtain ⟨c, rfl, q1⟩ := q1
  cases r1
  exact not_of (wpAny_truthy_bool ⟨.bl (!c), H1, I1, rfl, q1⟩)
end
end L2
namespace L2
open PySem PySem.Spec PyProof.Rows
noncomputable def SqL (K : PySem.W.Frag) (H : Hp) (a : Addr) (xs : List V) : Prop :=
  Rd H a (.lst xs) ∨
    ∃ (o : Obj) (its : Array Value) (n : Nat), K.lookup a = some o ∧ o.cls = .type "list" ∧ o.dict = none ∧ o.data = .seq its n ∧ its.size ≤ sizeLine ∧ Vals xs its.toList
noncomputable def SqT (K : PySem.W.Frag) (H : Hp) (a : Addr) (xs : List V) : Prop :=
  Rd H a (.tup xs) ∨
    ∃ (o : Obj) (its : Array Value) (n : Nat), K.lookup a = some o ∧ o.cls = .type "tuple" ∧ o.data = .seq its n ∧ its.size ≤ sizeLine ∧ Vals xs its.toList
noncomputable def absV : Value → Option V
  | .none => some .non
  | .bool b => some (.bl b)
  | .int i _ => some (.int i)
  | .str x _ => some (.str x)
  | .bytes b _ => some (.byt b)
  | .float b _ => some (.flt b)
  | .ref a => some (.ref a)
  | .type n => some (.ty n)
  | _ => none
theorem RelV.abs {x : V} {u : Value} (r : RelV x u) : absV u = some x := by
  cases x with
  | non => cases r; rfl
  | bl _ => cases r; rfl
  | int _ => obtain ⟨t, rfl⟩ := r; rfl
  | str _ => obtain ⟨t, rfl⟩ := r; rfl
  | byt _ => obtain ⟨t, rfl⟩ := r; rfl
  | flt _ => obtain ⟨t, rfl⟩ := r; rfl
  | ref _ => cases r; rfl
  | ty _ => cases r; rfl
theorem RelV.inj {x y : V} {u : Value} (r : RelV x u) (q : RelV y u) : x = y := Option.some.inj (r.abs.symm.trans q.abs)
theorem Vals.inj : ∀ {xs ys : List V} {us : List Value}, Vals xs us → Vals ys us → xs = ys
  | _, _, _, .nil, .nil => rfl
  | _, _, _, .cons r t, .cons r' t' => by rw [r.inj r', Vals.inj t t']
section
variable {X : Cx} {pins : List (Addr × Obj)} {σ : St} {H : Hp} {s : Shared} {a : Addr} {xs ys : List V}
theorem SqL.of {K : PySem.W.Frag} (h : H a = some (.lst xs)) : SqL K H a xs := .inl (.inl h)
theorem SqT.of {K : PySem.W.Frag} (h : H a = some (.tup xs)) : SqT K H a xs := .inl (.inl h)
theorem Inv.list (I : Inv X pins σ H s) (h : SqL X.K H a xs) : ∃ its : List Value, Vals xs its ∧ PlainL s.heap a its.toArray ∧ xs.length ≤ sizeLine := by
  rcases h with h | ⟨o, its, n, hk, hc, hd, hs, hz, r⟩
  · obtain ⟨z, its, n, r, e⟩ := h.ok I.hok
    exact ⟨its, r, ⟨_, n, e, rfl, rfl, rfl⟩, z⟩
  · refine ⟨its.toList, r, ⟨o, n, I.kIn a o hk, hc, hd, by simpa using hs⟩, ?_⟩
    have e := r.length
    simp only [Array.length_toList] at e
    omega
theorem Inv.tuple (I : Inv X pins σ H s) (h : SqT X.K H a xs) : ∃ its : List Value, Vals xs its ∧ IsTup s.heap a its.toArray ∧ xs.length ≤ sizeLine := by
  rcases h with h | ⟨o, its, n, hk, hc, hs, hz, r⟩
  · obtain ⟨z, its, r, p⟩ := h.ok I.hok
    exact ⟨its, r, p, z⟩
  · refine ⟨its.toList, r, ⟨o, I.kIn a o hk, hc, n, by simpa using hs⟩, ?_⟩
    have e := r.length
    simp only [Array.length_toList] at e
    omega
theorem Inv.list_inj (I : Inv X pins σ H s) (h : SqL X.K H a xs) (h' : SqL X.K H a ys) : xs = ys := by
  obtain ⟨its, r, ⟨o, n, e, _, _, d⟩, _⟩ := I.list h
  obtain ⟨its', r', ⟨o', n', e', _, _, d'⟩, _⟩ := I.list h'
  rw [e] at e'; cases e'
  rw [d] at d'
  injection d' with d1 _
  have : its = its' := by simpa using congrArg Array.toList d1
  subst this
  exact r.inj r'
theorem Inv.tuple_inj (I : Inv X pins σ H s) (h : SqT X.K H a xs) (h' : SqT X.K H a ys) : xs = ys := by
  obtain ⟨its, r, ⟨o, e, _, n, d⟩, _⟩ := I.tuple h
  obtain ⟨its', r', ⟨o', e', _, n', d'⟩, _⟩ := I.tuple h'
  rw [e] at e'; cases e'
  rw [d] at d'
  injection d' with d1 _
  have : its = its' := by simpa using congrArg Array.toList d1
  subst this
  exact r.inj r'
end
noncomputable abbrev Cx.wish (X : Cx) (E : Value → Shared → Prop) : Cx := { X with xe := E }
noncomputable abbrev Cx.nox (X : Cx) : Cx := X.wish fun _ _ => False
theorem Cx.Ok.wish {X : Cx} (ok : X.Ok) (E : Value → Shared → Prop) : (X.wish E).Ok :=
  ⟨ok.mod, ok.kind, ok.glob, ok.blt, ok.above, ok.inj, ok.has, ok.cab, ok.hd, ok.frames, ok.stk, ok.exf, ok.bs, ok.bsz, ok.noex, ok.exfs, ok.funs, ok.frf⟩
theorem Cx.Ok.unwish {X : Cx} {E : Value → Shared → Prop} (ok : (X.wish E).Ok) : X.Ok :=
  ⟨ok.mod, ok.kind, ok.glob, ok.blt, ok.above, ok.inj, ok.has, ok.cab, ok.hd, ok.frames, ok.stk, ok.exf, ok.bs, ok.bsz, ok.noex, ok.exfs, ok.funs, ok.frf⟩
section
variable {X : Cx} {pins : List (Addr × Obj)} {σ : St} {H : Hp} {s : Shared} {E : Value → Shared → Prop}
theorem Inv.wish (I : Inv X pins σ H s) (E : Value → Shared → Prop) : Inv (X.wish E) pins σ H s := ⟨I.ok.wish E, I.os, I.bare, I.base, I.loc, I.cell, I.free, I.freeC, I.pin, I.hok, I.len⟩
theorem Inv.unwish (I : Inv (X.wish E) pins σ H s) : Inv X pins σ H s := ⟨I.ok.unwish, I.os, I.bare, I.base, I.loc, I.cell, I.free, I.freeC, I.pin, I.hok, I.len⟩
theorem SP.unwish {D : Ends} {f : Flow} {s' : Shared} (h : SP (X.wish E) pins D f s') : SP X pins D f s' := by
  cases f with
  | next => obtain ⟨σ', H', I, q⟩ := h; exact ⟨σ', H', I.unwish, q⟩
  | brk => obtain ⟨σ', H', I, q⟩ := h; exact ⟨σ', H', I.unwish, q⟩
  | cont => obtain ⟨σ', H', I, q⟩ := h; exact ⟨σ', H', I.unwish, q⟩
  | ret u => obtain ⟨v, σ', H', I, r, q⟩ := h; exact ⟨v, σ', H', I.unwish, r, q⟩
theorem PE.nox {e : Expr} {t : TE} (h : PE X.nox e t) : PE X e t := fun pins s σ H Q I hw =>
  wpAny_mono (h pins s σ H Q (I.wish _) hw) (fun _ _ ⟨v, H', I', r, q⟩ => ⟨v, H', I'.unwish, r, q⟩) fun _ _ z => False.elim z
theorem PT.nox {e : Expr} {t : TT} (h : PT X.nox e t) : PT X e t := fun pins s σ H Q I hw =>
  wpAny_mono (h pins s σ H Q (I.wish _) hw) (fun _ _ ⟨H', I', q⟩ => ⟨H', I'.unwish, q⟩) fun _ _ z => False.elim z
theorem PSs.nox {st : List Stmt} {t : TS} (h : PSs X.nox st t) : PSs X st t := fun pins s σ H D I hw =>
  wpAny_mono (h pins s σ H D (I.wish _) hw) (fun _ _ q => q.unwish) fun _ _ z => False.elim z
end
section
variable {X : Cx} {st : Stmt} {rest : List Stmt} {t u : TS} {e : Expr} {te : TE} {pos : Pos}
noncomputable def tNext : TS := fun D σ H => D.nx σ H
noncomputable def tSeq (t u : TS) : TS := fun D σ H => t { D with nx := u D } σ H
theorem pss_nil : PSs X [] tNext := fun _ _ σ H _ I h => wpAny_execs_nil ⟨σ, H, I, h⟩
theorem pss_cons (h1 : PS X st t) (h2 : PSs X rest u) : PSs X (st :: rest) (tSeq t u) := by
  intro pins s σ H D I h
  refine wpAny_execs_cons (thn (h1 pins s σ H { D with nx := u D } I h) fun f s1 q => ?_)
  cases f with
  | next =>
    obtain ⟨σ', H', I', q⟩ := q
    exact h2 pins s1 σ' H' D I' q
  | ret v => exact q
  | brk => exact q
  | cont => exact q
theorem pss_one (h1 : PS X st t) : PSs X [st] t := by
  intro pins s σ H D I h
  refine wpAny_execs_cons (thn (h1 pins s σ H D I h) fun f s1 q => ?_)
  cases f with
  | next => exact wpAny_execs_nil q
  | ret v => exact q
  | brk => exact q
  | cont => exact q
theorem Inv.quiet {pins : List (Addr × Obj)} {σ : St} {H : Hp} {s : Shared} (I : Inv X pins σ H s) : interactive X.env = false := by simp [interactive, I.ok.kind]
noncomputable def tDrop (te : TE) : TS := fun D σ H => te σ H fun _ H1 => D.nx σ H1
theorem ps_expr (he : PE X e te) (hs : swapsWith e none pos.line X.env = pure false := by rfl) : PS X (.Expr e pos) (tDrop te) := by
  intro pins s σ H D I h
  exact wpAny_Expr_any (thn (he pins s σ H _ I h) fun v s1 ⟨x, H1, I1, r1, q1⟩ => ⟨σ, H1, I1, q1⟩) I.quiet hs
noncomputable def tRet (te : TE) : TS := fun D σ H => te σ H D.rt
theorem ps_ret (he : PE X e te) : PS X (.Return (some e) pos) (tRet te) := by
  intro pins s σ H D I h
  exact wpAny_Return_some (thn (he pins s σ H _ I h) fun v s1 ⟨x, H1, I1, r1, q1⟩ => ⟨x, σ, H1, I1, r1, q1⟩)
noncomputable def tIfS (c : TT) (t u : TS) : TS := fun D σ H => c σ H fun b H1 => if b = true then t D σ H1 else u D σ H1
theorem ps_if {c : Expr} {a b : List Stmt} {tc : TT} (hc : PT X c tc) (ha : PSs X a t) (hb : PSs X b u) : PS X (.If c a b pos) (tIfS tc t u) := by
  intro pins s σ H D I h
  refine wpAny_If (thn (hc pins s σ H _ I h) fun d s1 ⟨H1, I1, q1⟩ => ?_)
  cases d with
  | true => exact ha pins s1 σ H1 D I1 q1
  | false => exact hb pins s1 σ H1 D I1 q1
noncomputable def tNever : TS := fun _ _ _ => False
theorem ps_never : PS X st tNever := fun _ _ _ _ _ _ h => h.elim
end
noncomputable abbrev TG := V → St → Hp → (St → Hp → Prop) → Prop
noncomputable abbrev TGs := List V → St → Hp → (St → Hp → Prop) → Prop
noncomputable def PG (X : Cx) (target : Expr) (t : TG) : Prop :=
  ∀ (pins : List (Addr × Obj)) (s : Shared) (σ : St) (H : Hp) (v : V) (u : Value) (Q : St → Hp → Prop), Inv X pins σ H s → RelV v u → t v σ H Q →
    wpAny (model X.prog X.w) X.A (assign target X.env u) (fun _ s' => ∃ σ' H', Inv X pins σ' H' s' ∧ Q σ' H') X.xe s
noncomputable def PGs (X : Cx) (ts : List Expr) (t : TGs) : Prop :=
  ∀ (pins : List (Addr × Obj)) (s : Shared) (σ : St) (H : Hp) (vs : List V) (us : List Value) (Q : St → Hp → Prop), Inv X pins σ H s → Vals vs us → t vs σ H Q →
    wpAny (model X.prog X.w) X.A (assignInOrder ((assignEach ts X.env).map (·.2)) us) (fun _ s' => ∃ σ' H', Inv X pins σ' H' s' ∧ Q σ' H') X.xe s
noncomputable abbrev TSet := V → V → V → Hp → (Hp → Prop) → Prop
noncomputable def PSet (X : Cx) (t : TSet) : Prop :=
  ∀ (pins : List (Addr × Obj)) (s : Shared) (σ : St) (H : Hp) (o i v : V) (ov iv u : Value) (Q : Hp → Prop), Inv X pins σ H s → RelV o ov → RelV i iv → RelV v u → t o i v H Q →
    wpAny (model X.prog X.w) X.A (setItem ov iv u) (fun _ s' => ∃ H', Inv X pins σ H' s' ∧ Q H') X.xe s
noncomputable abbrev TIp := V → V → Hp → VK → Prop
noncomputable def PIp (X : Cx) (op : Operator) (t : TIp) : Prop :=
  ∀ (pins : List (Addr × Obj)) (s : Shared) (σ : St) (H : Hp) (x y : V) (v u : Value) (Q : VK), Inv X pins σ H s → RelV x v → RelV y u → t x y H Q →
    wpAny (model X.prog X.w) X.A (inplaceOp op v u) (EP X pins σ Q) X.xe s
section
variable {X : Cx} {pos : Pos}
noncomputable def gName (i : Nat) : TG := fun v σ H Q => Q (σ.set i (some v)) H
theorem pg_name {i : Nat} {x : Str} (hN : X.N.Nodup) (hi : X.N[i]? = some x) (hx : Loc X.env.scope x) (hf : X.fn x = true ∨ X.env.scope.names.lookup x = some .local := by first | exact .inl rfl | exact .inr rfl | assumption) : PG X (.Name x pos) (gName i) := by
  intro pins s σ H v u Q I r h
  exact wpAny_assign_Name (store_ok I hN hi hx r (fun s' I' => ⟨_, H, I', h⟩) hf)
noncomputable def gNil : TGs := fun vs σ H Q => vs = [] ∧ Q σ H
noncomputable def gCons (t : TG) (u : TGs) : TGs := fun vs σ H Q => ∃ v r, vs = v :: r ∧ t v σ H fun σ' H' => u r σ' H' Q
theorem pgs_nil : PGs X [] gNil := by
  intro pins s σ H vs us Q I r h
  obtain ⟨e, h⟩ := h
  subst e
  cases r
  exact assignInOrder_nil ⟨σ, H, I, h⟩
theorem pgs_cons {e : Expr} {es : List Expr} {t : TG} {u : TGs} (h1 : PG X e t) (h2 : PGs X es u)
    (hs : (assignEach (e :: es) X.env).map (·.2) = assign e X.env :: (assignEach es X.env).map (·.2) := by rfl) : PGs X (e :: es) (gCons t u) := by
  intro pins s σ H vs us Q I r h
  obtain ⟨v, vr, e1, h⟩ := h
  subst e1
  cases r with
  | cons r rr =>
    rw [hs]
    refine assignInOrder_cons (thn (h1 pins s σ H _ _ _ I r h) fun _ s1 ⟨σ1, H1, I1, q1⟩ => ?_)
    exact h2 pins s1 σ1 H1 _ _ Q I1 rr q1
noncomputable def gTup (K : PySem.W.Frag) (n : Nat) (t : TGs) : TG := fun v σ H Q => ∃ a xs, v = .ref a ∧ SqT K H a xs ∧ xs.length = n ∧ t xs σ H Q
theorem pg_tup {es : List Expr} {k : Nat} {t : TGs} {n : Nat} (hc : X.calm = true) (h : PGs X es t)
    (hn : (assignEach es X.env).length = n := by rfl) (hst : (assignEach es X.env).findIdx? (·.1) = none := by rfl) : PG X (.Tuple es k pos) (gTup X.K n t) := by
  intro pins s σ H v u Q I r hw
  obtain ⟨a, xs, e1, hq, hl, hw⟩ := hw
  subst e1
  cases r
  obtain ⟨its, rv, ht, hz⟩ := I.tuple hq
  refine assign_Tuple_tuple (I.ok.hd hc) ht (by simp [hn, ← hl, rv.length]) hst fun h' hx => ?_
  have I1 : Inv X pins σ H { s with heap := h' } := I.kept (t' := s.toks) fun b o e => hx b o (Nat.ne_of_lt (Heap.lt_size e)) e
  exact h pins _ σ H xs _ Q I1 (by simpa using rv) hw
noncomputable def gSub (to ti : TE) (t : TSet) : TG := fun v σ H Q => to σ H fun o H1 => ti σ H1 fun i H2 => t o i v H2 fun H3 => Q σ H3
theorem pg_sub {o i : Expr} {to ti : TE} {t : TSet} (ho : PE X o to) (hi : PE X i ti) (hs : PSet X t)
    (ha : ∀ v, assign (.Subscript o i pos) X.env v = (do
      let ov ← holding [v] (eval o X.env)
      let iv ← holding [v, ov] (eval i X.env)
      standAt pos
      holding [v, ov, iv] (setItem ov iv v)
      release [v, ov, iv] []) := by intro _; rfl) : PG X (.Subscript o i pos) (gSub to ti t) := by
  intro pins s σ H v u Q I r h
  rw [ha]
  refine wpAny_bind (wpAny_holding (thn (ho pins s σ H _ I h) fun ov s1 ⟨x, H1, I1, r1, q1⟩ => ?_))
  refine wpAny_bind (wpAny_holding (thn (hi pins s1 σ H1 _ I1 q1) fun iv s2 ⟨y, H2, I2, r2, q2⟩ => ?_))
  refine wpAny_bind (wpAny_standAt (wpAny_bind (wpAny_holding (thn (hs pins s2 σ H2 x y v ov iv u _ I2 r1 r2 r q2) fun _ s3 ⟨H3, I3, q3⟩ => ?_))))
  exact wpAny_release ⟨σ, H3, I3, q3⟩
noncomputable def tAsg (te : TE) (g : TG) : TS := fun D σ H => te σ H fun x H1 => g x σ H1 D.nx
theorem ps_asg {tg e : Expr} {te : TE} {g : TG} (he : PE X e te) (hg : PG X tg g) (hs : swapsWithSole [tg] e pos.line X.env = pure false := by rfl) (hw : swappedStores [tg] e X.env = pure none := by rfl)
    (h1 : (assignEach [tg] X.env).map (·.2) = [assign tg X.env] := by rfl) : PS X (.Assign [tg] e pos) (tAsg te g) := by
  intro pins s σ H D I h
  refine wpAny_Assign_stores (thn (he pins s σ H _ I h) fun v s1 ⟨x, H1, I1, r1, q1⟩ => ?_) hs hw
  rw [h1]
  exact thn (hg pins s1 σ H1 x v _ I1 r1 q1) fun _ s2 q => q
theorem ps_set {i : Nat} {x : Str} {e : Expr} {te : TE} {pos' : Pos} (hN : X.N.Nodup) (hi : X.N[i]? = some x) (hx : Loc X.env.scope x) (he : PE X e te) (hs : swapsWith e (some (.Name x pos')) pos.line X.env = pure false := by rfl) (hf : X.fn x = true ∨ X.env.scope.names.lookup x = some .local := by first | exact .inl rfl | exact .inr rfl | assumption) :
    PS X (.Assign [.Name x pos'] e pos) (tAsg te (gName i)) := by
  intro pins s σ H D I h
  refine wpAny_Assign_Name (thn (he pins s σ H _ I h) fun v s1 ⟨y, H1, I1, r1, q1⟩ => ?_) hs
  exact store_ok I1 hN hi hx r1 (fun s2 I2 => ⟨_, H1, I2, q1⟩) hf
noncomputable def tAugS (to ti te : TE) (tget : V → V → Hp → VK → Prop) (tip : TIp) (tset : TSet) : TS := fun D σ H => to σ H fun o H1 => ti σ H1 fun i H2 => tget o i H2 fun x H3 => te σ H3 fun y H4 => tip x y H4 fun z H5 => tset o i z H5 fun H6 => D.nx σ H6
noncomputable def PGet (X : Cx) (t : V → V → Hp → VK → Prop) : Prop :=
  ∀ (pins : List (Addr × Obj)) (s : Shared) (σ : St) (H : Hp) (o i : V) (ov iv : Value) (Q : VK), Inv X pins σ H s → RelV o ov → RelV i iv → t o i H Q →
    wpAny (model X.prog X.w) X.A (getItem ov iv) (EP X pins σ Q) X.xe s
theorem ps_augS {o i e : Expr} {to ti te : TE} {tget : V → V → Hp → VK → Prop} {tip : TIp} {tset : TSet} {op : Operator} {tpos : Pos} (ho : PE X o to) (hi : PE X i ti) (hg : PGet X tget) (he : PE X e te) (hp : PIp X op tip) (hs : PSet X tset)
    (ha : ∀ ov iv new, augStore i ov iv new = (do holding [new, ov, iv] (setItem ov iv new); release [new, ov, iv] []; pure .next) := by intros; rfl) : PS X (.AugAssign (.Subscript o i tpos) op e pos) (tAugS to ti te tget tip tset) := by
  intro pins s σ H D I h
  refine wpAny_AugAssign_SubscriptAny (thn (ho pins s σ H _ I h) fun ov s1 ⟨x1, H1, I1, r1, q1⟩ => ?_) ha
  refine thn (hi pins s1 σ H1 _ I1 q1) fun iv s2 ⟨x2, H2, I2, r2, q2⟩ => ?_
  refine thn (hg pins s2 σ H2 x1 x2 ov iv _ I2 r1 r2 q2) fun old s3 ⟨x3, H3, I3, r3, q3⟩ => ?_
  refine thn (he pins s3 σ H3 _ I3 q3) fun v s4 ⟨x4, H4, I4, r4, q4⟩ => ?_
  refine thn (hp pins s4 σ H4 x3 x4 old v _ I4 r3 r4 q4) fun new s5 ⟨x5, H5, I5, r5, q5⟩ => ?_
  exact thn (hs pins s5 σ H5 x1 x2 x5 ov iv new _ I5 r1 r2 r5 q5) fun _ s6 ⟨H6, I6, q6⟩ => ⟨σ, H6, I6, q6⟩
noncomputable def ipI (f : Int → Int → Int) : TIp := fun x y H Q => ∃ i j, x = .int i ∧ y = .int j ∧ Q (.int (f i j)) H
theorem ip_add : PIp X .Add (ipI fun i j => i + j) := by
  intro pins s σ H x y v u Q I r1 r2 h
  obtain ⟨i, j, e1, e2, q⟩ := h
  subst e1; subst e2
  obtain ⟨t, rfl⟩ := r1
  obtain ⟨t', rfl⟩ := r2
  exact iadd_int ⟨.int _, H, I.tok _, ⟨_, rfl⟩, q⟩
end
section
variable {X : Cx} {pos : Pos}
noncomputable def tWhile (c : TT) (tb : TS) : TS := fun D σ H => ∃ W : Nat → St → Hp → Prop, (∃ m, W m σ H) ∧ ∀ m σ H, W m σ H →
  c σ H fun b H1 => if b = true then ∃ N : St → Hp → Prop, (∀ σ' H', N σ' H' → ∃ m', m' < m ∧ W m' σ' H') ∧ tb { D with nx := N, ct := N, bk := D.nx } σ H1 else D.nx σ H1
theorem ps_while {c : Expr} {body : List Stmt} {tc : TT} {tb : TS} (hp : PassesOwn (model X.prog X.w) X.A X.env X.xe) (hc : PT X c tc) (hb : PSs X body tb) : PS X (.While c body [] pos) (tWhile tc tb) := by
  intro pins s σ H D I h
  obtain ⟨W, ⟨m0, w0⟩, turn⟩ := h
  refine wpAny_While (codeAny_whileLoop (fun n s' => ∃ σ' H', Inv X pins σ' H' s' ∧ W n σ' H') ?_ m0 ⟨σ, H, I, w0⟩)
  rintro n s1 ⟨σ1, H1, I1, w1⟩
  refine wpAny_passesOwn hp (thn (hc pins s1 σ1 H1 _ I1 (turn n σ1 H1 w1)) fun b s2 ⟨H2, I2, q2⟩ => ?_)
  cases b with
  | true =>
    obtain ⟨N, hN, q2⟩ := q2
    rw [if_pos rfl]
    refine wpAny_passesOwn hp (thn (hb pins s2 σ1 H2 _ I2 q2) fun f s3 q3 => ?_)
    cases f with
    | next =>
      obtain ⟨σ3, H3, I3, n3⟩ := q3
      obtain ⟨m', hm, w3⟩ := hN σ3 H3 n3
      exact ⟨m', hm, σ3, H3, I3, w3⟩
    | cont =>
      obtain ⟨σ3, H3, I3, n3⟩ := q3
      obtain ⟨m', hm, w3⟩ := hN σ3 H3 n3
      exact ⟨m', hm, σ3, H3, I3, w3⟩
    | brk => exact q3
    | ret v => exact q3
  | false =>
    rw [if_neg Bool.false_ne_true]
    exact wpAny_execs_nil ⟨σ1, H2, I2, q2⟩
end
structure It where
  go : Nat → Hp → Prop
  yld : Nat → Hp → V → Hp → Prop
  stop : Nat → Hp → Prop
noncomputable def FpOk (X : Cx) (pins : List (Addr × Obj)) (H : Hp) (b : Addr) : Prop :=
  H b = none ∧ b ≠ X.env.locals ∧ b ∉ X.fs ∧ (b ∈ X.ex ∨ X.s₀.heap.objs.size ≤ b) ∧ (∀ x c, X.env.cells.lookup x = some c → c ≠ b) ∧ ∀ p ∈ X.pn ++ pins, p.1 ≠ b
theorem Inv.fpOk {X : Cx} {pins : List (Addr × Obj)} {σ : St} {H H' : Hp} {s : Shared} {b : Addr} (I : Inv X pins σ H s) (hb : s.heap.objs.size ≤ b) (hn : H' b = none) : FpOk X pins H' b := by
  refine ⟨hn, Nat.ne_of_gt (Nat.lt_of_lt_of_le I.lt hb), I.nofs hb, .inr (Nat.le_trans I.sz hb), fun x c e z => ?_, fun p hp z => ?_⟩
  · obtain ⟨v, q⟩ := I.cell x c e
    exact absurd (Nat.lt_of_lt_of_le q.lt (by rw [z]; exact hb)) (Nat.lt_irrefl _)
  · exact absurd (Nat.lt_of_lt_of_le (Heap.lt_size (I.pin p hp).1) (by rw [z]; exact hb)) (Nat.lt_irrefl _)
structure Turn (P : Program) (w : World) (K : PySem.W.Frag) (tg : Expr) (J : It) (fp : List Addr) (it : Addr) (tn : Nat → Heap → Prop) : Prop where
  mem : it ∈ fp
  obj : ∀ i h, tn i h → ∀ b ∈ fp, ∃ o, h.get? b = some o ∧ ∀ v, o.data ≠ .cell v
  keep : ∀ i h h', tn i h → (∀ b ∈ fp, ∀ o, h.get? b = some o → h'.get? b = some o) → tn i h'
  item : ∀ (X : Cx), X.prog = P → X.w = w → X.K = K → X.calm = true → ∀ (i : Nat) (pins : List (Addr × Obj)) (s : Shared) (σ : St) (H : Hp) (E : Value → Shared → Prop), Inv X pins σ H s → (∀ b ∈ fp, FpOk X pins H b) → tn i s.heap → J.go i H →
    wpAny (model P w) X.A (pyNext (.ref it)) (fun r s1 => ∃ u, r = some u ∧
      wpAny (model P w) X.A (letOwnedTupleGo tg (.ref it) u) (fun _ s2 => ∃ x H', Inv X pins σ H' s2 ∧ RelV x u ∧ J.yld i H x H' ∧ tn (i + 1) s2.heap ∧ ∀ b ∈ fp, H' b = none) E s1) E s
  done : ∀ (X : Cx), X.prog = P → X.w = w → X.K = K → X.calm = true → ∀ (i : Nat) (pins : List (Addr × Obj)) (s : Shared) (σ : St) (H : Hp) (E : Value → Shared → Prop), Inv X pins σ H s → (∀ b ∈ fp, FpOk X pins H b) → tn i s.heap → J.stop i H →
    wpAny (model P w) X.A (pyNext (.ref it)) (fun r s1 => r = none ∧ Inv X pins σ H s1) E s
  self : ∀ (A : Around) (i : Nat) (s : Shared) (Q : Value → Shared → Prop) (E : Value → Shared → Prop), tn i s.heap → Q (.ref it) s → wpAny (model P w) A (pyIter (.ref it)) Q E s
noncomputable abbrev TI := St → Hp → (It → Hp → Prop) → Prop
noncomputable def PIE (X : Cx) (pins : List (Addr × Obj)) (σ : St) (tg : Expr) (R : It → Hp → Prop) (itv : Value) (s2 : Shared) : Prop :=
  ∃ (it : Addr) (fp : List Addr) (tn : Nat → Heap → Prop) (J : It) (H' : Hp), itv = .ref it ∧ Inv X pins σ H' s2 ∧ Turn X.prog X.w X.K tg J fp it tn ∧ tn 0 s2.heap ∧ (∀ b ∈ fp, FpOk X pins H' b) ∧ R J H'
noncomputable def PI (X : Cx) (tg iter : Expr) (wi : TI) : Prop :=
  ∀ (pins : List (Addr × Obj)) (s : Shared) (σ : St) (H : Hp) (R : It → Hp → Prop), Inv X pins σ H s → wi σ H R →
    wpAny (model X.prog X.w) X.A (eval iter X.env) (fun v s1 => wpAny (model X.prog X.w) X.A (pyIter v) (PIE X pins σ tg R) X.xe s1) X.xe s
theorem go_of {M : Model} {A : Around} {E : Value → Shared → Prop} {s : Shared} {tg : Expr} {it : Addr} {u : Value} {o : Obj} {n : String} {vs : Array Value} {Q : Unit → Shared → Prop} (ho : s.heap.get? it = some o) (hc : o.cls = .type n) (hd : o.data = .fields vs)
    (hn : ["enumerate", "zip", "dict_itemiterator", "dict_reverseitemiterator", "odict_iterator", "itertools.zip_longest", "itertools.pairwise"].contains n = false) (hQ : Q () s) : wpAny M A (letOwnedTupleGo tg (.ref it) u) Q E s := by
  unfold letOwnedTupleGo
  cases tg <;> first
    | exact wpAny_pure hQ
    | (cases u <;> first
        | exact wpAny_pure hQ
        | (refine wpAny_bind (wpAny_load ho ?_)
           rw [hc, hd]
           show wpAny M A (if (["enumerate", "zip", "dict_itemiterator", "dict_reverseitemiterator", "odict_iterator", "itertools.zip_longest", "itertools.pairwise"].contains n && vs[0]? == some (rawInt _)) = true then _ else _) Q E s
           rw [if_neg (by intro h; rw [hn, Bool.false_and] at h; cases h)]
           exact wpAny_pure hQ))
noncomputable def Itl (K : PySem.W.Frag) (a : Addr) : It :=
  ⟨fun i H => ∃ xs x, SqL K H a xs ∧ xs[i]? = some x, fun i H x H' => H' = H ∧ ∀ xs, SqL K H a xs → xs[i]? = some x, fun i H => ∃ xs, SqL K H a xs ∧ xs.length ≤ i⟩
noncomputable def Itt (K : PySem.W.Frag) (a : Addr) : It :=
  ⟨fun i H => ∃ xs x, SqT K H a xs ∧ xs[i]? = some x, fun i H x H' => H' = H ∧ ∀ xs, SqT K H a xs → xs[i]? = some x, fun i H => ∃ xs, SqT K H a xs ∧ xs.length ≤ i⟩
noncomputable def Itr (lo : Int) (n : Nat) : It := ⟨fun i _ => i < n, fun i H x H' => H' = H ∧ x = .int (lo + i), fun i _ => n ≤ i⟩
theorem turn_list {P : Program} {w : World} {K : PySem.W.Frag} {tg : Expr} (a it : Addr) : Turn P w K tg (Itl K a) [it] it (fun i h => h.IsListIter it a i) where
  mem := by simp
  obj := fun i h st b hb => by
    have e : b = it := by simpa using hb
    subst e
    obtain ⟨o, e, c, d⟩ := st
    exact ⟨o, e, fun v z => by rw [d] at z; cases z⟩
  keep := fun i h h' st k => st.at fun o e => k it (by simp) o e
  item := by
    intro X hP hw hK hc i pins s σ H E I hf st hg
    subst hP hw hK
    obtain ⟨xs, x, hq, hx⟩ := hg
    obtain ⟨its, rv, p, hz⟩ := I.list hq
    obtain ⟨u, hu, ru⟩ := rv.get hx
    obtain ⟨f0, f1, f2, f3, f4, f5⟩ := hf it (by simp)
    refine wpAny_pyNext_list_item st p.isList (x := u) (by simpa using hu) fun h' st' sb => ?_
    have I1 : Inv X pins σ H { s with heap := h' } := I.turned (t' := s.toks) (fun b o hb e => (sb.2 b hb).trans e) f0 f1 f3 f4 f5
    obtain ⟨o, e, c, d⟩ := id st'
    exact ⟨u, rfl, go_of (s := { s with heap := h' }) e c d (by decide) ⟨x, H, I1, ru, ⟨rfl, fun ys hy => by rw [I.list_inj hy hq]; exact hx⟩, st', fun b hb => (hf b hb).1⟩⟩
  done := by
    intro X hP hw hK hc i pins s σ H E I hf st hg
    subst hP hw hK
    obtain ⟨xs, hq, hx⟩ := hg
    obtain ⟨its, rv, p, hz⟩ := I.list hq
    obtain ⟨f0, f1, f2, f3, f4, f5⟩ := hf it (by simp)
    have hl := rv.length
    exact wpAny_pyNext_list_end (I.ok.hd hc) st p.isList (by simp; omega) fun h' eb => ⟨rfl, I.turned (t' := s.toks) (fun b o hb e => eb b o hb e) f0 f1 f3 f4 f5⟩
  self := fun _ _ _ _ _ st h => wpAny_pyIter_listiter st h
theorem turn_tuple {P : Program} {w : World} {K : PySem.W.Frag} {tg : Expr} (a it : Addr) : Turn P w K tg (Itt K a) [it] it (fun i h => h.IsTupleIter it a i) where
  mem := by simp
  obj := fun i h st b hb => by
    have e : b = it := by simpa using hb
    subst e
    obtain ⟨o, e, c, d⟩ := st
    exact ⟨o, e, fun v z => by rw [d] at z; cases z⟩
  keep := fun i h h' st k => st.at fun o e => k it (by simp) o e
  item := by
    intro X hP hw hK hc i pins s σ H E I hf st hg
    subst hP hw hK
    obtain ⟨xs, x, hq, hx⟩ := hg
    obtain ⟨its, rv, p, hz⟩ := I.tuple hq
    obtain ⟨u, hu, ru⟩ := rv.get hx
    obtain ⟨f0, f1, f2, f3, f4, f5⟩ := hf it (by simp)
    refine wpAny_pyNext_tuple_item st (show s.heap.IsTuple a its.toArray from p) (x := u) (by simpa using hu) fun h' st' sb => ?_
    have I1 : Inv X pins σ H { s with heap := h' } := I.turned (t' := s.toks) (fun b o hb e => (sb.2 b hb).trans e) f0 f1 f3 f4 f5
    obtain ⟨o, e, c, d⟩ := id st'
    exact ⟨u, rfl, go_of (s := { s with heap := h' }) e c d (by decide) ⟨x, H, I1, ru, ⟨rfl, fun ys hy => by rw [I.tuple_inj hy hq]; exact hx⟩, st', fun b hb => (hf b hb).1⟩⟩
  done := by
    intro X hP hw hK hc i pins s σ H E I hf st hg
    subst hP hw hK
    obtain ⟨xs, hq, hx⟩ := hg
    obtain ⟨its, rv, p, hz⟩ := I.tuple hq
    obtain ⟨f0, f1, f2, f3, f4, f5⟩ := hf it (by simp)
    have hl := rv.length
    exact wpAny_pyNext_tuple_end (I.ok.hd hc) st (show s.heap.IsTuple a its.toArray from p) (by simp; omega) fun h' eb => ⟨rfl, I.turned (t' := s.toks) (fun b o hb e => eb b o hb e) f0 f1 f3 f4 f5⟩
  self := fun _ _ _ _ _ st h => wpAny_pyIter_tupleiter st h
theorem turn_range {P : Program} {w : World} {K : PySem.W.Frag} {tg : Expr} (it : Addr) (lo : Int) (n : Nat) : Turn P w K tg (Itr lo n) [it] it (fun i h => IsRangeIter h it (lo + (i : Nat) * 1) ((n : Int) - (i : Nat)) 1) where
  mem := by simp
  obj := fun i h st b hb => by
    have e : b = it := by simpa using hb
    subst e
    exact ⟨_, st, fun v z => by
      have z' : Data.fields _ = Data.cell v := z
      cases z'⟩
  keep := fun i h h' st k => k it (by simp) _ st
  item := by
    intro X hP hw hK hc i pins s σ H E I hf st hg
    subst hP hw hK
    obtain ⟨f0, f1, f2, f3, f4, f5⟩ := hf it (by simp)
    have W := Walks.range (prog := X.prog) (w := X.w) (I.ok.hd hc) it lo 1 n
    refine W.item i s _ _ hg st fun v h' tk hv st' kk => ?_
    obtain ⟨t, rfl⟩ := hv
    have I1 : Inv X pins σ H { s with heap := h', toks := tk } := I.turned (fun b o hb e => kk b o (by simpa using hb) e) f0 f1 f3 f4 f5
    refine ⟨_, rfl, go_of (s := { s with heap := h', toks := tk }) (n := "range_iterator") st' rfl rfl (by decide) ⟨.int (lo + i), H, I1, ⟨t, ?_⟩, ⟨rfl, rfl⟩, st', fun b hb => (hf b hb).1⟩⟩
    rw [Int.mul_one]
  done := by
    intro X hP hw hK hc i pins s σ H E I hf st hg
    subst hP hw hK
    obtain ⟨f0, f1, f2, f3, f4, f5⟩ := hf it (by simp)
    exact wpAny_pyNext_range_end (I.ok.hd hc) st (by have : n ≤ i := hg; omega) fun h' eb => ⟨rfl, I.turned (t' := s.toks) (fun b o hb e => eb b o hb e) f0 f1 f3 f4 f5⟩
  self := fun _ _ _ _ _ st h => wpAny_pyIter_rangeiter st h
end L2
namespace L2
open PySem PySem.Spec PyProof.Rows
section
variable {X : Cx} {tg : Expr}
noncomputable def iList (K : PySem.W.Frag) (tl : TE) : TI := fun σ H R => tl σ H fun x H1 => ∃ a, x = .ref a ∧ (∃ xs, SqL K H1 a xs) ∧ R (Itl K a) H1
noncomputable def iTup (K : PySem.W.Frag) (tl : TE) : TI := fun σ H R => tl σ H fun x H1 => ∃ a, x = .ref a ∧ (∃ xs, SqT K H1 a xs) ∧ R (Itt K a) H1
theorem pi_list {l : Expr} {tl : TE} (hl : PE X l tl) : PI X tg l (iList X.K tl) := by
  intro pins s σ H R I h
  refine thn (hl pins s σ H _ I h) fun v s1 ⟨x, H1, I1, r1, q1⟩ => ?_
  obtain ⟨a, e, ⟨xs, hq⟩, q⟩ := q1
  subst e
  cases r1
  obtain ⟨its, rv, p, hz⟩ := I1.list hq
  refine wpAny_pyIter_list p.isList ?_
  refine ⟨s1.heap.objs.size, [s1.heap.objs.size], _, _, H1, rfl, I1.kept (t' := s1.toks) fun b o e => Heap.get?_push_of_some _ e, turn_list a _, ⟨_, Heap.get?_push_size _ rfl, rfl, rfl⟩, fun b hb => ?_, q⟩
  have e : b = s1.heap.objs.size := by simpa using hb
  subst e
  exact I1.fpOk (Nat.le_refl _) (I1.hok.fresh (Nat.le_refl _))
theorem pi_tup {l : Expr} {tl : TE} (hl : PE X l tl) : PI X tg l (iTup X.K tl) := by
  intro pins s σ H R I h
  refine thn (hl pins s σ H _ I h) fun v s1 ⟨x, H1, I1, r1, q1⟩ => ?_
  obtain ⟨a, e, ⟨xs, hq⟩, q⟩ := q1
  subst e
  cases r1
  obtain ⟨its, rv, p, hz⟩ := I1.tuple hq
  refine wpAny_pyIter_tuple (show s1.heap.IsTuple a its.toArray from p) ?_
  refine ⟨s1.heap.objs.size, [s1.heap.objs.size], _, _, H1, rfl, I1.kept (t' := s1.toks) fun b o e => Heap.get?_push_of_some _ e, turn_tuple a _, ⟨_, Heap.get?_push_size _ rfl, rfl, rfl⟩, fun b hb => ?_, q⟩
  have e : b = s1.heap.objs.size := by simpa using hb
  subst e
  exact I1.fpOk (Nat.le_refl _) (I1.hok.fresh (Nat.le_refl _))
theorem range_it {pins : List (Addr × Obj)} {σ : St} {H : Hp} {s : Shared} {R : It → Hp → Prop} {E : Value → Shared → Prop} {lo hi : Int} {t u v : Tok} {tk : Nat} (I : Inv X pins σ H s) (h1 : -(2 ^ 62) ≤ lo) (h2 : lo < 2 ^ 62) (h3 : -(2 ^ 62) ≤ hi) (h4 : hi < 2 ^ 62)
    (q : R (Itr lo (hi - lo).toNat) H) : wpAny (model X.prog X.w) X.A (pyIter (.ref s.heap.objs.size)) (PIE X pins σ tg R) E { s with heap := s.heap.push { cls := .type "range", data := .fields #[.int lo t, .int hi u, .int 1 v] }, toks := tk } := by
  refine wpAny_pyIter_range (IsRange.new ..) (small_one h1 h2 h3 h4) ?_
  have I1 : Inv X pins σ H { s with heap := s.heap.push { cls := .type "range", data := .fields #[.int lo t, .int hi u, .int 1 v] }, toks := tk } := I.kept fun b o e => Heap.get?_push_of_some _ e
  refine ⟨(s.heap.push { cls := .type "range", data := .fields #[.int lo t, .int hi u, .int 1 v] }).objs.size, [(s.heap.push { cls := .type "range", data := .fields #[.int lo t, .int hi u, .int 1 v] }).objs.size], _, _, H, rfl,
    I1.kept (t' := tk) fun b o e => Heap.get?_push_of_some _ e, turn_range _ lo (hi - lo).toNat, ?_, fun b hb => ?_, q⟩
  · have e1 : lo + ((0 : Nat) : Int) * 1 = lo := by simp
    have e2 : (((hi - lo).toNat : Nat) : Int) - ((0 : Nat) : Int) = Builtin.Range.rangeSize lo hi 1 := by rw [rangeSize_one]; split <;> omega
    show IsRangeIter _ _ (lo + ((0 : Nat) : Int) * 1) ((((hi - lo).toNat : Nat) : Int) - ((0 : Nat) : Int)) 1
    rw [e1, e2]
    exact Heap.get?_push_size _ rfl
  · have e : b = (s.heap.push { cls := .type "range", data := .fields #[.int lo t, .int hi u, .int 1 v] }).objs.size := by simpa using hb
    subst e
    exact I1.fpOk (Nat.le_refl _) (I1.hok.fresh (Nat.le_refl _))
noncomputable def iRng1 (ta : TA) : TI := fun σ H R => ta σ H fun vs H1 => ∃ j : Int, vs = [.int j] ∧ -(2 ^ 62) ≤ j ∧ j < 2 ^ 62 ∧ R (Itr 0 j.toNat) H1
noncomputable def iRng2 (ta : TA) : TI := fun σ H R => ta σ H fun vs H1 => ∃ i j : Int, vs = [.int i, .int j] ∧ (-(2 ^ 62) ≤ i ∧ i < 2 ^ 62 ∧ -(2 ^ 62) ≤ j ∧ j < 2 ^ 62) ∧ R (Itr i (j - i).toNat) H1
theorem pi_range1 {a : Expr} {ta : TA} {p pos : Pos} (hg : Gl X "range") (hm : X.mg "range" = none) (ha : PA X [a] ta) (hs : starEach [a] X.env = [(false, eval a X.env)] := by rfl) : PI X tg (.Call (.Name "range" p) [a] [] pos) (iRng1 ta) := by
  intro pins s σ H R I h
  refine Call_ (ld_blt I hg hm boot_range (PyProof.Rows.callWith_type1 (thn (ha pos pins s σ H _ I h) fun us s1 ⟨vs, H1, I1, r1, q1⟩ => ?_) hs rfl))
  obtain ⟨j, e, q1, q2, q⟩ := q1
  subst e
  cases r1 with
  | cons r rr =>
    cases rr
    obtain ⟨t, rfl⟩ := r
    exact call_range_1 (range_it I1 (by omega) (by omega) q1 q2 (by simpa using q))
theorem pi_range2 {a b : Expr} {ta : TA} {p pos : Pos} (hg : Gl X "range") (hm : X.mg "range" = none) (ha : PA X [a, b] ta) (hs : starEach [a, b] X.env = [(false, eval a X.env), (false, eval b X.env)] := by rfl) (hs2 : starEach [b] X.env = [(false, eval b X.env)] := by rfl) :
    PI X tg (.Call (.Name "range" p) [a, b] [] pos) (iRng2 ta) := by
  intro pins s σ H R I h
  refine Call_ (ld_blt I hg hm boot_range (PyProof.Rows.callWith_type1 (thn (ha pos pins s σ H _ I h) fun us s1 ⟨vs, H1, I1, r1, q1⟩ => ?_) (by rw [hs, hs2]) (by rw [hs2]; rfl)))
  obtain ⟨i, j, e, ⟨q1, q2, q3, q4⟩, q⟩ := q1
  subst e
  cases r1 with
  | cons r rr =>
    cases rr with
    | cons r' rr =>
      cases rr
      obtain ⟨t, rfl⟩ := r
      obtain ⟨t', rfl⟩ := r'
      exact call_range_2 (range_it I1 q1 q2 q3 q4 q)
noncomputable def tFor (wi : TI) (g : TG) (tb : TS) : TS := fun D σ H => wi σ H fun J H1 => ∃ W : Nat → Nat → St → Hp → Prop, (∃ m, W 0 m σ H1) ∧ ∀ i m σ H, W i m σ H →
  (J.stop i H ∧ D.nx σ H) ∨ (J.go i H ∧ ∃ N : St → Hp → Prop, (∀ σ' H', N σ' H' → ∃ m', m' < m ∧ W (i + 1) m' σ' H') ∧ ∀ x H', J.yld i H x H' → g x σ H' fun σ2 H2 => tb { D with nx := N, ct := N, bk := D.nx } σ2 H2)
noncomputable def pinsAt (fp : List Addr) (h : Heap) : List (Addr × Obj) := fp.filterMap fun b => (h.get? b).map fun o => (b, o)
theorem mem_pinsAt {fp : List Addr} {h : Heap} {b : Addr} {o : Obj} (hb : b ∈ fp) (e : h.get? b = some o) : (b, o) ∈ pinsAt fp h := List.mem_filterMap.mpr ⟨b, hb, by rw [e]; rfl⟩
theorem of_pinsAt {fp : List Addr} {h : Heap} {p : Addr × Obj} (hp : p ∈ pinsAt fp h) : p.1 ∈ fp ∧ h.get? p.1 = some p.2 := by
  obtain ⟨b, hb, e⟩ := List.mem_filterMap.mp hp
  cases q : h.get? b with
  | none => rw [q] at e; cases e
  | some o =>
    rw [q] at e
    have e' : (b, o) = p := Option.some.inj e
    subst e'
    exact ⟨hb, q⟩
theorem Inv.pinned {pins : List (Addr × Obj)} {σ : St} {H : Hp} {s : Shared} {fp : List Addr} (I : Inv X pins σ H s) (hf : ∀ b ∈ fp, FpOk X pins H b) (ho : ∀ b ∈ fp, ∃ o, s.heap.get? b = some o ∧ ∀ v, o.data ≠ .cell v) : Inv X (pins ++ pinsAt fp s.heap) σ H s :=
  I.pins_of fun p hp => (List.mem_append.mp hp).elim (fun z => I.pin p (List.mem_append_right _ z)) fun z => by
    obtain ⟨hb, e⟩ := of_pinsAt z
    obtain ⟨f0, f1, f2, _⟩ := hf p.1 hb
    obtain ⟨o, e', d⟩ := ho p.1 hb
    rw [e] at e'; cases e'
    exact ⟨e, f0, f1, f2, d⟩
theorem Inv.unpinned {pins pl : List (Addr × Obj)} {σ : St} {H : Hp} {s : Shared} (I : Inv X (pins ++ pl) σ H s) : Inv X pins σ H s := I.pins_of fun p hp => I.pin p (List.mem_append_right _ (List.mem_append_left _ hp))
theorem ps_for {iter : Expr} {body : List Stmt} {wi : TI} {g : TG} {tb : TS} {pos : Pos} (hp : PassesOwn (model X.prog X.w) X.A X.env X.xe) (hc : X.calm = true) (hi : PI X tg iter wi) (hg : PG X tg g) (hb : PSs X body tb)
    (hs : ∀ x, foldedSetIterable iter X.env x = pure x := by intro _; rfl) : PS X (.For tg iter body [] pos) (tFor wi g tb) := by
  intro pins s σ H D I h
  refine wpAny_For (thn (hi pins s σ H _ I h) fun v s1 h1 => thn h1 fun itv s2 h2 => ?_) hs
  obtain ⟨it, fp, tn, J, H2, e, I2, T, st2, f2, W, ⟨m0, w0⟩, turn⟩ := h2
  subst e
  have stat : ∀ {H' : Hp}, (∀ b ∈ fp, H' b = none) → ∀ b ∈ fp, FpOk X pins H' b := fun hn b hb => ⟨hn b hb, (f2 b hb).2⟩
  refine codeAny_forLoop_any (fun n s' => ∃ i σ' H', Inv X pins σ' H' s' ∧ tn i s'.heap ∧ (∀ b ∈ fp, H' b = none) ∧ W i n σ' H') ?_ m0 ⟨0, σ, H2, I2, st2, fun b hb => (f2 b hb).1, w0⟩
  rintro n s3 ⟨i, σ3, H3, I3, st3, fr3, w3⟩
  rcases turn i n σ3 H3 w3 with ⟨stop, qn⟩ | ⟨go, N, hN, step⟩
  · refine wpAny_passesOwn hp (thn (T.done X rfl rfl rfl hc i pins s3 σ3 H3 X.xe I3 (stat fr3) st3 stop) fun r s4 ⟨hr, I4⟩ => ?_)
    subst hr
    exact wpAny_execs_nil ⟨σ3, H3, I4, qn⟩
  · refine wpAny_passesOwn hp (thn (T.item X rfl rfl rfl hc i pins s3 σ3 H3 X.xe I3 (stat fr3) st3 go) fun r s4 ⟨u, hr, h4⟩ => ?_)
    subst hr
    refine wpAny_passesOwn hp (thn h4 fun _ s5 ⟨x, H5, I5, r5, y5, st5, fr5⟩ => ?_)
    have I5' := I5.pinned (stat fr5) (T.obj _ _ st5)
    refine wpAny_passesOwn hp (thn (hg _ s5 σ3 H5 x u _ I5' r5 (step x H5 y5)) fun _ s6 ⟨σ6, H6, I6, q6⟩ => ?_)
    refine wpAny_passesOwn hp (thn (hb _ s6 σ6 H6 _ I6 q6) fun f s7 q7 => ?_)
    have again : ∀ {σ7 : St} {H7 : Hp}, Inv X (pins ++ pinsAt fp s5.heap) σ7 H7 s7 → N σ7 H7 → ∃ m, m < n ∧ ∃ i σ' H', Inv X pins σ' H' s7 ∧ tn i s7.heap ∧ (∀ b ∈ fp, H' b = none) ∧ W i m σ' H' := fun {σ7 H7} I7 n7 => by
      obtain ⟨m', hm, w7⟩ := hN σ7 H7 n7
      refine ⟨m', hm, i + 1, σ7, H7, I7.unpinned, T.keep _ _ _ st5 fun b hb o e => (I7.pin (b, o) (List.mem_append_right _ (List.mem_append_right _ (mem_pinsAt hb e)))).1, fun b hb => ?_, w7⟩
      obtain ⟨o, e, d⟩ := T.obj _ _ st5 b hb
      exact (I7.pin (b, o) (List.mem_append_right _ (List.mem_append_right _ (mem_pinsAt hb e)))).2.1
    cases f with
    | next => obtain ⟨σ7, H7, I7, n7⟩ := q7; exact again I7 n7
    | cont => obtain ⟨σ7, H7, I7, n7⟩ := q7; exact again I7 n7
    | brk => obtain ⟨σ7, H7, I7, q7⟩ := q7; exact ⟨σ7, H7, I7.unpinned, q7⟩
    | ret v => obtain ⟨x7, σ7, H7, I7, r7, q7⟩ := q7; exact ⟨x7, σ7, H7, I7.unpinned, r7, q7⟩
end
theorem for_range {lo : Int} {n : Nat} {g : TG} {tb : TS} {D : Ends} {σ : St} {H : Hp} (Pv : Nat → St → Hp → Prop) (h0 : Pv 0 σ H)
    (hs : ∀ i σ H, i < n → Pv i σ H → g (.int (lo + i)) σ H fun σ2 H2 => tb { D with nx := Pv (i + 1), ct := Pv (i + 1), bk := D.nx } σ2 H2) (hd : ∀ σ H, Pv n σ H → D.nx σ H) :
    ∃ W : Nat → Nat → St → Hp → Prop, (∃ m, W 0 m σ H) ∧ ∀ i m σ H, W i m σ H →
      ((Itr lo n).stop i H ∧ D.nx σ H) ∨ ((Itr lo n).go i H ∧ ∃ N : St → Hp → Prop, (∀ σ' H', N σ' H' → ∃ m', m' < m ∧ W (i + 1) m' σ' H') ∧ ∀ x H', (Itr lo n).yld i H x H' → g x σ H' fun σ2 H2 => tb { D with nx := N, ct := N, bk := D.nx } σ2 H2) := by
  refine ⟨fun i m σ H => m = n - i ∧ i ≤ n ∧ Pv i σ H, ⟨n, by simp, Nat.zero_le _, h0⟩, ?_⟩
  rintro i m σ H ⟨rfl, hi, p⟩
  by_cases hlt : i < n
  · refine .inr ⟨hlt, Pv (i + 1), fun σ' H' p' => ⟨n - (i + 1), by omega, rfl, hlt, p'⟩, fun x H' y => ?_⟩
    obtain ⟨e, y⟩ := y
    subst e y
    exact hs i σ _ hlt p
  · have e : i = n := by omega
    subst e
    exact .inl ⟨Nat.le_refl _, hd σ H p⟩
end L2
namespace L2
open PySem PySem.Spec PyProof.Rows
noncomputable abbrev R2 := V → V → Hp → VK → Prop
noncomputable def OpR (X : Cx) (f : Value → Value → Sem Value) (r : R2) : Prop :=
  ∀ (pins : List (Addr × Obj)) (s : Shared) (σ : St) (H : Hp) (x y : V) (v u : Value) (Q : VK), Inv X pins σ H s → RelV x v → RelV y u → r x y H Q →
    wpAny (model X.prog X.w) X.A (f v u) (EP X pins σ Q) X.xe s
noncomputable def UnR (X : Cx) (f : Value → Sem Value) (r : V → Hp → VK → Prop) : Prop :=
  ∀ (pins : List (Addr × Obj)) (s : Shared) (σ : St) (H : Hp) (x : V) (v : Value) (Q : VK), Inv X pins σ H s → RelV x v → r x H Q →
    wpAny (model X.prog X.w) X.A (f v) (EP X pins σ Q) X.xe s
noncomputable def CallR (X : Cx) (f : Value) (r : List V → Hp → VK → Prop) : Prop :=
  ∀ (pins : List (Addr × Obj)) (s : Shared) (σ : St) (H : Hp) (xs : List V) (us : List Value) (Q : VK), Inv X pins σ H s → Vals xs us → r xs H Q →
    wpAny (model X.prog X.w) X.A (call f us) (EP X pins σ Q) X.xe s
noncomputable def tOp (r : R2) (ta tb : TE) : TE := fun σ H Q => ta σ H fun x H1 => tb σ H1 fun y H2 => r x y H2 Q
noncomputable def tUn (r : V → Hp → VK → Prop) (ta : TE) : TE := fun σ H Q => ta σ H fun x H1 => r x H1 Q
noncomputable def rI (C : Int → Int → Prop) (g : Int → Int → V) : R2 := fun x y H Q => ∃ i j, x = .int i ∧ y = .int j ∧ C i j ∧ Q (g i j) H
noncomputable def rI0 (g : Int → Int → V) : R2 := fun x y H Q => ∃ i j, x = .int i ∧ y = .int j ∧ Q (g i j) H
noncomputable def rU (g : Int → V) : V → Hp → VK → Prop := fun x H Q => ∃ i, x = .int i ∧ Q (g i) H
section
variable {X : Cx} {a b c : Expr} {ta tb tc : TE} {pos : Pos}
theorem binT (ha : PE X a ta) (hb : PE X b tb) {pins : List (Addr × Obj)} {s : Shared} {σ : St} {H : Hp} {R : V → V → Hp → Prop} (I : Inv X pins σ H s)
    (h : ta σ H fun x H1 => tb σ H1 fun y H2 => R x y H2) {Q : Value → Shared → Prop} {f : Value → Value → Sem Value}
    (hf : ∀ v u s2 x y H2, Inv X pins σ H2 s2 → RelV x v → RelV y u → R x y H2 → wpAny (model X.prog X.w) X.A (f v u) Q X.xe s2) :
    wpAny (model X.prog X.w) X.A (eval a X.env) (fun v s₁ => wpAny (model X.prog X.w) X.A (eval b X.env) (fun u s₂ => wpAny (model X.prog X.w) X.A (f v u) Q X.xe s₂) X.xe s₁) X.xe s := by
  refine thn (ha pins s σ H _ I h) fun v s1 ⟨x, H1, I1, r1, q1⟩ => ?_
  refine thn (hb pins s1 σ H1 _ I1 q1) fun u s2 ⟨y, H2, I2, r2, q2⟩ => ?_
  exact hf v u s2 x y H2 I2 r1 r2 q2
theorem pe_op {op : Operator} {r : R2} (ho : OpR X (binaryOp op) r) (ha : PE X a ta) (hb : PE X b tb) : PE X (.BinOp a op b pos) (tOp r ta tb) := by
  intro pins s σ H Q I h
  exact wpAny_BinOp (binT ha hb I h fun v u s2 x y H2 I2 rx ry q => ho pins s2 σ H2 x y v u Q I2 rx ry q)
theorem pe_un {op : UnaryOp} {r : V → Hp → VK → Prop} (ho : UnR X (unaryOp op) r) (ha : PE X a ta) : PE X (.UnaryOp op a pos) (tUn r ta) := by
  intro pins s σ H Q I h
  exact UnaryOp_ (thn (ha pins s σ H _ I h) fun v s1 ⟨x, H1, I1, r1, q1⟩ => ho pins s1 σ H1 x v Q I1 r1 q1)
theorem opI {f : Value → Value → Sem Value} {C : Int → Int → Prop} {g : Int → Int → Int}
    (rule : ∀ (i j : Int) (t u : Tok) (s : Shared) (Q : Value → Shared → Prop) (E : Value → Shared → Prop), C i j → Q (.int (g i j) s.toks) { s with toks := s.toks + 1 } → wpAny (model X.prog X.w) X.A (f (.int i t) (.int j u)) Q E s) :
    OpR X f (rI C fun i j => .int (g i j)) := by
  intro pins s σ H x y v u Q I rx ry h
  obtain ⟨i, j, rfl, rfl, hc, q⟩ := h
  obtain ⟨t, rfl⟩ := rx
  obtain ⟨t', rfl⟩ := ry
  exact rule i j t t' s _ _ hc ⟨.int (g i j), H, I.tok _, ⟨_, rfl⟩, q⟩
theorem opI0 {f : Value → Value → Sem Value} {g : Int → Int → Int}
    (rule : ∀ (i j : Int) (t u : Tok) (s : Shared) (Q : Value → Shared → Prop) (E : Value → Shared → Prop), Q (.int (g i j) s.toks) { s with toks := s.toks + 1 } → wpAny (model X.prog X.w) X.A (f (.int i t) (.int j u)) Q E s) :
    OpR X f (rI0 fun i j => .int (g i j)) := by
  intro pins s σ H x y v u Q I rx ry h
  obtain ⟨i, j, rfl, rfl, q⟩ := h
  obtain ⟨t, rfl⟩ := rx
  obtain ⟨t', rfl⟩ := ry
  exact rule i j t t' s _ _ ⟨.int (g i j), H, I.tok _, ⟨_, rfl⟩, q⟩
theorem opB0 {f : Value → Value → Sem Value} {g : Int → Int → Bool}
    (rule : ∀ (i j : Int) (t u : Tok) (s : Shared) (Q : Value → Shared → Prop) (E : Value → Shared → Prop), Q (.bool (g i j)) s → wpAny (model X.prog X.w) X.A (f (.int i t) (.int j u)) Q E s) :
    OpR X f (rI0 fun i j => .bl (g i j)) := by
  intro pins s σ H x y v u Q I rx ry h
  obtain ⟨i, j, rfl, rfl, q⟩ := h
  obtain ⟨t, rfl⟩ := rx
  obtain ⟨t', rfl⟩ := ry
  exact rule i j t t' s _ _ ⟨.bl (g i j), H, I, rfl, q⟩
noncomputable def CDiv (i j : Int) : Prop := 0 < j ∧ j < 1073741824
noncomputable def CPow (i j : Int) : Prop := 0 ≤ j ∧ j ≤ 1000000 ∧ i.natAbs < 2 ^ 64
noncomputable def CMul (i j : Int) : Prop := (-(2 ^ 64) < i ∧ i < 2 ^ 64) ∨ (-(2 ^ 64) < j ∧ j < 2 ^ 64)
theorem CMul.ok {i j : Int} (h : CMul i j) : IntMulOk i j := by
  rcases h with ⟨h1, h2⟩ | ⟨h1, h2⟩
  · exact .of_left (intBits_le_64 h1 h2)
  · exact .of_right (intBits_le_64 h1 h2)
theorem op_add : OpR X (binaryOp .Add) (rI0 fun i j => .int (i + j)) := opI0 fun _ _ _ _ _ _ _ q => add_int q
theorem op_sub : OpR X (binaryOp .Sub) (rI0 fun i j => .int (i - j)) := opI0 fun _ _ _ _ _ _ _ q => sub_int q
theorem op_mul : OpR X (binaryOp .Mult) (rI CMul fun i j => .int (i * j)) := opI fun _ _ _ _ _ _ _ hc q => mul_int q hc.ok
theorem op_fdiv : OpR X (binaryOp .FloorDiv) (rI CDiv fun i j => .int (i / j)) := opI fun i j _ _ _ _ _ hc q => by
  have h1 : (0 : Int) < j := hc.1
  have h2 : j < 1073741824 := hc.2
  exact floordiv_int (by omega) (by rw [Int.fdiv_eq_ediv_of_nonneg i (by omega)]; exact q) (.inl (PyProof.noPylong_small (by omega)))
theorem op_mod : OpR X (binaryOp .Mod) (rI (fun _ j => 0 < j) fun i j => .int (i % j)) := opI fun i j _ _ _ _ _ hc q => by
  have h1 : (0 : Int) < j := hc
  exact mod_int' (by omega) (by rw [Int.fmod_eq_emod_of_nonneg i (by omega)]; exact q)
theorem op_pow : OpR X (binaryOp .Pow) (rI CPow fun i j => .int (i ^ j.toNat)) := opI fun _ _ _ _ _ _ _ hc q => pow_int_small hc.1 hc.2.1 hc.2.2 q
theorem op_and : OpR X (binaryOp .BitAnd) (rI0 fun i j => .int (Builtin.bitAnd i j)) := opI0 fun _ _ _ _ _ _ _ q => and_int q
theorem unI {f : Value → Sem Value} {g : Int → Int}
    (rule : ∀ (i : Int) (t : Tok) (s : Shared) (Q : Value → Shared → Prop) (E : Value → Shared → Prop), Q (.int (g i) s.toks) { s with toks := s.toks + 1 } → wpAny (model X.prog X.w) X.A (f (.int i t)) Q E s) :
    UnR X f (rU fun i => .int (g i)) := by
  intro pins s σ H x v Q I rx h
  obtain ⟨i, rfl, q⟩ := h
  obtain ⟨t, rfl⟩ := rx
  exact rule i t s _ _ ⟨.int (g i), H, I.tok _, ⟨_, rfl⟩, q⟩
theorem un_neg : UnR X (unaryOp .USub) (rU fun i => .int (-i)) := unI fun _ _ _ _ _ q => neg_int q
end
noncomputable def scal : V → V → Bool
  | .non, .non => true | .non, .int _ => true | .int _, .non => true | .non, .bl _ => true | .bl _, .non => true | .non, .str _ => true | .str _, .non => true
  | .int _, .int _ => true | .bl _, .bl _ => true | .str _, .str _ => true | .byt _, .byt _ => true
  | .int _, .str _ => true | .str _, .int _ => true | .bl _, .str _ => true | .str _, .bl _ => true
  | _, _ => false
noncomputable def rEq : R2 := fun x y H Q => scal x y = true ∧ Q (.bl (decide (x = y))) H
noncomputable def rNe : R2 := fun x y H Q => scal x y = true ∧ Q (.bl (!decide (x = y))) H
section
variable {X : Cx} {a b c : Expr} {ta tb tc : TE} {pos : Pos}
theorem op_lt : OpR X (compareOp .Lt) (rI0 fun i j => .bl (decide (i < j))) := opB0 fun _ _ _ _ _ _ _ q => lt_int q
theorem op_le : OpR X (compareOp .LtE) (rI0 fun i j => .bl (decide (i ≤ j))) := opB0 fun _ _ _ _ _ _ _ q => le_int q
theorem op_gt : OpR X (compareOp .Gt) (rI0 fun i j => .bl (decide (j < i))) := opB0 fun _ _ _ _ _ _ _ q => gt_int q
theorem op_ge : OpR X (compareOp .GtE) (rI0 fun i j => .bl (decide (j ≤ i))) := opB0 fun _ _ _ _ _ _ _ q => ge_int q
theorem OpR.or {f : Value → Value → Sem Value} {r r' : R2} (h : OpR X f r) (h' : OpR X f r') : OpR X f (fun x y H Q => r x y H Q ∨ r' x y H Q) := by
  intro pins s σ H x y v u Q I rx ry q
  rcases q with q | q
  · exact h pins s σ H x y v u Q I rx ry q
  · exact h' pins s σ H x y v u Q I rx ry q
theorem nomark (b : Expr) {op : CmpOp} (h : op ≠ .In := by decide) (h2 : op ≠ .NotIn := by decide) : behindInMarks op b = false := by
  have e1 : (op == CmpOp.In) = false := by cases op <;> first | rfl | exact absurd rfl h
  have e2 : (op == CmpOp.NotIn) = false := by cases op <;> first | rfl | exact absurd rfl h2
  cases b <;> simp [behindInMarks, e1, e2]
theorem pe_cmpR {op : CmpOp} {r : R2} (ho : OpR X (compareOp op) r) (ha : PE X a ta) (hb : PE X b tb) (hm : behindInMarks op b = false) : PE X (.Compare a [op] [b] pos) (tOp r ta tb) := by
  intro pins s σ H Q I h
  exact wpAny_Compare1 (binT ha hb I h fun v u s2 x y H2 I2 rx ry q => ho pins s2 σ H2 x y v u Q I2 rx ry q) hm
noncomputable def tTest (t : TE) : TT := fun σ H Q => t σ H fun x H' => ∃ k, x = .bl k ∧ Q k H'
theorem pt_cmpR {op : CmpOp} {r : R2} (ho : OpR X (compareOp op) r) (ha : PE X a ta) (hb : PE X b tb) (hm : behindInMarks op b = false) : PT X (.Compare a [op] [b] pos) (tTest (tOp r ta tb)) := by
  intro pins s σ H Q I h
  refine wpAny_isTrue_Compare1 (thn (ha pins s σ H _ I h) fun v s1 ⟨x, H1, I1, r1, q1⟩ => thn (hb pins s1 σ H1 _ I1 q1) fun u s2 ⟨y, H2, I2, r2, q2⟩ =>
    thn (ho pins s2 σ H2 x y v u _ I2 r1 r2 q2) fun c s3 ⟨z, H3, I3, r3, k, e, q3⟩ => ?_) hm
  subst e
  cases r3
  exact wpAny_truthy_bool ⟨H3, I3, q3⟩
noncomputable def tChain (r r' : R2) (ta tb tc : TE) : TE := fun σ H Q => ta σ H fun x H1 => tb σ H1 fun y H2 => r x y H2 fun z H3 => ∃ k, z = .bl k ∧
  (if k = true then tc σ H3 fun w' H4 => r' y w' H4 Q else Q (.bl false) H3)
theorem pe_chain {op op' : CmpOp} {r r' : R2} (ho : OpR X (compareOp op) r) (ho' : OpR X (compareOp op') r') (ha : PE X a ta) (hb : PE X b tb) (hc : PE X c tc)
    (hm : lastMarks [op, op'] [b, c] = false := by with_unfolding_all rfl) : PE X (.Compare a [op, op'] [b, c] pos) (tChain r r' ta tb tc) := by
  intro pins s σ H Q I h
  refine Compare_chain (thn (ha pins s σ H _ I h) fun v s1 ⟨x, H1, I1, r1, q1⟩ => chain_link (thn (hb pins s1 σ H1 _ I1 q1) fun u s2 ⟨y, H2, I2, r2, q2⟩ =>
    thn (ho pins s2 σ H2 x y v u _ I2 r1 r2 q2) fun d s3 ⟨z, H3, I3, r3, k, e, q3⟩ => ?_)) hm
  subst e
  cases r3
  refine wpAny_truthy_bool ?_
  cases k with
  | false => exact ite_ff ⟨.bl false, H3, I3, rfl, q3⟩
  | true => exact ite_tt (chain_last (thn (hc pins s3 σ H3 _ I3 q3) fun w' s4 ⟨z', H4, I4, r4, q4⟩ => ho' pins s4 σ H4 y z' u w' Q I4 r2 r4 q4))
theorem line63 : (sizeLine : Nat) < 2 ^ 63 := by rw [sizeLine_eq]; decide
theorem op_add_str : OpR X (binaryOp .Add) (fun x y H Q => ∃ i j, x = .str i ∧ y = .str j ∧ i.length + j.length ≤ sizeLine ∧ Q (.str (i ++ j)) H) := by
  intro pins s σ H x y v u Q I rx ry h
  obtain ⟨i, j, rfl, rfl, hz, q⟩ := h
  obtain ⟨t, rfl⟩ := rx
  obtain ⟨t', rfl⟩ := ry
  exact add_str (fun t' tk => ⟨.str (i ++ j), H, I.tok _, ⟨_, rfl⟩, q⟩) hz
theorem vals1 {x : V} {us : List Value} (r : Vals [x] us) : ∃ u, us = [u] ∧ RelV x u := by
  cases r with
  | cons r1 r2 => cases r2; exact ⟨_, rfl, r1⟩
theorem vals2 {x y : V} {us : List Value} (r : Vals [x, y] us) : ∃ u w', us = [u, w'] ∧ RelV x u ∧ RelV y w' := by
  cases r with
  | cons r1 r2 =>
    cases r2 with
    | cons r3 r4 => cases r4; exact ⟨_, _, rfl, r1, r3⟩
theorem call_abs : CallR X (.builtin "abs") (fun xs H Q => ∃ i, xs = [.int i] ∧ Q (.int (if i < 0 then -i else i)) H) := by
  intro pins s σ H xs us Q I r h
  obtain ⟨i, rfl, q⟩ := h
  obtain ⟨u, rfl, t, rfl⟩ := vals1 r
  exact call_abs_int fun u tk => ⟨.int (if i < 0 then -i else i), H, I.tok _, ⟨_, rfl⟩, q⟩
theorem call_max2 (hc : X.calm = true) : CallR X (.builtin "max") (fun xs H Q => ∃ i j, xs = [.int i, .int j] ∧ Q (.int (if j > i then j else i)) H) := by
  intro pins s σ H xs us Q I r h
  obtain ⟨i, j, rfl, q⟩ := h
  obtain ⟨u, w', rfl, ⟨t, rfl⟩, ⟨t', rfl⟩⟩ := vals2 r
  refine max_two_ints (I.ok.hd hc) fun h' tk k => ⟨_, H, I.kept k, ?_, q⟩
  by_cases hj : j > i
  · rw [if_pos hj, if_pos hj]; exact ⟨_, rfl⟩
  · rw [if_neg hj, if_neg hj]; exact ⟨_, rfl⟩
theorem call_min2 (hc : X.calm = true) : CallR X (.builtin "min") (fun xs H Q => ∃ i j, xs = [.int i, .int j] ∧ Q (.int (if j < i then j else i)) H) := by
  intro pins s σ H xs us Q I r h
  obtain ⟨i, j, rfl, q⟩ := h
  obtain ⟨u, w', rfl, ⟨t, rfl⟩, ⟨t', rfl⟩⟩ := vals2 r
  refine min_two_ints (I.ok.hd hc) fun h' tk k => ⟨_, H, I.kept k, ?_, q⟩
  by_cases hj : j < i
  · rw [if_pos hj, if_pos hj]; exact ⟨_, rfl⟩
  · rw [if_neg hj, if_neg hj]; exact ⟨_, rfl⟩
theorem call_int1 : CallR X (.type "int") (fun xs H Q => (∃ i, xs = [.int i] ∧ Q (.int i) H) ∨ ∃ k, xs = [.bl k] ∧ Q (.int (if k then 1 else 0)) H) := by
  intro pins s σ H xs us Q I r h
  rcases h with ⟨i, rfl, q⟩ | ⟨k, rfl, q⟩
  · obtain ⟨u, rfl, t, rfl⟩ := vals1 r
    exact call_int_int ⟨.int i, H, I, ⟨_, rfl⟩, q⟩
  · obtain ⟨u, rfl, r1⟩ := vals1 r
    cases r1
    exact call_int_bool ⟨.int (if k then 1 else 0), H, I.tok _, ⟨_, rfl⟩, q⟩
noncomputable def LenV (K : PySem.W.Frag) (x : V) (H : Hp) (n : Nat) : Prop :=
  match x with
  | .str y => y.length ≤ sizeLine ∧ n = y.length
  | .byt y => y.size ≤ sizeLine ∧ n = y.size
  | .ref p => (∃ xs, SqL K H p xs ∧ n = xs.length) ∨ ∃ xs, SqT K H p xs ∧ n = xs.length
  | _ => False
theorem call_len : CallR X (.builtin "len") (fun xs H Q => ∃ x n, xs = [x] ∧ LenV X.K x H n ∧ Q (.int n) H) := by
  intro pins s σ H xs us Q I r h
  obtain ⟨x, n, rfl, e, q⟩ := h
  obtain ⟨u, rfl, rx⟩ := vals1 r
  have hl := line63
  have hs : sizeLine = 16777216 := sizeLine_eq
  cases x with
  | str y =>
    obtain ⟨t, rfl⟩ := rx
    obtain ⟨hy, e'⟩ : y.length ≤ sizeLine ∧ n = y.length := e
    subst e'
    exact len_str (by omega) ⟨.int _, H, I.tok _, ⟨_, rfl⟩, q⟩
  | byt y =>
    obtain ⟨t, rfl⟩ := rx
    obtain ⟨hy, e'⟩ : y.size ≤ sizeLine ∧ n = y.size := e
    subst e'
    exact PySem.W.len_bytes (by omega) ⟨.int _, H, I.tok _, ⟨_, rfl⟩, q⟩
  | ref p =>
    cases rx
    have e' : (∃ xs, SqL X.K H p xs ∧ n = xs.length) ∨ ∃ xs, SqT X.K H p xs ∧ n = xs.length := e
    rcases e' with ⟨xs, hx, e'⟩ | ⟨xs, hx, e'⟩
    · subst e'
      obtain ⟨its, r', pl, hz⟩ := I.list hx
      have hlen := r'.length
      exact Calls.call_len_list pl.isList (by simp only [List.size_toArray]; omega) ⟨.int xs.length, H, I.tok _, ⟨_, by simp only [List.size_toArray]; rw [hlen]⟩, q⟩
    · subst e'
      obtain ⟨its, r', pl, hz⟩ := I.tuple hx
      have hlen := r'.length
      exact len_tuple pl (by simp only [List.size_toArray]; omega) ⟨.int xs.length, H, I.tok _, ⟨_, by simp only [List.size_toArray]; rw [hlen]⟩, q⟩
  | _ => exact (show False from e).elim
end
end L2
namespace L2
open PySem PySem.Spec PyProof.Rows
structure ObjM (h : Heap) (x dx C : Addr) (mA : Str → Option Value) : Prop where
  obj : h.get? x = some (PySem.W.instObj C dx)
  ns : h.Ns1 dx mA
  ne : dx ≠ x
theorem lookIn_ns {h : Heap} {dx : Addr} {mA : Str → Option Value} (n : h.Ns1 dx mA) : ∃ od, h.get? dx = some od ∧ ∀ name, PySem.W.lookIn name od = some (mA name) := by
  obtain ⟨o, es, ep, ho, hd, hk, _, hm⟩ := n
  refine ⟨o, ho, fun name => ?_⟩
  have e := hm name
  unfold nsFind findBy at e
  rw [← Array.find?_toList] at e
  unfold PySem.W.lookIn
  rw [hd]
  dsimp only
  split
  · rename_i y q
    rw [q] at e
    exact congrArg some e
  · rename_i q
    rw [q] at e
    have a : es.toList.any (·.refKey) = false := by
      rw [List.any_eq_false]
      intro y hy
      obtain ⟨z, t, hkey⟩ := hk y (Array.mem_toList_iff.mp hy)
      simp [DictEntry.refKey, hkey]
    have a' : ¬ es.toList.any (·.refKey) = true := by rw [a]; exact Bool.false_ne_true
    rw [if_neg a']
    exact congrArg some e
theorem ObjM.look {h : Heap} {x dx C : Addr} {mA : Str → Option Value} (I : ObjM h x dx C mA) : ∃ od, PySem.W.InstAt h x (PySem.W.instObj C dx) C (some od) ∧ ∀ name, PySem.W.lookIn name od = some (mA name) :=
  let ⟨od, ho, hl⟩ := lookIn_ns I.ns
  ⟨od, ⟨I.obj, rfl, rfl, ho⟩, hl⟩
section
variable {P : Program} {w : World} {H H' : Hp} {h h' : Heap} {a C dx : Addr} {fs fs' : List (Str × V)}
theorem ins_get (hok : HOk P w H h) (e : H a = some (.ins C dx fs)) : ∃ mA, ObjM h a dx C mA ∧ (∀ f, RelO (fs.lookup f) (mA f)) ∧ PySem.Within mA (fs.map (·.1)) ∧ fs.length ≤ 1000 ∧ H dx = some (.own a) := by
  obtain ⟨d, z, ne, ob, mA, n, r, q⟩ := (show ObjOk P w H h a (.ins C dx fs) from hok a _ e)
  exact ⟨mA, ⟨ob, n, ne⟩, r, q, z, d⟩
end
structure Cls (K : PySem.W.Frag) (C : Addr) : Prop where
  pg : PySem.W.plainGet K C Str.empty = true
  hd : PySem.W.hasDictIn K C = true
  po : PySem.W.plainOver K C = true
  sa : PySem.W.findIn K (.ref C) "__setattr__" = some (some (.builtin "object.__setattr__"))
theorem Cls.get {K : PySem.W.Frag} {C : Addr} (c : Cls K C) (f : Str) : PySem.W.plainGet K C f = true := c.pg
structure Con (K : PySem.W.Frag) (C : Addr) (f : Str) (v : V) (u : Value) : Prop where
  at_ : PySem.W.findIn K (.ref C) f = some (some u)
  rel : RelV v u
  get : PySem.W.specialIn K u "__get__" = some none
  cp : PySem.W.copiedNames.contains f = false
structure Meth (K : PySem.W.Frag) (C : Addr) (m : Str) (f : Addr) : Prop where
  at_ : PySem.W.findIn K (.ref C) m = some (some (.ref f))
  fn : PySem.W.isFn K (.ref f) = true
  kp : PySem.W.keepIn K (.ref f) = true
section
variable {X : Cx} {o e value : Expr} {f : Str} {pos pos' tpos : Pos} {ta tv : TE}
noncomputable def rAdd : V → V → Hp → VK → Prop := fun x y H Q => ∃ i j, x = .int i ∧ y = .int j ∧ Q (.int (i + j)) H
noncomputable def rSub : V → V → Hp → VK → Prop := fun x y H Q => ∃ i j, x = .int i ∧ y = .int j ∧ Q (.int (i - j)) H
end
section
variable {X : Cx} {pins : List (Addr × Obj)} {σ : St} {H : Hp} {s : Shared} {A : Around} {E : Value → Shared → Prop} {Q : Value → Shared → Prop} {c : Value} {b : Bool}
inductive TyOf (K : PySem.W.Frag) (H : Hp) : V → Value → Prop where
  | non : TyOf K H .non (.type "NoneType")
  | bl (x : Bool) : TyOf K H (.bl x) (.type "bool")
  | int (i : Int) : TyOf K H (.int i) (.type "int")
  | str (x : Str) : TyOf K H (.str x) (.type "str")
  | flt (x : UInt64) : TyOf K H (.flt x) (.type "float")
  | lst {a : Addr} {xs : List V} (e : H a = some (.lst xs)) : TyOf K H (.ref a) (.type "list")
  | frz {a : Addr} {o : Obj} {xs : List V} (e : H a = some (.frz o (.lst xs))) : TyOf K H (.ref a) (.type "list")
  | tup {a : Addr} {xs : List V} (e : H a = some (.tup xs)) : TyOf K H (.ref a) (.type "tuple")
  | dK {a : Addr} {kvs : List (Key × V)} (e : H a = some (.dK kvs)) : TyOf K H (.ref a) (.type "dict")
  | dT {a : Addr} {kvs : List (List Key × V)} (e : H a = some (.dT kvs)) : TyOf K H (.ref a) (.type "dict")
  | ins {a C dx : Addr} {fs : List (Str × V)} (e : H a = some (.ins C dx fs)) (cl : Cls K C) (ha : PySem.W.findIn K (.ref C) "__class__" = some (some (.builtin "object.__class__")))
      (hn : PySem.W.specialIn K (.builtin "object.__class__") "__get__" = some (some (.builtin "getset_descriptor.__get__"))) (htk : PySem.W.takesIn K (.builtin "object.__class__") = some true)
      (hm : PySem.W.mroIn K C (.type "object") = some true) : TyOf K H (.ref a) (.ref C)
theorem isinst_ok {x : V} {u t : Value} (I : Inv X pins σ H s) (rx : RelV x u) (ty : TyOf X.K H x t) (e : PySem.W.kitOne X.K t c = some b) (h : ∀ tk, Q (.bool b) { s with toks := tk }) :
    wpAny (model X.prog X.w) A (call (.builtin "isinstance") [u, c]) Q E s := by
  cases ty with
  | non => cases (show u = Value.none from rx); exact PySem.W.kia_one PySem.W.kitx_none I.kIn True.intro e (fun z => nomatch z) h
  | bl y => cases (show u = Value.bool y from rx); exact PySem.W.kia_one PySem.W.kitx_bool I.kIn True.intro e (fun z => nomatch z) h
  | int i => obtain ⟨t, q⟩ := (show ∃ t, u = Value.int i t from rx); cases q; exact PySem.W.kia_one PySem.W.kitx_int I.kIn True.intro e (fun z => nomatch z) h
  | str y => obtain ⟨t, q⟩ := (show ∃ t, u = Value.str y t from rx); cases q; exact PySem.W.kia_one PySem.W.kitx_str I.kIn True.intro e (fun z => nomatch z) h
  | flt y => obtain ⟨t, q⟩ := (show ∃ t, u = Value.float y t from rx); cases q; exact PySem.W.kia_one PySem.W.kitx_float I.kIn True.intro e (fun z => nomatch z) h
  | @lst a xs ea =>
    cases (show u = Value.ref a from rx)
    obtain ⟨_, _, n, _, h1⟩ := (show ObjOk X.prog X.w H s.heap a (.lst xs) from I.hok a _ ea)
    exact PySem.W.kia_one PySem.W.kitx_list I.kIn ⟨_, h1, rfl⟩ e (fun z => nomatch z) h
  | @frz a ob xs ea =>
    cases (show u = Value.ref a from rx)
    obtain ⟨_, _, _, n, _, h1⟩ := (show ObjOk X.prog X.w H s.heap a (.frz ob (.lst xs)) from I.hok a _ ea)
    exact PySem.W.kia_one PySem.W.kitx_list I.kIn ⟨_, h1, rfl⟩ e (fun z => nomatch z) h
  | @tup a xs ea =>
    cases (show u = Value.ref a from rx)
    obtain ⟨_, _, _, p⟩ := (show ObjOk X.prog X.w H s.heap a (.tup xs) from I.hok a _ ea)
    obtain ⟨o, h1, h2, _⟩ := p
    exact PySem.W.kia_one PySem.W.kitx_tuple I.kIn ⟨o, h1, h2⟩ e (fun z => nomatch z) h
  | @dK a kvs ea =>
    cases (show u = Value.ref a from rx)
    obtain ⟨_, _, vs, _, p⟩ := (show ObjOk X.prog X.w H s.heap a (.dK kvs) from I.hok a _ ea)
    obtain ⟨o, es, ep, h1, h2, _⟩ := p
    exact PySem.W.kia_one PySem.W.kitx_dict I.kIn ⟨o, h1, h2.1⟩ e (fun z => nomatch z) h
  | @dT a kvs ea =>
    cases (show u = Value.ref a from rx)
    obtain ⟨_, _, xs, _, o, es, ep, h1, h2, _⟩ := (show ObjOk X.prog X.w H s.heap a (.dT kvs) from I.hok a _ ea)
    exact PySem.W.kia_one PySem.W.kitx_dict I.kIn ⟨o, h1, h2.1⟩ e (fun z => nomatch z) h
  | @ins a C dx fs ea cl ha hn htk hm =>
    cases (show u = Value.ref a from rx)
    obtain ⟨mA, O, _⟩ := ins_get I.hok ea
    obtain ⟨od, J, _⟩ := O.look
    exact PySem.W.kia_one (PySem.W.kitx_own (cl.get _) cl.hd ha hn htk hm) I.kIn J e (fun z => nomatch z) h
end
end L2
namespace L2
open PySem PySem.Spec PyProof.Rows
structure Room (k : Nat) (A : Around) : Prop where
  hd : A.handled = none
  dp : A.depth + 3 * k + 5 < recursionLimit
  un : A.units + 16 * k + 200 < cLine
theorem Room.mono {j k : Nat} {A : Around} (r : Room k A) (h : j ≤ k) : Room j A := ⟨r.hd, by have := r.dp; omega, by have := r.un; omega⟩
theorem Room.deeper {k : Nat} {A : Around} (r : Room (k + 1) A) (env : Env) : Room k (A.deeper env) :=
  ⟨r.hd, by have := r.dp; show A.depth + 1 + 3 * k + 5 < _; omega, by have := r.un; show A.units + 3 + 16 * k + 200 < _; omega⟩
theorem Room.in1 {k : Nat} {A : Around} (r : Room (k + 1) A) : Room k A.in1 :=
  ⟨r.hd, by have := r.dp; show A.depth + 3 * k + 5 < _; omega, by have := r.un; show A.units + 1 + 16 * k + 200 < _; omega⟩
theorem Room.depth {k : Nat} {A : Around} (r : Room k A) : A.depth < recursionLimit := by have := r.dp; omega
theorem Room.units {k : Nat} {A : Around} (r : Room k A) : A.units + 64 < cLine := by have := r.un; omega
noncomputable def tNil : TA := fun _ H Q => Q [] H
noncomputable def tCons (ta : TE) (tr : TA) : TA := fun σ H Q => ta σ H fun x H1 => tr σ H1 fun xs H2 => Q (x :: xs) H2
section
variable {X : Cx} {e : Expr} {es : List Expr} {te : TE} {t : TA} {pos : Pos}
theorem pa_nil : PA X [] tNil := fun _ _ _ _ H Q I h => Calls.spliced_nil ⟨[], H, I, .nil, h⟩
theorem pa_cons (ha : PE X e te) (hr : PA X es t) (hs : starEach (e :: es) X.env = (false, eval e X.env) :: starEach es X.env := by rfl) : PA X (e :: es) (tCons te t) := by
  intro pos pins s σ H Q I h
  rw [hs]
  show wpAny _ _ (spliced ((false, eval e X.env) :: backTo pos (starEach es X.env))) _ _ s
  refine Calls.spliced_cons (thn (ha pins s σ H _ I h) fun u s1 ⟨x, H1, I1, r1, q1⟩ => ?_)
  exact thn (hr pos pins s1 σ H1 _ I1 q1) fun us s2 ⟨xs, H2, I2, r2, q2⟩ => ⟨x :: xs, H2, I2, .cons r1 r2, q2⟩
noncomputable def tTup (t : TA) : TE := fun σ H Q => t σ H fun xs H1 => xs.length ≤ sizeLine ∧ ∀ p, H1 p = none → Q (.ref p) (upd H1 p (.tup xs))
noncomputable def tLst (t : TA) : TE := fun σ H Q => t σ H fun xs H1 => xs.length ≤ sizeLine ∧ ∀ p, H1 p = none → Q (.ref p) (upd H1 p (.lst xs))
theorem pe_tup {x1} (h : PA X es t) : PE X (.Tuple es x1 pos) (tTup t) := by
  intro pins s σ H Q I hq
  refine wpAny_Tuple_spliced (thn (h pos pins s σ H _ I hq) fun us s1 ⟨xs, H1, I1, r, z, q⟩ => ⟨by rw [← r.length]; exact z, ?_⟩)
  have hf : H1 s1.heap.objs.size = none := I1.hok.fresh (Nat.le_refl _)
  refine ⟨.ref s1.heap.objs.size, upd H1 s1.heap.objs.size (.tup xs), I1.laid (t' := s1.toks) (fun b u e => Heap.get?_push_of_some _ e) (Nat.le_refl _) ?_, rfl, q _ hf⟩
  exact ⟨z, us, r, ⟨_, Heap.get?_push_size _ rfl, rfl, _, rfl⟩⟩
theorem pe_lst (h : PA X es t) : PE X (.List es pos) (tLst t) := by
  intro pins s σ H Q I hq
  refine wpAny_List_spliced (thn (h pos pins s σ H _ I hq) fun us s1 ⟨xs, H1, I1, r, z, q⟩ => ⟨by rw [← r.length]; exact z, ?_⟩)
  have hf : H1 s1.heap.objs.size = none := I1.hok.fresh (Nat.le_refl _)
  refine ⟨.ref s1.heap.objs.size, upd H1 s1.heap.objs.size (.lst xs), I1.laid (t' := s1.toks) (fun b u e => Heap.get?_push_of_some _ e) (Nat.le_refl _) ?_, rfl, q _ hf⟩
  exact ⟨z, us, 0, r, Heap.get?_push_size _ rfl⟩
end
noncomputable abbrev Sp := List V → Hp → VK → XK → Prop
noncomputable abbrev CXT := List Env → Hp → Shared → XK → Value → Shared → Prop
structure Env0 (P : Program) (w : World) (K : PySem.W.Frag) (mg : Str → Option Value) (base : Heap) (A : Around) (outer : List Env) (s : Shared) (H : Hp) : Prop where
  frames : A.frames = some outer
  mod : Mod K mg base
  bs : ∀ b o, base.get? b = some o → s.heap.get? b = some o ∧ H b = none
  bsz : base.objs.size ≤ s.heap.objs.size
  funs : s.heap.FunFrames base outer
  frf : ∀ b ∈ frs outer, H b = none
  hok : HOk P w H s.heap
  bare : AllBare s.gens
noncomputable def CE (outer : List Env) (P : Program) (w : World) (H : Hp) (s : Shared) (Q : VK) (u : Value) (s' : Shared) : Prop :=
  ∃ v H', s'.os = s.os ∧ AllBare s'.gens ∧ Un (frs outer) [] H H' s.heap s'.heap ∧ HOk P w H' s'.heap ∧ RelV v u ∧ Q v H'
noncomputable def CR (CX : CXT) (outer : List Env) (P : Program) (w : World) (H : Hp) (s : Shared) (Q : VK) (E : XK) (r : Result) (s' : Shared) : Prop :=
  match r with
  | .ok (.ret u) => CE outer P w H s Q u s'
  | .ok _ => False
  | .error e => CX outer H s E e s'
structure FnOk (P : Program) (w : World) (K : PySem.W.Frag) (mg : Str → Option Value) (base : Heap) (CX : CXT) (k : Nat) (f : Addr) (fd : FuncData) (ps : List Str) (sp : Sp) : Prop where
  len : ∀ vs H Q E, sp vs H Q E → vs.length = ps.length
  run : ∀ (A : Around) (outer : List Env) (s : Shared) (H : Hp) (args : Args) (us : List Value) (vs : List V) (Q : VK) (E : XK), Room k A → Env0 P w K mg base A outer s H → BindsTo s fd args (ps.zip us) → Vals vs us → sp vs H Q E →
    codeAny (model P w) A (.call (.ref f) args) (CR CX outer P w H s Q E) s
theorem FnOk.mono {P : Program} {w : World} {K : PySem.W.Frag} {mg : Str → Option Value} {base : Heap} {CX : CXT} {j k : Nat} {f : Addr} {fd : FuncData} {ps : List Str} {sp : Sp} (F : FnOk P w K mg base CX j f fd ps sp) (h : j ≤ k) :
    FnOk P w K mg base CX k f fd ps sp := ⟨F.len, fun A outer s H args us vs Q E hr => F.run A outer s H args us vs Q E (hr.mono h)⟩
theorem FnOk.imp {P : Program} {w : World} {K : PySem.W.Frag} {mg : Str → Option Value} {base : Heap} {CX : CXT} {k : Nat} {f : Addr} {fd : FuncData} {ps : List Str} {sp sp' : Sp} (F : FnOk P w K mg base CX k f fd ps sp)
    (h : ∀ vs H Q E, sp' vs H Q E → sp vs H Q E) : FnOk P w K mg base CX k f fd ps sp' :=
  ⟨fun vs H Q E q => F.len vs H Q E (h _ _ _ _ q), fun A outer s H args us vs Q E hr he hb hv hs => F.run A outer s H args us vs Q E hr he hb hv (h _ _ _ _ hs)⟩
theorem Env0.in1 {P : Program} {w : World} {K : PySem.W.Frag} {mg : Str → Option Value} {base : Heap} {A : Around} {outer : List Env} {s : Shared} {H : Hp} (e : Env0 P w K mg base A outer s H) :
    Env0 P w K mg base A.in1 outer s H := ⟨e.frames, e.mod, e.bs, e.bsz, e.funs, e.frf, e.hok, e.bare⟩
section
variable {X : Cx} {pins : List (Addr × Obj)} {σ : St} {H : Hp} {s s' : Shared}
theorem Inv.env0 (I : Inv X pins σ H s) : Env0 X.prog X.w X.K X.mg X.base X.A X.stack s H :=
  ⟨I.ok.frames, I.ok.mod, I.bs, Nat.le_trans I.ok.bsz I.sz, I.stack, I.stkFree, I.hok, I.bare⟩
theorem Inv.after {Q : VK} {u : Value} (I : Inv X pins σ H s) (h : CE X.stack X.prog X.w H s Q u s') : EP X pins σ Q u s' := by
  obtain ⟨v, H', os, bare, un, hok, r, q⟩ := h
  obtain ⟨hh, g, d, t, os'⟩ := s'
  obtain rfl : os' = s.os := os
  exact ⟨v, H', I.call (h' := hh) (g' := g) (d' := d) (t' := t) (ch := []) un hok bare (fun b z => absurd z (by simp)), r, q⟩
end
noncomputable def tCall (sp : Sp) (dvs : List V) (E : XK) (t : TA) : TE := fun σ H Q => t σ H fun vs H1 => sp (vs ++ dvs) H1 Q E
noncomputable def Binds (K : PySem.W.Frag) (fd : FuncData) (ps : List Str) (ds : List Value) : Prop :=
  ∀ (s : Shared) (us : List Value), K.In s.heap → (us ++ ds).length = ps.length → BindsTo s fd ⟨us, []⟩ (ps.zip (us ++ ds))
theorem Binds.all {K : PySem.W.Frag} {fd : FuncData} {ps : List Str} (h : ∀ us : List Value, us.length = ps.length → bindArgs fd ⟨us, []⟩ = pure (ps.zip us)) : Binds K fd ps [] := fun s us _ hl => by
  rw [List.append_nil] at hl ⊢
  exact .of_eq (h us hl)
noncomputable def Passes (CX : CXT) (X : Cx) (E : XK) : Prop := ∀ (pins : List (Addr × Obj)) (σ : St) (H : Hp) (s : Shared) (e : Value) (s' : Shared), Inv X pins σ H s → CX X.stack H s E e s' → X.xe e s'
section
variable {X : Cx} {CX : CXT} {k : Nat} {f C : Addr} {fd : FuncData} {ps : List Str} {sp : Sp} {dvs : List V} {ds : List Value} {E : XK} {x m : Str} {p pos apos : Pos} {e o : Expr} {es : List Expr} {ta : TE} {t : TA}
theorem run_fn {pins : List (Addr × Obj)} {σ : St} {H : Hp} {s : Shared} {Q : VK} {us : List Value} {vs : List V} (F : FnOk X.prog X.w X.K X.mg X.base CX k f fd ps sp) (hr : Room k X.A) (hb : Binds X.K fd ps ds) (hd : Vals dvs ds) (hx : Passes CX X E)
    (I : Inv X pins σ H s) (r : Vals vs us) (h : sp (vs ++ dvs) H Q E) : wpAny (model X.prog X.w) X.A (call (.ref f) us) (EP X pins σ Q) X.xe s := by
  have r2 : Vals (vs ++ dvs) (us ++ ds) := r.append hd
  have hl : (us ++ ds).length = ps.length := by rw [← r2.length]; exact F.len _ _ _ _ h
  refine wpAny_call (codeAny_mono (F.run X.A X.stack s H ⟨us, []⟩ (us ++ ds) (vs ++ dvs) Q E hr I.env0 (hb s us I.kIn hl) r2 h) fun r s' hq => ?_)
  cases r with
  | error e => exact hx pins σ H s e s' I hq
  | ok fl =>
    cases fl with
    | ret u => exact I.after hq
    | next => exact False.elim hq
    | brk => exact False.elim hq
    | cont => exact False.elim hq
theorem pe_call (F : FnOk X.prog X.w X.K X.mg X.base CX k f fd ps sp) (hr : Room k X.A) (hg : Gl X x) (hm : X.mg x = some (.ref f)) (hk : PySem.W.keepIn X.K (.ref f) = true) (hb : Binds X.K fd ps ds) (hd : Vals dvs ds) (hx : Passes CX X E)
    (ha : PA X (e :: es) t) (hdb : (x == ("__debug__" : Str)) = false := by decide) (he : starEach (e :: es) X.env = (false, eval e X.env) :: starEach es X.env := by rfl) (hpl : (backTo pos (starEach es X.env)).any (·.1) = false := by rfl) :
    PE X (.Call (.Name x p) (e :: es) [] pos) (tCall sp dvs E t) := by
  intro pins s σ H Q I h
  refine wpAny_Call_Name_kw (ld_glob I hg hm ?_ hdb)
  refine PySem.W.callWith_K (h₀ := X.base) I.ok.mod.kin hk (thn (ha pos pins s σ H _ I h) fun us s1 ⟨vs, H1, I1, r, q⟩ => ⟨I1.kIn, ?_⟩) he hpl
  exact run_fn F hr hb hd hx I1 r q
structure Mk (K : PySem.W.Frag) (C f : Addr) : Prop where
  makes : PySem.W.makesIn K C = true
  init : PySem.W.findIn K (.ref C) "__init__" = some (some (.ref f))
  fn : PySem.W.isFn K (.ref f) = true
  kp : PySem.W.keepIn K (.ref C) = true
end
section
variable {X : Cx} {CX : CXT} {k : Nat} {f C : Addr} {fd : FuncData} {ps ks : List Str} {sp : Sp} {E : XK} {x m : Str} {p pos apos kpos : Pos} {e o : Expr} {es : List Expr} {kws : List Keyword} {te ta : TE} {t tk : TA} {nm : Option Str}
structure KBinds (K : PySem.W.Frag) (fd : FuncData) (ps ks : List Str) (g : List Value → List Value → List Value) (gV : List V → List V → List V) : Prop where
  to : ∀ (s : Shared) (us ws : List Value), K.In s.heap → (g us ws).length = ps.length → BindsTo s fd ⟨us, ks.zip ws⟩ (ps.zip (g us ws))
  rel : ∀ {vs : List V} {us : List Value} {zs : List V} {ws : List Value}, Vals vs us → Vals zs ws → Vals (gV vs zs) (g us ws)
variable {g : List Value → List Value → List Value} {gV : List V → List V → List V}
end
structure FnScope (N P : List Str) (sc : Scope) : Prop where
  kind : sc.kind = .function
  co : sc.isCoroutine = false
  gen : sc.isGenerator = false
  nd : N.Nodup
  pre : N.take P.length = P
  par : ∀ x ∈ P, sc.names.lookup x = some .local ∨ sc.names.lookup x = some .cell
  nofree : ∀ y ∈ sc.names, y.2 ≠ .free
theorem bindL_out {kindOf : Str → Option NameKind} {x : Str} : ∀ {binds : List (Str × Value)} {m : Str → Option Value}, (∀ v, (x, v) ∉ binds) → bindL kindOf binds m x = m x
  | [], _, _ => rfl
  | (n, v) :: r, m, h => by
    unfold bindL
    rw [bindL_out fun w hw => h w (List.mem_cons_of_mem _ hw)]
    split
    · have : x ≠ n := by rintro rfl; exact h v List.mem_cons_self
      simp [this]
    · rfl
theorem bindC_out {kindOf : Str → Option NameKind} {x : Str} : ∀ {binds : List (Str × Value)} {m : Str → Option Value}, (∀ v, (x, v) ∉ binds) → bindC kindOf binds m x = m x
  | [], _, _ => rfl
  | (n, v) :: r, m, h => by
    unfold bindC
    rw [bindC_out fun w hw => h w (List.mem_cons_of_mem _ hw)]
    split
    · rfl
    · have : x ≠ n := by rintro rfl; exact h v List.mem_cons_self
      simp [this]
theorem bindL_get {kindOf : Str → Option NameKind} {x : Str} {v : Value} : ∀ {P : List Str} {vs : List Value} {i : Nat} {m : Str → Option Value}, P.Nodup → P[i]? = some x → vs[i]? = some v → kindOf x = some .local →
    bindL kindOf (P.zip vs) m x = some v
  | [], _, _, _, _, h, _, _ => by simp at h
  | _ :: _, [], _, _, _, _, h, _ => by simp at h
  | p :: P, w :: vs, 0, m, nd, h1, h2, hk => by
    simp at h1 h2; subst h1; subst h2
    show bindL kindOf ((p, w) :: P.zip vs) m p = _
    unfold bindL
    rw [bindL_out fun v hv => (List.nodup_cons.mp nd).1 (List.of_mem_zip hv).1, if_pos hk]
    simp
  | p :: P, w :: vs, i + 1, m, nd, h1, h2, hk => by
    show bindL kindOf ((p, w) :: P.zip vs) m x = _
    unfold bindL
    exact bindL_get (i := i) (List.nodup_cons.mp nd).2 (by simpa using h1) (by simpa using h2) hk
theorem bindC_get {kindOf : Str → Option NameKind} {x : Str} {v : Value} : ∀ {P : List Str} {vs : List Value} {i : Nat} {m : Str → Option Value}, P.Nodup → P[i]? = some x → vs[i]? = some v → kindOf x ≠ some .local →
    bindC kindOf (P.zip vs) m x = some v
  | [], _, _, _, _, h, _, _ => by simp at h
  | _ :: _, [], _, _, _, _, h, _ => by simp at h
  | p :: P, w :: vs, 0, m, nd, h1, h2, hk => by
    simp at h1 h2; subst h1; subst h2
    show bindC kindOf ((p, w) :: P.zip vs) m p = _
    unfold bindC
    rw [bindC_out fun v hv => (List.nodup_cons.mp nd).1 (List.of_mem_zip hv).1, if_neg hk]
    simp
  | p :: P, w :: vs, i + 1, m, nd, h1, h2, hk => by
    show bindC kindOf ((p, w) :: P.zip vs) m x = _
    unfold bindC
    exact bindC_get (i := i) (List.nodup_cons.mp nd).2 (by simpa using h1) (by simpa using h2) hk
noncomputable def start (N : List Str) (vs : List V) : St := vs.map some ++ List.replicate (N.length - vs.length) none
noncomputable def cxOf (CX : CXT) (P : Program) (w : World) (K : PySem.W.Frag) (mg : Str → Option Value) (base : Heap) (N : List Str) (qual : Str) (scope : Scope) (f : Addr) (cd : Value) (A : Around) (outer : List Env) (s : Shared) (H : Hp) (E : XK) : Cx where
  prog := P
  w := w
  K := K
  mg := mg
  base := base
  A := A.deeper (envOfC qual scope s.heap.objs.size f cd)
  N := N
  s₀ := s
  H₀ := H
  env := envOfC qual scope s.heap.objs.size f cd
  outer := outer
  stack := envOfC qual scope s.heap.objs.size f cd :: outer
  ex := []
  calm := true
  fn := fun _ => true
  pn := []
  xe := fun e s' => wpAny (model P w) (A.deeper (envOfC qual scope s.heap.objs.size f cd)) (leaving (envOfC qual scope s.heap.objs.size f cd) e) (fun _ s'' => CX outer H s E e s'') (fun e' s'' => CX outer H s E e' s'') s'
theorem cell_has {sc : Scope} {n : Nat} {x : Str} (h : sc.names.lookup x = some .cell) : ∃ c, (cellsFrom n sc.names []).lookup x = some c := by
  have q := PySem.W.cellsFrom_some sc.names n [] (.inl h)
  exact Option.isSome_iff_exists.mp q
theorem inv_start {CX : CXT} {P : Program} {w : World} {K : PySem.W.Frag} {mg : Str → Option Value} {base : Heap} {N ps : List Str} {qual : Str} {scope : Scope} {f : Addr} {cd : Value} {A : Around} {outer : List Env} {s s1 : Shared} {H : Hp} {E : XK} {us : List Value} {vs : List V}
    (S : FnScope N ps scope) (hd : A.handled = none) (e0 : Env0 P w K mg base A outer s H) (hl : vs.length = ps.length) (r : Vals vs us)
    (x : InCallC s s.heap.objs.size (bindL (envOfC qual scope s.heap.objs.size f cd).kindOf (ps.zip us) fun _ => none) (cellsFrom (s.heap.objs.size + 1) scope.names []) (bindC (envOfC qual scope s.heap.objs.size f cd).kindOf (ps.zip us) fun _ => none) s1) :
    Inv (cxOf CX P w K mg base N qual scope f cd A outer s H E) [] (start N vs) H s1 := by
  have hpl : ps.length ≤ N.length := by have := congrArg List.length S.pre; rw [List.length_take] at this; omega
  obtain ⟨h1, tk, rfl, hk⟩ := x.done
  have noA : ∀ b : Addr, b ∉ (cxOf CX P w K mg base N qual scope f cd A outer s H E).ex := fun b z => absurd (show b ∈ ([] : List Addr) from z) (by simp)
  refine ⟨⟨e0.mod, S.kind, rfl, rfl, Nat.le_refl _, fun y z c h1 h2 => ?_, fun y hy => ?_, fun y c _ h => ?_, fun _ => hd, Around.frames_deeper e0.frames, .inr ⟨rfl, rfl⟩, fun b z => absurd z (noA b), e0.bs, e0.bsz, fun b _ _ => noA b, fun b z => absurd z (noA b), e0.funs, e0.frf⟩,
    rfl, e0.bare, Un.kept hk, ⟨_, x.toInCall.ns, fun i y v h1 h2 h3 => ?_⟩, fun y c h => ⟨_, x.cell y c h⟩, e0.hok.fresh (Nat.le_refl _), fun y c h => ?_, fun p hp => absurd (show p ∈ ([] : List (Addr × Obj)) from hp) (by simp), e0.hok.kept hk, ?_⟩
  · exact name_of_addr x.apart (PySem.mem_of_lookup h1) (PySem.mem_of_lookup h2)
  · have hy : scope.names.lookup y = some .cell ∨ scope.names.lookup y = some .free := hy
    rcases hy with hy | hy
    · exact cell_has hy
    · exact absurd rfl (S.nofree _ (PySem.mem_of_lookup hy))
  · exact Nat.le_of_lt (x.above y c (PySem.mem_of_lookup h))
  · have hi : i < vs.length := by
      unfold start at h2
      by_cases hi : i < vs.length
      · exact hi
      · rw [List.getElem?_append_right (by simpa using hi)] at h2
        rw [List.getElem?_replicate] at h2
        split at h2 <;> cases h2
    have ha : vs[i]? = some v := by
      unfold start at h2
      rw [List.getElem?_append_left (by simpa using hi), List.getElem?_map] at h2
      cases e : vs[i]? with
      | none => rw [e] at h2; cases h2
      | some a => rw [e] at h2; cases h2; rfl
    obtain ⟨u, hu, rv⟩ := r.get ha
    have hp : ps[i]? = some y := by
      rw [← S.pre, List.getElem?_take_of_lt (by omega)]; exact h1
    have ndP : ps.Nodup := by rw [← S.pre]; exact S.nd.sublist (List.take_sublist _ _)
    refine ⟨u, rv, ?_⟩
    rcases S.par y (List.mem_of_getElem? hp) with k | k
    · exact .inl ⟨k, bindL_get ndP hp hu k⟩
    · obtain ⟨c, e⟩ := cell_has (n := s.heap.objs.size + 1) k
      refine .inr ⟨.inl k, c, e, ?_⟩
      have q := x.cell y c e
      rw [bindC_get ndP hp hu (by show scope.names.lookup y ≠ _; rw [k]; decide)] at q
      exact q
  · exact e0.hok.fresh (Nat.le_of_lt (x.above y c (PySem.mem_of_lookup h)))
  · unfold start
    show _ = N.length
    rw [List.length_append, List.length_map, List.length_replicate]
    omega
theorem fn_of {CX : CXT} {P : Program} {w : World} {K : PySem.W.Frag} {mg : Str → Option Value} {base : Heap} {k : Nat} {f : Addr} {name qual : Str} {params : Arguments} {body : List Stmt} {scope : Scope} {dV kV doc pm cdv ct oc : Value} {an od : Option Addr}
    {osl : Array (Option Value)} {N ps : List Str} {sp : Sp} (lk : K.lookup f = some ⟨oc, od, .func (PySem.W.fnOf name qual params body scope dV kV doc pm an cdv ct), osl⟩) (hcd : PySem.W.codeIn K cdv qual = true) (S : FnScope N ps scope)
    (len : ∀ vs H Q E, sp vs H Q E → vs.length = ps.length)
    (hbody : ∀ (A : Around) (outer : List Env) (s : Shared) (H : Hp) (vs : List V) (Q : VK) (E : XK), Room k (A.deeper (envOfC qual scope s.heap.objs.size f cdv)) → sp vs H Q E →
      ∃ t, PSs (cxOf CX P w K mg base N qual scope f cdv A outer s H E) body t ∧ t { nx := fun _ H' => Q .non H', rt := Q } (start N vs) H) :
    FnOk P w K mg base CX (k + 1) f (PySem.W.fnOf name qual params body scope dV kV doc pm an cdv ct) ps sp := by
  refine ⟨len, fun A outer s H args us vs Q E hr e0 hb r hsp => ?_⟩
  have hl := len _ _ _ _ hsp
  have KX : K.In s.heap := e0.mod.kin.keeps fun b o e => (e0.bs b o e).1
  have lim : s.heap.NoLimit := e0.mod.nolimit.keeps fun b o e => (e0.bs b o e).1
  have hkind : ∀ y ∈ ps.zip us, scope.names.lookup y.1 = some .local ∨ (scope.names.lookup y.1 = some .cell ∧ ((cellsFrom (s.heap.objs.size + 1) scope.names []).lookup y.1).isSome = true) := fun ⟨n, v⟩ hy => by
    rcases S.par n (List.of_mem_zip hy).1 with q | q
    · exact .inl q
    · exact .inr ⟨q, PySem.W.cellsFrom_some _ _ _ (.inl q)⟩
  refine codeAny_call_function hr.depth (KX _ _ lk) rfl S.co S.gen rfl (PySem.W.codeRec_of KX hcd) (hb _ _ _ _ ?_)
  refine wpAny_newFunctionEnv_cells S.kind hkind fun env he s1 x => ?_
  subst he
  refine ⟨lim.keeps x.toInCall.keep, codeAny_func ?_⟩
  obtain ⟨t, ht, hq⟩ := hbody A outer s H vs Q E (hr.deeper _) hsp
  have I : Inv (cxOf CX P w K mg base N qual scope f cdv A outer s H E) [] (start N vs) H s1 := inv_start S hr.hd e0 hl r x
  refine wpAny_mono (ht [] s1 (start N vs) H _ I hq) (fun fl s' hs => ?_) fun e s' hs => hs
  have fin : ∀ {σ' : St} {H' : Hp} {v : V} {u : Value}, Inv (cxOf CX P w K mg base N qual scope f cdv A outer s H E) [] σ' H' s' → RelV v u → Q v H' → CE outer P w H s Q u s' :=
    fun {σ' H' v u} J rv q => ⟨v, H', J.os, J.bare, J.base, J.hok, rv, q⟩
  cases fl with
  | ret u =>
    obtain ⟨v, σ', H', J, rv, q⟩ := hs
    exact fin J rv q
  | next =>
    obtain ⟨σ', H', J, q⟩ := hs
    exact fin (v := V.non) (u := Value.none) J rfl q
  | brk =>
    obtain ⟨_, _, _, q⟩ := hs
    exact False.elim q
  | cont =>
    obtain ⟨_, _, _, q⟩ := hs
    exact False.elim q
end L2
namespace L2
open PySem PySem.Spec PyProof.Rows
section
variable {X : Cx} {x : Str} {p pos : Pos} {e : Expr} {es : List Expr} {t : TA} {id T : String} {r : List V → Hp → VK → Prop}
noncomputable def tCB (r : List V → Hp → VK → Prop) (t : TA) : TE := fun σ H Q => t σ H fun vs H1 => r vs H1 Q
theorem pe_callB (hc : CallR X (.builtin id) r) (hg : Gl X x) (hm : X.mg x = none) (hv : bootBuiltins x = some (.builtin id)) (ha : PA X (e :: es) t) (hn : x ≠ "__name__" := by decide) (hdb : (x == ("__debug__" : Str)) = false := by decide)
    (he : starEach (e :: es) X.env = (false, eval e X.env) :: starEach es X.env := by rfl) (hpl : (backTo pos (starEach es X.env)).any (·.1) = false := by rfl) : PE X (.Call (.Name x p) (e :: es) [] pos) (tCB r t) := by
  intro pins s σ H Q I h
  refine wpAny_Call_Name_kw (ld_blt I hg hm hv ?_ hn hdb)
  exact PyProof.Rows.callWith_builtin1 (thn (ha pos pins s σ H _ I h) fun us s1 ⟨vs, H1, I1, r1, q1⟩ => hc pins s1 σ H1 vs us Q I1 r1 q1) he hpl
theorem pe_callTy (hc : CallR X (.type T) r) (hg : Gl X x) (hm : X.mg x = none) (hv : bootBuiltins x = some (.type T)) (ha : PA X (e :: es) t) (hn : x ≠ "__name__" := by decide) (hdb : (x == ("__debug__" : Str)) = false := by decide)
    (he : starEach (e :: es) X.env = (false, eval e X.env) :: starEach es X.env := by rfl) (hpl : (backTo pos (starEach es X.env)).any (·.1) = false := by rfl) : PE X (.Call (.Name x p) (e :: es) [] pos) (tCB r t) := by
  intro pins s σ H Q I h
  refine wpAny_Call_Name_kw (ld_blt I hg hm hv ?_ hn hdb)
  exact PyProof.Rows.callWith_type1 (thn (ha pos pins s σ H _ I h) fun us s1 ⟨vs, H1, I1, r1, q1⟩ => hc pins s1 σ H1 vs us Q I1 r1 q1) he hpl
end
end L2
namespace HT
open PySem PyProof.Rows
section
variable {prog : Program} {w : World} {A : Around} {E : Value → Shared → Prop} {s : Shared}
theorem cat_tup {t b : Addr} {vs ws : List Value} {Q : Value → Shared → Prop} (ht : IsTup s.heap t vs.toArray) (hb : IsTup s.heap b ws.toArray) (hv : vs ≠ [])
    (h1 : ws = [] → Q (.ref t) s) (h2 : ws ≠ [] → Q (.ref s.heap.objs.size) { s with heap := s.heap.push { cls := .type "tuple", data := .seq (vs ++ ws).toArray } })
    (hsz : vs.length + ws.length ≤ sizeLine) : wpAny (model prog w) A (binaryOp .Add (.ref t) (.ref b)) Q E s := by
  obtain ⟨⟨cls, dd, data, sl⟩, ho, hc, n, hd⟩ := id ht
  obtain ⟨⟨cls2, dd2, data2, sl2⟩, ho2, hc2, n2, hd2⟩ := id hb
  simp only at hc hd hc2 hd2
  subst hc hd hc2 hd2
  have e : vs.toArray ++ ws.toArray = (vs ++ ws).toArray := by simp
  by_cases hw : ws = []
  · exact concat_meets ⟨_, ho, rfl⟩ ⟨_, ho2, rfl⟩ noFill_tuple_add seq_tuple_add PySem.F.slot_tuple_add PySem.F.entry_tuple_add (PySem.F.args_tuple_add_2 _ _)
      (tuple_addW1 t b vs.toArray ws.toArray n n2 dd dd2 sl sl2 (by simpa using hv) (by simp [hw])) ⟨ho, ho2, h1 hw⟩
  · refine concat_meets ⟨_, ho, rfl⟩ ⟨_, ho2, rfl⟩ noFill_tuple_add seq_tuple_add PySem.F.slot_tuple_add PySem.F.entry_tuple_add (PySem.F.args_tuple_add_2 _ _)
      (tuple_addW2 t b vs.toArray ws.toArray n n2 dd dd2 sl sl2 (by simpa using hv) (by simpa using hw) (by rw [List.size_toArray, List.size_toArray]; exact hsz)) ⟨ho, ho2, ?_⟩
    rw [e]
    exact h2 hw
noncomputable def sIx (n d : Nat) : Option Int → Nat
  | none => d
  | some v => if v < 0 then (v + (n : Int)).toNat else min v.toNat n
theorem sIx_le (n d : Nat) (hd : d ≤ n) (o : Option Int) : sIx n d o ≤ n := by
  cases o with
  | none => exact hd
  | some v =>
    show (if v < 0 then (v + (n : Int)).toNat else min v.toNat n) ≤ n
    by_cases hv : v < 0
    · rw [if_pos hv]; omega
    · rw [if_neg hv]; exact Nat.min_le_right _ _
theorem clip_eq (v : Int) (n d : Nat) : (if v < 0 then max (v + (n : Int)) 0 else min v (n : Int)) = ((sIx n d (some v) : Nat) : Int) := by
  show (if v < 0 then max (v + (n : Int)) 0 else min v (n : Int)) = (((if v < 0 then (v + (n : Int)).toNat else min v.toNat n) : Nat) : Int)
  by_cases hv : v < 0
  · simp only [if_pos hv]; omega
  · simp only [if_neg hv]; omega
theorem adjust_gen (lo hi : Option Int) (n : Nat) : Builtin.Slice.sliceAdjust lo hi 1 (n : Int) = (((sIx n 0 lo : Nat) : Int), ((sIx n n hi : Nat) : Int)) := by
  have h1 : ¬ ((1 : Int) < 0) := by omega
  unfold Builtin.Slice.sliceAdjust
  simp only [h1, if_false]
  refine Prod.ext ?_ ?_
  · cases lo with
    | none => rfl
    | some v => exact clip_eq v n 0
  · cases hi with
    | none => rfl
    | some v => exact clip_eq v n n
theorem places_gen (i j : Nat) : Builtin.Slice.slicePlaces (i : Int) (j : Int) 1 = j - i := by
  unfold Builtin.Slice.slicePlaces
  have h1 : (1 : Int) > 0 := by omega
  simp only [h1, if_true, Int.ediv_one]
  split <;> omega
theorem slicePart_ {v : Value} {o : Option Int} {Q : Option Int → Shared → Prop} (p : IsPart v o) (h : Q o s) : wpAny (model prog w) A (Builtin.Slice.slicePartIndex v) Q E s := by
  cases p with
  | none => exact slicePart_none h
  | int i t => exact slicePart_int h
theorem sliceApplied_gen {sl : Addr} {vl vu : Value} {lo hi : Option Int} {n : Nat} {Q : Int × Int × Nat → Shared → Prop} (hs : s.heap.IsSliceOf sl vl vu .none) (pl : IsPart vl lo) (pu : IsPart vu hi)
    (h : Q (((sIx n 0 lo : Nat) : Int), 1, sIx n n hi - sIx n 0 lo) s) : wpAny (model prog w) A (Builtin.Slice.sliceApplied (.ref sl) (pure (n : Int))) Q E s := by
  obtain ⟨os, hos, hcs, hds⟩ := id hs
  unfold Builtin.Slice.sliceApplied Builtin.Slice.sliceFields
  refine wpAny_bind (wpAny_bind (wpAny_field hos hds (x := vl) rfl (wpAny_bind (wpAny_field hos hds (x := vu) rfl (wpAny_bind (wpAny_field hos hds (x := .none) rfl (wpAny_pure ?_)))))))
  refine wpAny_bind (slicePart_none ?_)
  show wpAny _ _ (if ((1 : Int) == 0) = true then _ else _) _ _ s
  rw [if_neg (by decide)]
  refine wpAny_bind (slicePart_ pl (wpAny_bind (slicePart_ pu (wpAny_bind (wpAny_pure ?_)))))
  show wpAny _ _ (match Builtin.Slice.sliceAdjust lo hi 1 (n : Int) with | (lo, hi) => pure (lo, (1 : Int), Builtin.Slice.slicePlaces lo hi 1)) _ _ s
  rw [adjust_gen lo hi n]
  show wpAny _ _ (pure (((sIx n 0 lo : Nat) : Int), (1 : Int), Builtin.Slice.slicePlaces ((sIx n 0 lo : Nat) : Int) ((sIx n n hi : Nat) : Int) 1)) _ _ s
  rw [places_gen]
  exact wpAny_pure h
theorem pick_gen (xs : Array Value) (i k : Nat) : ((List.range k).filterMap fun (m : Nat) => xs[((i : Int) + (m : Int) * 1).toNat]?).toArray = ((xs.toList.drop i).take k).toArray := by
  have e : (fun (m : Nat) => xs[((i : Int) + (m : Int) * 1).toNat]?) = fun m => xs[i + m]? := by
    funext m
    have : ((i : Int) + (m : Int) * 1).toNat = i + m := by omega
    rw [this]
  rw [e]
  have := pick_run xs i k
  rw [List.filterMap_map] at this
  have e2 : ((fun x => xs[x]?) ∘ fun x => i + x) = fun m => xs[i + m]? := rfl
  rw [e2] at this
  rw [this]
theorem getItem_tuple_cut {t sl : Addr} {items : Array Value} {vl vu : Value} {lo hi : Option Int} {Q : Value → Shared → Prop} (ht : IsTup s.heap t items) (hs : s.heap.IsSliceOf sl vl vu .none) (pl : IsPart vl lo) (pu : IsPart vu hi)
    (hw : ¬ (sIx items.size 0 lo = 0 ∧ sIx items.size items.size hi = items.size))
    (h : Q (.ref s.heap.objs.size) { s with heap := s.heap.push { cls := .type "tuple", data := .seq ((items.toList.drop (sIx items.size 0 lo)).take (sIx items.size items.size hi - sIx items.size 0 lo)).toArray } })
    (hsz : items.size ≤ sizeLine) : wpAny (model prog w) A (getItem (.ref t) (.ref sl)) Q E s := by
  have htake : sizeOk (.seq ((items.toList.drop (sIx items.size 0 lo)).take (sIx items.size items.size hi - sIx items.size 0 lo)).toArray) := by
    show ((items.toList.drop (sIx items.size 0 lo)).take (sIx items.size items.size hi - sIx items.size 0 lo)).toArray.size ≤ sizeLine
    rw [List.size_toArray, List.length_take, List.length_drop, Array.length_toList]
    omega
  have hj : sIx items.size items.size hi ≤ items.size := sIx_le _ _ (Nat.le_refl _) hi
  obtain ⟨os, hos, hcs, hds⟩ := id hs
  have hTs : s.TypeIs (.ref sl) "slice" := ⟨os, hos, hcs⟩
  unfold getItem
  try with_reducible refine wpAny_holding ?_
  first | refine wpAny_bind (wpAny_pure ?_) | skip
  refine wpAny_bind (wpAny_sequenceKey ht.typeIs (by decide) ?_)
  refine wpAny_bind (wpAny_callSpecial?_slot (name := Str.ofString "__getitem__") ht.typeIs PyProof.Rows.slot_tuple_getitem
    (wpAny_call_entry PyProof.Rows.slot_tuple_getitem ht.typeIs entry_tuple_getitem ?_ (args_tuple_getitem _ _)))
  show wpAny _ _ (Builtin.Tuple.tupleItemsOf (.ref t) >>= _) _ _ s
  refine wpAny_bind (tupleItemsOf_ ht ?_)
  refine wpAny_bind (wpAny_typeOf hTs ?_)
  rw [if_pos (by decide)]
  refine wpAny_bind (sliceApplied_gen hs pl pu ?_)
  have hno : ¬ ((((sIx items.size 0 lo : Nat) : Int) == 0 && (1 : Int) == 1 && (sIx items.size items.size hi - sIx items.size 0 lo) == items.size) = true) := by
    intro q
    rw [Bool.and_eq_true, Bool.and_eq_true] at q
    have q1 : ((sIx items.size 0 lo : Nat) : Int) = 0 := eq_of_beq q.1.1
    have q2 : sIx items.size items.size hi - sIx items.size 0 lo = items.size := eq_of_beq q.2
    exact hw ⟨by omega, by omega⟩
  show wpAny _ _ (if (((sIx items.size 0 lo : Nat) : Int) == 0 && (1 : Int) == 1 && (sIx items.size items.size hi - sIx items.size 0 lo) == items.size) = true then _ else _) _ _ s
  rw [if_neg hno, pick_gen]
  first
    | exact wpAny_bind (m := Builtin.Tuple.tupleExact _) (wpAny_newObj_type (wpAny_pure ⟨_, rfl, wpAny_pure h⟩) htake)
    | exact wpAny_bind (m := Builtin.Tuple.tupleExact _) (wpAny_newObj_type (wpAny_bind (wpAny_pure (wpAny_pure ⟨_, rfl, wpAny_pure h⟩))) htake)
    | exact wpAny_bind (wpAny_bind (m := Builtin.Tuple.tupleExact _) (wpAny_newObj_type (wpAny_pure (wpAny_pure ⟨_, rfl, wpAny_pure h⟩)) htake))
    | exact wpAny_bind (wpAny_bind (m := Builtin.Tuple.tupleExact _) (wpAny_newObj_type (wpAny_pure ⟨_, rfl, wpAny_pure h⟩) htake))
end
end HT
namespace L2
open PySem PySem.Spec PyProof.Rows
noncomputable abbrev TO := St → Hp → (Option Int → Hp → Prop) → Prop
noncomputable def PO (X : Cx) (e : Option Expr) (t : TO) : Prop :=
  ∀ (pins : List (Addr × Obj)) (s : Shared) (σ : St) (H : Hp) (Q : Option Int → Hp → Prop), Inv X pins σ H s → t σ H Q →
    wpAny (model X.prog X.w) X.A (evalPart e X.env) (fun u s' => ∃ o H', Inv X pins σ H' s' ∧ IsPart u o ∧ Q o H') X.xe s
noncomputable def tNoPart : TO := fun _ H Q => Q none H
noncomputable def tPart (t : TE) : TO := fun σ H Q => t σ H fun x H1 => ∃ i, x = .int i ∧ Q (some i) H1
section
variable {X : Cx} {e : Expr} {te : TE} {lo hi : Option Expr} {tl th : TO} {pos p2 : Pos}
theorem po_none : PO X none tNoPart := by
  intro pins s σ H Q I h
  rw [evalPart_none]
  exact wpAny_pure ⟨none, H, I, .none, h⟩
theorem po_some (h : PE X e te) : PO X (some e) (tPart te) := by
  intro pins s σ H Q I hw
  rw [evalPart_some]
  refine thn (h pins s σ H _ I hw) fun u s1 ⟨x, H1, I1, r1, q1⟩ => ?_
  obtain ⟨i, rfl, q⟩ := q1
  obtain ⟨t, rfl⟩ := r1
  exact ⟨some i, H1, I1, .int i t, q⟩
noncomputable def SlR (X : Cx) (r : V → Option Int → Option Int → Hp → VK → Prop) : Prop :=
  ∀ (pins : List (Addr × Obj)) (s : Shared) (σ : St) (H : Hp) (x : V) (v vl vu : Value) (lo hi : Option Int) (sl : Addr) (Q : VK), Inv X pins σ H s → RelV x v → s.heap.IsSliceOf sl vl vu .none → IsPart vl lo → IsPart vu hi → r x lo hi H Q →
    ∃ T id, typeLookup (.type T) "__getitem__" = pure (some (.builtin id)) ∧ s.TypeIs v T ∧ wpAny (model X.prog X.w) X.A (getItem v (.ref sl)) (EP X pins σ Q) X.xe s
theorem SlR.or {r r' : V → Option Int → Option Int → Hp → VK → Prop} (h : SlR X r) (h' : SlR X r') : SlR X (fun x lo hi H Q => r x lo hi H Q ∨ r' x lo hi H Q) := by
  intro pins s σ H x v vl vu lo hi sl Q I rx hs pl pu q
  rcases q with q | q
  · exact h pins s σ H x v vl vu lo hi sl Q I rx hs pl pu q
  · exact h' pins s σ H x v vl vu lo hi sl Q I rx hs pl pu q
noncomputable def tSl (r : V → Option Int → Option Int → Hp → VK → Prop) (te : TE) (tl th : TO) : TE := fun σ H Q => te σ H fun x H1 => tl σ H1 fun l H2 => th σ H2 fun u H3 => r x l u H3 Q
theorem pe_slice {r : V → Option Int → Option Int → Hp → VK → Prop} (hr : SlR X r) (he : PE X e te) (hl : PO X lo tl) (hu : PO X hi th) : PE X (.Subscript e (.Slice lo hi none p2) pos) (tSl r te tl th) := by
  intro pins s σ H Q I h
  refine Subscript_ (thn (he pins s σ H _ I h) fun v s1 ⟨x, H1, I1, r1, q1⟩ => ?_)
  refine wpAny_Slice (thn (hl pins s1 σ H1 _ I1 q1) fun vl s2 ⟨l, H2, I2, pl, q2⟩ => thn (hu pins s2 σ H2 _ I2 q2) fun vu s3 ⟨u, H3, I3, pu, q3⟩ => ?_)
  rw [evalPart_none]
  refine wpAny_pure ?_
  have I4 : Inv X pins σ H3 { s3 with heap := s3.heap.push { cls := .type "slice", data := .fields #[vl, vu, .none] } } := I3.kept (t' := s3.toks) fun b ob q => Heap.get?_push_of_some _ q
  obtain ⟨T, id, hT, ht, hg⟩ := hr pins { s3 with heap := s3.heap.push { cls := .type "slice", data := .fields #[vl, vu, .none] } } σ H3 x v vl vu l u s3.heap.objs.size Q I4 r1 (Heap.IsSliceOf.new ..) pl pu q3
  show wpAny (model X.prog X.w) X.A (subscriptTail e (.Slice lo hi none p2) v (.ref s3.heap.objs.size)) (EP X pins σ Q) X.xe { s3 with heap := s3.heap.push { cls := .type "slice", data := .fields #[vl, vu, .none] } }
  exact tail_any (ops := [.ref s3.heap.objs.size, v]) ht hT hg (by with_unfolding_all rfl)
noncomputable def cutV (xs : List V) (lo hi : Option Int) : List V := (xs.drop (HT.sIx xs.length 0 lo)).take (HT.sIx xs.length xs.length hi - HT.sIx xs.length 0 lo)
theorem cutV_length (xs : List V) (lo hi : Option Int) : (cutV xs lo hi).length ≤ xs.length := by
  unfold cutV
  rw [List.length_take, List.length_drop]
  omega
noncomputable def rSlT (K : PySem.W.Frag) : V → Option Int → Option Int → Hp → VK → Prop := fun x lo hi H Q => ∃ a xs, x = .ref a ∧ SqT K H a xs ∧
  ¬ (HT.sIx xs.length 0 lo = 0 ∧ HT.sIx xs.length xs.length hi = xs.length) ∧ ∀ p, H p = none → Q (.ref p) (upd H p (.tup (cutV xs lo hi)))
theorem sl_tup : SlR X (rSlT X.K) := by
  intro pins s σ H x v vl vu lo hi sl Q I rx hs pl pu h
  obtain ⟨a, xs, rfl, hx, hw, q⟩ := h
  cases rx
  obtain ⟨its, r, ht, hz⟩ := I.tuple hx
  have hlen : its.toArray.size = xs.length := by rw [List.size_toArray]; exact r.length.symm
  refine ⟨"tuple", _, PyProof.Rows.slot_tuple_getitem.lookup, ht.typeIs, ?_⟩
  refine HT.getItem_tuple_cut ht hs pl pu (by rw [hlen]; exact hw) ?_ (by rw [hlen]; exact hz)
  rw [hlen]
  refine ⟨.ref s.heap.objs.size, _, I.laid (t' := s.toks) (o := .tup (cutV xs lo hi)) (fun b ob q => Heap.get?_push_of_some _ q) (Nat.le_refl _) ?_, rfl, q _ (I.hok.fresh (Nat.le_refl _))⟩
  exact ⟨Nat.le_trans (cutV_length xs lo hi) hz, _, (r.drop (HT.sIx xs.length 0 lo)).take (HT.sIx xs.length xs.length hi - HT.sIx xs.length 0 lo), IsTup.new _ _⟩
noncomputable def rCatT (K : PySem.W.Frag) : R2 := fun x y H Q => ∃ a b xs ys, x = .ref a ∧ y = .ref b ∧ SqT K H a xs ∧ SqT K H b ys ∧ xs ≠ [] ∧ xs.length + ys.length ≤ sizeLine ∧
  (ys = [] → Q (.ref a) H) ∧ (ys ≠ [] → ∀ p, H p = none → Q (.ref p) (upd H p (.tup (xs ++ ys))))
theorem Vals.nil_iff {xs : List V} {us : List Value} (r : Vals xs us) : us = [] ↔ xs = [] := by
  cases r with
  | nil => simp
  | cons _ _ => simp
theorem op_catT : OpR X (binaryOp .Add) (rCatT X.K) := by
  intro pins s σ H x y v u Q I rx ry h
  obtain ⟨a, b, xs, ys, rfl, rfl, ha, hb, hx, hz, q1, q2⟩ := h
  cases rx
  cases ry
  obtain ⟨its, r1, p1, _⟩ := I.tuple ha
  obtain ⟨its2, r2, p2, _⟩ := I.tuple hb
  refine HT.cat_tup p1 p2 (fun z => hx (r1.nil_iff.mp z)) (fun z => ⟨.ref a, H, I, rfl, q1 (r2.nil_iff.mp z)⟩) (fun z => ?_) (by rw [← r1.length, ← r2.length]; exact hz)
  refine ⟨.ref s.heap.objs.size, _, I.laid (t' := s.toks) (o := .tup (xs ++ ys)) (fun b ob q => Heap.get?_push_of_some _ q) (Nat.le_refl _) ?_, rfl, q2 (fun w => z (r2.nil_iff.mpr w)) _ (I.hok.fresh (Nat.le_refl _))⟩
  exact ⟨by rw [List.length_append]; exact hz, _, r1.append r2, IsTup.new _ _⟩
end
end L2
namespace L2
open PySem PySem.Spec PyProof.Rows
noncomputable def ixN (n : Nat) (i : Int) : Option Nat := if 0 ≤ i then (if i < n then some i.toNat else none) else if -(n : Int) ≤ i then some (i + n).toNat else none
noncomputable def atI {α : Type} (xs : List α) (i : Int) : Option α := (ixN xs.length i).bind fun j => xs[j]?
theorem ixN_seq {n : Nat} {i : Int} {j : Nat} (h : ixN n i = some j) : seqIndex? i n = some j ∧ j < n ∧ -(n : Int) ≤ i ∧ i < n := by
  unfold ixN at h
  by_cases h0 : 0 ≤ i
  · rw [if_pos h0] at h
    by_cases h1 : i < n
    · rw [if_pos h1] at h
      have e : i.toNat = j := Option.some.inj h
      exact ⟨by rw [seqIndex_of h0 h1, e], by omega, by omega, h1⟩
    · rw [if_neg h1] at h; cases h
  · rw [if_neg h0] at h
    by_cases h1 : -(n : Int) ≤ i
    · rw [if_pos h1] at h
      have e : (i + n).toNat = j := Option.some.inj h
      exact ⟨by rw [seqIndex_neg (by omega) h1, e], by omega, h1, by omega⟩
    · rw [if_neg h1] at h; cases h
theorem atI_get {α : Type} {xs : List α} {i : Int} {v : α} (h : atI xs i = some v) : ∃ j, seqIndex? i xs.length = some j ∧ xs[j]? = some v ∧ j < xs.length ∧ -(xs.length : Int) ≤ i ∧ i < xs.length := by
  unfold atI at h
  cases e : ixN xs.length i with
  | none => rw [e] at h; cases h
  | some j =>
    rw [e] at h
    obtain ⟨h1, h2, h3, h4⟩ := ixN_seq e
    exact ⟨j, h1, h, h2, h3, h4⟩
theorem atI_nat {α : Type} {xs : List α} {j : Nat} {v : α} (h : xs[j]? = some v) : atI xs (j : Int) = some v := by
  have hj : j < xs.length := (List.getElem?_eq_some_iff.mp h).1
  have e : ixN xs.length (j : Int) = some j := by
    unfold ixN
    rw [if_pos (by omega), if_pos (by omega)]; simp
  unfold atI; rw [e]; exact h
theorem atI_last {α : Type} (xs : List α) (v : α) : atI (xs ++ [v]) (-1) = some v := by
  have hl : (xs ++ [v]).length = xs.length + 1 := by simp
  have e : ixN (xs ++ [v]).length (-1) = some xs.length := by
    unfold ixN
    rw [hl, if_neg (by decide), if_pos (by omega)]
    congr 1
    omega
  unfold atI
  rw [e]
  show (xs ++ [v])[xs.length]? = some v
  simp
noncomputable def PlainIx (b : Expr) : Prop := ∀ o i, subscripted b false o i = operate [o, i] (getItem o i)
noncomputable def IxR (X : Cx) (r : R2) : Prop :=
  ∀ (value slice : Expr) (pins : List (Addr × Obj)) (s : Shared) (σ : St) (H : Hp) (x y : V) (v u : Value) (Q : VK), Inv X pins σ H s → RelV x v → RelV y u → r x y H Q →
    subscripted slice false v u = operate [v, u] (getItem v u) → wpAny (model X.prog X.w) X.A (subscriptTail value slice v u) (EP X pins σ Q) X.xe s
noncomputable def MtR (X : Cx) (id : String) (r : V → List V → Hp → VK → Prop) : Prop :=
  ∀ (pins : List (Addr × Obj)) (s : Shared) (σ : St) (H : Hp) (x : V) (xs : List V) (v : Value) (us : List Value) (Q : VK), Inv X pins σ H s → RelV x v → Vals xs us → r x xs H Q →
    wpAny (model X.prog X.w) X.A (call (.builtin id) (v :: us)) (EP X pins σ Q) X.xe s
section
variable {X : Cx} {a b : Expr} {ta tb : TE} {pos : Pos}
theorem IxR.or {r r' : R2} (h : IxR X r) (h' : IxR X r') : IxR X (fun x y H Q => r x y H Q ∨ r' x y H Q) := by
  intro value slice pins s σ H x y v u Q I rx ry q hs
  rcases q with q | q
  · exact h value slice pins s σ H x y v u Q I rx ry q hs
  · exact h' value slice pins s σ H x y v u Q I rx ry q hs
theorem MtR.or {id : String} {r r' : V → List V → Hp → VK → Prop} (h : MtR X id r) (h' : MtR X id r') : MtR X id (fun x xs H Q => r x xs H Q ∨ r' x xs H Q) := by
  intro pins s σ H x xs v us Q I rx rs q
  rcases q with q | q
  · exact h pins s σ H x xs v us Q I rx rs q
  · exact h' pins s σ H x xs v us Q I rx rs q
theorem pe_ix {r : R2} (hr : IxR X r) (ha : PE X a ta) (hb : PE X b tb) (hs : PlainIx b) : PE X (.Subscript a b pos) (tOp r ta tb) := by
  intro pins s σ H Q I h
  exact Subscript_ (binT ha hb I h fun v u s2 x y H2 I2 rx ry q => hr a b pins s2 σ H2 x y v u Q I2 rx ry q (hs _ _))
noncomputable def rIxL (K : PySem.W.Frag) : R2 := fun x y H Q => ∃ p xs i v, x = .ref p ∧ y = .int i ∧ SqL K H p xs ∧ atI xs i = some v ∧ Q v H
noncomputable def rIxT (K : PySem.W.Frag) : R2 := fun x y H Q => ∃ p xs i v, x = .ref p ∧ y = .int i ∧ SqT K H p xs ∧ atI xs i = some v ∧ Q v H
noncomputable def rIxS : R2 := fun x y H Q => ∃ z i c, x = .str z ∧ y = .int i ∧ z.length ≤ sizeLine ∧ atI z.cps.toList i = some c ∧ Q (.str ⟨#[c]⟩) H
theorem ix_list : IxR X (rIxL X.K) := by
  intro value slice pins s σ H x y v u Q I rx ry h hs
  obtain ⟨p, xs, i, z, rfl, rfl, hq, he, q⟩ := h
  cases rx
  obtain ⟨t, rfl⟩ := ry
  obtain ⟨its, r, pl, hz⟩ := I.list hq
  obtain ⟨j, h1, h2, h3, h4, h5⟩ := atI_get he
  obtain ⟨w, ew, rw'⟩ := r.get h2
  have hl := r.length
  have hn := line63
  have fin : EP X pins σ Q w s := ⟨z, H, I, rw', q⟩
  by_cases h0 : 0 ≤ i
  · have hj : i.toNat = j := by
      rw [seqIndex_of h0 h5] at h1
      exact Option.some.inj h1
    exact item_listR pl.isList h0 (by omega) (by rw [hj]; simpa using ew) fin hs
  · have hj : (i + (its.toArray.size : Int)).toNat = j := by
      rw [seqIndex_neg (by omega) h4] at h1
      rw [List.size_toArray, ← hl]
      exact Option.some.inj h1
    exact subscriptTail_builtinR (x := w) pl.isList.typeIs slot_list_getitem.lookup
      (wpAny_getItem_list_neg (Q := fun r s' => r = w ∧ EP X pins σ Q r s') pl.isList (by omega) (by rw [List.size_toArray] <;> omega) (by omega) (by rw [hj]; simpa using ew) ⟨rfl, fin⟩) hs
theorem ix_tup : IxR X (rIxT X.K) := by
  intro value slice pins s σ H x y v u Q I rx ry h hs
  obtain ⟨p, xs, i, z, rfl, rfl, hq, he, q⟩ := h
  cases rx
  obtain ⟨t, rfl⟩ := ry
  obtain ⟨its, r, pl, hz⟩ := I.tuple hq
  obtain ⟨j, h1, h2, h3, h4, h5⟩ := atI_get he
  obtain ⟨w, ew, rw'⟩ := r.get h2
  have hl := r.length
  have hn := line63
  have fin : EP X pins σ Q w s := ⟨z, H, I, rw', q⟩
  exact subscriptTail_builtinR (x := w) pl.typeIs slot_tuple_getitem.lookup
    (getItem_tuple (j := j) (Q := fun r s' => r = w ∧ EP X pins σ Q r s') pl (by omega) (by omega) (by rw [List.size_toArray, ← hl]; exact h1) (by simpa using ew) ⟨rfl, fin⟩) hs
theorem ix_str : IxR X rIxS := by
  intro value slice pins s σ H x y v u Q I rx ry h hs
  obtain ⟨z, i, c, rfl, rfl, hz, he, q⟩ := h
  obtain ⟨t, rfl⟩ := rx
  obtain ⟨t', rfl⟩ := ry
  obtain ⟨j, h1, h2, h3, h4, h5⟩ := atI_get he
  have hl : z.cps.toList.length = z.length := by simp [Str.length]
  rw [hl] at h1 h4 h5
  have hn := line63
  exact tail_any (typeIs_str s z t) slot_str_getitem.lookup (getItem_str (c := c) (by
    have e1 : decide (i < -(2 ^ 63 : Int)) = false := decide_eq_false (by omega)
    have e2 : decide (i ≥ 2 ^ 63) = false := decide_eq_false (by omega)
    rw [e1, e2, Bool.or_false]) (by rw [h1]; simpa using h2) ⟨.str ⟨#[c]⟩, H, I.tok _, ⟨_, rfl⟩, q⟩) hs
noncomputable def rIx (K : PySem.W.Frag) : R2 := fun x y H Q => rIxL K x y H Q ∨ rIxT K x y H Q ∨ rIxS x y H Q
theorem ix_seq : IxR X (rIx X.K) := ix_list.or (ix_tup.or ix_str)
theorem mapSeq_set (its : List Value) (n j : Nat) (u : Value) : Obj.mapSeq (·.setIfInBounds j u) { cls := .type "list", data := .seq its.toArray n } = { cls := .type "list", data := .seq (its.set j u).toArray n } := by
  simp [Obj.mapSeq]
theorem Inv.lst {pins : List (Addr × Obj)} {σ : St} {H : Hp} {s : Shared} {p : Addr} {xs : List V} (I : Inv X pins σ H s) (h : H p = some (.lst xs)) :
    ∃ (its : List Value) (n : Nat), Vals xs its ∧ s.heap.get? p = some { cls := .type "list", data := .seq its.toArray n } ∧ xs.length ≤ sizeLine := by
  obtain ⟨z, its, n, r, e⟩ := I.hok p _ h
  exact ⟨its, n, r, e, z⟩
theorem Inv.lstUpd {pins : List (Addr × Obj)} {σ : St} {H : Hp} {s : Shared} {p : Addr} {xs ys : List V} {its its' : List Value} {n n' : Nat} {f : Obj → Obj} (I : Inv X pins σ H s) (h : H p = some (.lst xs))
    (ho : s.heap.get? p = some { cls := .type "list", data := .seq its.toArray n }) (hf : f { cls := .type "list", data := .seq its.toArray n } = { cls := .type "list", data := .seq its'.toArray n' }) (r : Vals ys its') (hz : ys.length ≤ sizeLine) (t : Nat) :
    Inv X pins σ (upd H p (.lst ys)) { s with heap := s.heap.update p f, toks := t } := by
  have e : (s.heap.update p f).get? p = some { cls := .type "list", data := .seq its'.toArray n' } := by
    rw [Heap.get?_update_self f ho (by rw [hf] <;> rfl), hf]
  refine I.write (x := p) (e := p) (by rw [h]; trivial) (.inl rfl) (fun b u hb q => (Heap.get?_update_other _ _ (Ne.symm hb)).trans q) ⟨_, e⟩ ?_
  exact ⟨hz, its', n', r, e⟩
noncomputable def rSetL : V → V → V → Hp → (Hp → Prop) → Prop := fun o i v H Q => ∃ p xs k j, o = .ref p ∧ i = .int k ∧ H p = some (.lst xs) ∧ ixN xs.length k = some j ∧ Q (upd H p (.lst (xs.set j v)))
theorem set_list : PSet X rSetL := by
  intro pins s σ H o i v ov iv u Q I ro ri rv h
  obtain ⟨p, xs, k, j, rfl, rfl, hp, hj, q⟩ := h
  cases ro
  obtain ⟨t, rfl⟩ := ri
  obtain ⟨its, n, r, ho, hz⟩ := I.lst hp
  obtain ⟨h1, h2, h3, h4⟩ := ixN_seq hj
  have hl := r.length
  have hn := line63
  have I' : Inv X pins σ (upd H p (.lst (xs.set j v))) { s with heap := s.heap.update p (Obj.mapSeq (·.setIfInBounds j u)) } :=
    I.lstUpd hp ho (mapSeq_set its n j u) (r.set rv j) (by rw [List.length_set]; exact hz) s.toks
  by_cases h0 : 0 ≤ k
  · have hk : k.toNat = j := by
      rw [seqIndex_of h0 h4] at h1
      exact Option.some.inj h1
    exact PySem.W.ki_setAt ho h0 (by omega) (by rw [List.size_toArray, ← hl]; exact h4) (by rw [hk]; exact ⟨_, I', q⟩)
  · have hk : (k + (its.toArray.size : Int)).toNat = j := by
      rw [seqIndex_neg (by omega) h3] at h1
      rw [List.size_toArray, ← hl]
      exact Option.some.inj h1
    exact PySem.W.ki_setBack ho (by omega) (by rw [List.size_toArray, ← hl]; exact h3) (by omega) (by rw [hk]; exact ⟨_, I', q⟩)
theorem slice_bounds (lo hi : Option Int) (n : Nat) : (sliceBounds lo hi none n).1 = ((HT.sIx n 0 lo : Nat) : Int) ∧ (sliceBounds lo hi none n).2.1 = ((HT.sIx n n hi : Nat) : Int) ∧ (sliceBounds lo hi none n).2.2 = 1 := by
  refine ⟨?_, ?_, rfl⟩
  · cases lo with
    | none => simp [sliceBounds, HT.sIx]
    | some i =>
      simp only [sliceBounds, HT.sIx, Option.getD_none, show (1 : Int) > 0 by decide, if_true]
      by_cases h : i < 0
      · simp only [h, if_true] <;> omega
      · simp only [h, if_false] <;> omega
  · cases hi with
    | none => simp [sliceBounds, HT.sIx]
    | some i =>
      simp only [sliceBounds, HT.sIx, Option.getD_none, show (1 : Int) > 0 by decide, if_true]
      by_cases h : i < 0
      · simp only [h, if_true] <;> omega
      · simp only [h, if_false] <;> omega
theorem slicePick_cut (its : List Value) (lo hi : Option Int) : slicePick its.toArray lo hi none = ((its.drop (HT.sIx its.length 0 lo)).take (HT.sIx its.length its.length hi - HT.sIx its.length 0 lo)).toArray := by
  obtain ⟨h1, h2, h3⟩ := slice_bounds lo hi its.toArray.size
  unfold slicePick
  rw [h1, h2, h3]
  simp only [sliceRange_one, pick_run, List.size_toArray] <;> rfl
noncomputable def rSlL (K : PySem.W.Frag) : V → Option Int → Option Int → Hp → VK → Prop := fun x lo hi H Q => ∃ a xs, x = .ref a ∧ SqL K H a xs ∧ ∀ p, H p = none → Q (.ref p) (upd H p (.lst (cutV xs lo hi)))
theorem sl_list : SlR X (rSlL X.K) := by
  intro pins s σ H x v vl vu lo hi sl Q I rx hs pl pu h
  obtain ⟨a, xs, rfl, hx, q⟩ := h
  cases rx
  obtain ⟨its, r, ht, hz⟩ := I.list hx
  have hlen := r.length
  refine ⟨"list", _, slot_list_getitem.lookup, ht.isList.typeIs, ?_⟩
  refine wpAny_getItem_list_slice ht.isList hs pl pu .none (by simp) ?_ (by rw [List.size_toArray] <;> omega)
  rw [slicePick_cut, ← hlen]
  refine ⟨.ref s.heap.objs.size, _, I.laid (t' := s.toks) (o := .lst (cutV xs lo hi)) (fun b ob q => Heap.get?_push_of_some _ q) (Nat.le_refl _) ?_, rfl, q _ (I.hok.fresh (Nat.le_refl _))⟩
  exact ⟨Nat.le_trans (cutV_length xs lo hi) hz, _, 0, (r.drop (HT.sIx xs.length 0 lo)).take (HT.sIx xs.length xs.length hi - HT.sIx xs.length 0 lo), Heap.get?_push_size _ rfl⟩
noncomputable def flatV : V → Bool
  | .non => true
  | .bl _ => true
  | .int _ => true
  | .str _ => true
  | _ => false
noncomputable def eqV : V → V → Bool
  | .non, .non => true
  | .bl a, .bl b => a == b
  | .bl a, .int b => (if a then 1 else 0) == b
  | .int a, .bl b => a == (if b then 1 else 0)
  | .int a, .int b => a == b
  | .str a, .str b => a == b
  | _, _ => false
theorem eqAt_V {A : Around} {s : Shared} {y x : V} {u v : Value} (ry : RelV y u) (rx : RelV x v) (fy : flatV y = true) (fx : flatV x = true) : SeqAt.EqAt A s u v (eqV y x) := by
  cases y with
  | non =>
    cases ry
    cases x with
    | non => cases rx; exact SeqAt.EqAt.same _
    | bl b => cases rx; exact SeqAt.EqAt.none_bool b
    | int b => obtain ⟨t, rfl⟩ := rx; exact SeqAt.EqAt.none_int b t
    | str b => obtain ⟨t, rfl⟩ := rx; exact SeqAt.EqAt.none_str b t
    | _ => exact absurd (show false = true from fx) Bool.false_ne_true
  | bl a =>
    cases ry
    cases x with
    | non => cases rx; exact SeqAt.EqAt.bool_none a
    | bl b => cases rx; exact SeqAt.EqAt.bool_bool a b
    | int b => obtain ⟨t, rfl⟩ := rx; exact SeqAt.EqAt.bool_int a b t
    | str b => obtain ⟨t, rfl⟩ := rx; exact SeqAt.EqAt.bool_str a b t
    | _ => exact absurd (show false = true from fx) Bool.false_ne_true
  | int a =>
    obtain ⟨t', rfl⟩ := ry
    cases x with
    | non => cases rx; exact SeqAt.EqAt.int_none a t'
    | bl b => cases rx; exact SeqAt.EqAt.int_bool a t' b
    | int b => obtain ⟨t, rfl⟩ := rx; exact SeqAt.EqAt.int_int a t' b t
    | str b => obtain ⟨t, rfl⟩ := rx; exact SeqAt.EqAt.int_str a t' b t
    | _ => exact absurd (show false = true from fx) Bool.false_ne_true
  | str a =>
    obtain ⟨t', rfl⟩ := ry
    cases x with
    | non => cases rx; exact SeqAt.EqAt.str_none a t'
    | bl b => cases rx; exact SeqAt.EqAt.str_bool a t' b
    | int b => obtain ⟨t, rfl⟩ := rx; exact SeqAt.EqAt.str_int a t' b t
    | str b => obtain ⟨t, rfl⟩ := rx; exact SeqAt.EqAt.str_str a t' b t
    | _ => exact absurd (show false = true from fx) Bool.false_ne_true
  | _ => exact absurd (show false = true from fy) Bool.false_ne_true
noncomputable def inV (x : V) (xs : List V) : Bool := xs.any fun y => eqV y x
noncomputable def rIn (K : PySem.W.Frag) (neg : Bool) : R2 := fun x y H Q => ∃ p xs, y = .ref p ∧ (SqL K H p xs ∨ SqT K H p xs) ∧ flatV x = true ∧ xs.all flatV = true ∧ Q (.bl (if neg then !inV x xs else inV x xs)) H
theorem CallR.or {f : Value} {r r' : List V → Hp → VK → Prop} (h : CallR X f r) (h' : CallR X f r') : CallR X f (fun xs H Q => r xs H Q ∨ r' xs H Q) := by
  intro pins s σ H xs us Q I rs q
  rcases q with q | q
  · exact h pins s σ H xs us Q I rs q
  · exact h' pins s σ H xs us Q I rs q
theorem call_list_of : CallR X (.type "list") (fun xs H Q => ∃ p ys, xs = [.ref p] ∧ (SqL X.K H p ys ∨ SqT X.K H p ys) ∧ ∀ l, H l = none → Q (.ref l) (upd H l (.lst ys))) := by
  intro pins s σ H xs us Q I r h
  obtain ⟨p, ys, rfl, hq, q⟩ := h
  obtain ⟨u, rfl, rx⟩ := vals1 r
  cases rx
  have fin : ∀ (its : List Value), Vals ys its → ys.length ≤ sizeLine → ∀ (h' : Heap) (c' : Nat), (∀ b o', s.heap.get? b = some o' → h'.get? b = some o') →
      h'.get? s.heap.objs.size = some { cls := .type "list", dict := none, data := .seq its.toArray c', slots := #[] } → EP X pins σ Q (.ref s.heap.objs.size) { s with heap := h' } := fun its r' hz h' c' kp e =>
    ⟨.ref s.heap.objs.size, _, I.laid (t' := s.toks) kp (Nat.le_refl _) (show ObjOk X.prog X.w _ h' _ (.lst ys) from ⟨hz, its, c', r', e⟩), rfl, q _ (I.hok.fresh (Nat.le_refl _))⟩
  rcases hq with hq | hq
  · obtain ⟨its, r', pl, hz⟩ := I.list hq
    have hlen := r'.length
    obtain ⟨o, ho, hc, n, hd⟩ := pl.isList
    exact call_list_seq p (.inl rfl) ho hc hd (fun h' c' kp e => fin its r' hz h' c' kp e) (by simp only [List.size_toArray] <;> omega)
  · obtain ⟨its, r', pl, hz⟩ := I.tuple hq
    have hlen := r'.length
    obtain ⟨o, ho, hc, n, hd⟩ := pl
    exact call_list_seq p (.inr rfl) ho hc hd (fun h' c' kp e => fin its r' hz h' c' kp e) (by simp only [List.size_toArray] <;> omega)
theorem call_tuple_of : CallR X (.type "tuple") (fun xs H Q => ∃ p ys, xs = [.ref p] ∧ ((SqL X.K H p ys ∧ ∀ l, H l = none → Q (.ref l) (upd H l (.tup ys))) ∨ (SqT X.K H p ys ∧ Q (.ref p) H))) := by
  intro pins s σ H xs us Q I r h
  obtain ⟨p, ys, rfl, h⟩ := h
  obtain ⟨u, rfl, rx⟩ := vals1 r
  cases rx
  rcases h with ⟨hq, q⟩ | ⟨hq, q⟩
  · obtain ⟨its, r', pl, hz⟩ := I.list hq
    have hlen := r'.length
    refine call_tuple_list pl.isList (fun h' kp => ?_) (by simp only [List.size_toArray] <;> omega)
    have I1 : Inv X pins σ H { s with heap := h' } := I.kept (t' := s.toks) kp
    have I2 : Inv X pins σ (upd H h'.objs.size (.tup ys)) { s with heap := h'.push { cls := .type "tuple", data := .seq its.toArray } } :=
      I1.laid (t' := s.toks) (fun b o e => Heap.get?_push_of_some _ e) (Nat.le_refl _) (show ObjOk X.prog X.w _ _ _ (.tup ys) from ⟨hz, its, r', IsTup.new _ _⟩)
    exact ⟨.ref h'.objs.size, _, I2, rfl, q _ (I1.hok.fresh (Nat.le_refl _))⟩
  · obtain ⟨its, r', pl, hz⟩ := I.tuple hq
    exact call_tuple_same pl ⟨.ref p, H, I, rfl, q⟩
noncomputable def tyV (K : PySem.W.Frag) (T : String) (x : V) (H : Hp) : Prop := match x with
  | .str _ => T = "str"
  | .int _ => T = "int"
  | .ref p => (T = "list" ∧ ∃ xs, SqL K H p xs) ∨ (T = "tuple" ∧ ∃ o, K.lookup p = some o ∧ o.cls = .type "tuple" ∧ o.dict = none) ∨
      (T = "dict" ∧ ((∃ kvs, H p = some (.dK kvs)) ∨ ∃ kvs, H p = some (.dT kvs))) ∨ (T = "set" ∧ ∃ S n, H p = some (.set S n))
  | _ => False
theorem tyV_is {pins : List (Addr × Obj)} {σ : St} {H : Hp} {s : Shared} {T : String} {x : V} {v : Value} (I : Inv X pins σ H s) (r : RelV x v) (ty : tyV X.K T x H) :
    s.TypeIs v T ∧ ∀ a, v = .ref a → ∃ ob, s.heap.get? a = some ob ∧ ob.dict = none := by
  cases x with
  | str z =>
    obtain ⟨t, rfl⟩ := r
    cases (show T = "str" from ty)
    exact ⟨typeIs_str s z t, fun _ e => nomatch e⟩
  | int i =>
    obtain ⟨t, rfl⟩ := r
    cases (show T = "int" from ty)
    exact ⟨typeIs_int s i t, fun _ e => nomatch e⟩
  | ref p =>
    cases r
    rcases ty with ⟨rfl, xs, hq⟩ | ⟨rfl, o, hk, hc, hd⟩ | ⟨rfl, hk⟩ | ⟨rfl, S, n, hk⟩
    · obtain ⟨its, _, pl, _⟩ := I.list hq
      refine ⟨pl.isList.typeIs, fun a e => ?_⟩
      cases e
      obtain ⟨o, n, e, c, hd, _⟩ := pl
      exact ⟨o, e, hd⟩
    · refine ⟨⟨o, I.kIn p o hk, hc⟩, fun a e => ?_⟩
      cases e
      exact ⟨o, I.kIn _ o hk, hd⟩
    · have z : ∃ o, s.heap.get? p = some o ∧ o.ExactDict := by
        rcases hk with ⟨kvs, hk⟩ | ⟨kvs, hk⟩
        · obtain ⟨_, _, _, _, o, _, _, e, ex, _⟩ := I.hok p _ hk
          exact ⟨o, e, ex⟩
        · obtain ⟨_, _, _, _, o, _, _, e, ex, _⟩ := I.hok p _ hk
          exact ⟨o, e, ex⟩
      obtain ⟨o, e, ex⟩ := z
      refine ⟨⟨o, e, ex.1⟩, fun a e2 => ?_⟩
      cases e2
      exact ⟨o, e, ex.2.1⟩
    · obtain ⟨o, _, _, _, e, ex, _⟩ := I.hok p _ hk
      refine ⟨⟨o, e, ex.1⟩, fun a e2 => ?_⟩
      cases e2
      exact ⟨o, e, ex.2.1⟩
  | _ => exact False.elim ty
noncomputable def tBM0 (K : PySem.W.Frag) (T : String) (r : V → List V → Hp → VK → Prop) (to : TE) : TE := fun σ H Q => to σ H fun x H1 => tyV K T x H1 ∧ r x [] H1 Q
noncomputable def tBM (K : PySem.W.Frag) (T : String) (r : V → List V → Hp → VK → Prop) (to : TE) (t : TA) : TE := fun σ H Q => to σ H fun x H1 => tyV K T x H1 ∧ t σ H1 fun xs H2 => r x xs H2 Q
variable {o e : Expr} {es : List Expr} {to : TE} {t : TA} {name : Str} {apos cpos : Pos} {T id : String} {r : V → List V → Hp → VK → Prop}
theorem pe_bm0 (pa : PlainAttrs T) (slot : Slot T name id) (hty : typeOf (.builtin id) = pure (.type "method_descriptor")) (hm : MtR X id r) (ho : PE X o to)
    (hbase : attributeBase o name X.env (eval o X.env) = eval o X.env := by rfl) (hline : (apos.endLine == cpos.line) = true := by rfl) : PE X (.Call (.Attribute o name apos) [] [] cpos) (tBM0 X.K T r to) := by
  intro pins s σ H Q I h
  refine wpAny_Call_method0_late hbase hline (thn (ho pins s σ H _ I h) fun v s1 ⟨x, H1, I1, r1, ty, q1⟩ => ?_)
  obtain ⟨h1, h2⟩ := tyV_is I1 r1 ty
  exact ⟨T, id, pa, slot, hty, h1, h2, Calls.callWith_builtin rfl (PySem.evalArgs_none (hm pins s1 σ H1 x [] v [] Q I1 r1 .nil q1))⟩
theorem pe_bm (pa : PlainAttrs T) (slot : Slot T name id) (hty : typeOf (.builtin id) = pure (.type "method_descriptor")) (hm : MtR X id r) (ho : PE X o to) (ha : PA X (e :: es) t)
    (hbase : attributeBase o name X.env (eval o X.env) = eval o X.env := by rfl)
    (hfew : ((backTo cpos (starEach (e :: es) X.env)).all (fun x => !x.1) && (backToKw cpos (keywordEach [] X.env)).all (fun x => x.1.isSome)
      && decide ((e :: es).length + ([] : List Keyword).length + (if ([] : List Keyword).isEmpty then 0 else 1) < 30)) = true := by rfl)
    (hline : (apos.endLine == cpos.line) = true := by rfl) (hs : starEach (e :: es) X.env = (false, eval e X.env) :: starEach es X.env := by rfl) (hplain : (backTo cpos (starEach es X.env)).any (·.1) = false := by rfl) :
    PE X (.Call (.Attribute o name apos) (e :: es) [] cpos) (tBM X.K T r to t) := by
  intro pins s σ H Q I h
  refine wpAny_Call_method_late hbase hfew hline rfl (thn (ho pins s σ H _ I h) fun v s1 ⟨x, H1, I1, r1, ty, q1⟩ => ?_)
  obtain ⟨h1, h2⟩ := tyV_is I1 r1 ty
  refine ⟨T, id, pa, slot, hty, h1, h2, ?_⟩
  have hA := ha cpos pins s1 σ H1 _ I1 q1
  rw [hs] at hA ⊢
  refine Calls.callWith_builtin (by show (false || (backTo cpos (starEach es X.env)).any (·.1)) = false; rw [hplain] <;> rfl) (Calls.evalArgs_plain ?_)
  exact thn hA fun us s2 ⟨vs, H2, I2, r2, q2⟩ => hm pins s2 σ H2 x vs v us Q I2 r1 r2 q2
end
end L2
namespace L2
open PySem PySem.Spec PyProof.Rows
noncomputable def MtM (X : Cx) (id : String) (r : V → List V → Hp → VK → Prop) : Prop :=
  ∀ (pins : List (Addr × Obj)) (s : Shared) (σ : St) (H : Hp) (x : V) (xs : List V) (v : Value) (us : List Value) (Q : VK), Inv X pins σ H s → RelV x v → Vals xs us → r x xs H Q →
    wpAny (model X.prog X.w) X.A (call (.builtin id) (v :: us)) (EP X pins σ Q) X.xe s
theorem Vals.one : ∀ {x : V} {us : List Value}, Vals [x] us → ∃ u, us = [u] ∧ RelV x u
  | _, _, .cons r .nil => ⟨_, rfl, r⟩
theorem Vals.zero : ∀ {us : List Value}, Vals [] us → us = []
  | _, .nil => rfl
theorem Vals.dropLast {xs : List V} {us : List Value} (h : Vals xs us) : Vals xs.dropLast us.dropLast := by
  induction h with
  | nil => exact .nil
  | cons r t ih =>
    cases t with
    | nil => exact .nil
    | cons q t' => exact .cons r ih
theorem Vals.reverse {xs : List V} {us : List Value} (h : Vals xs us) : Vals xs.reverse us.reverse := by
  induction h with
  | nil => exact .nil
  | cons r t ih => rw [List.reverse_cons, List.reverse_cons]; exact Vals.append ih (.cons r .nil)
theorem Vals.rep {xs : List V} {us : List Value} (h : Vals xs us) : ∀ k : Nat, Vals (List.replicate k xs).flatten (List.replicate k us).flatten
  | 0 => .nil
  | k + 1 => by
    rw [List.replicate_succ, List.replicate_succ, List.flatten_cons, List.flatten_cons]
    exact Vals.append h (Vals.rep h k)
theorem foldl_rep (its : List Value) : ∀ (k : Nat) (acc : List Value),
    List.foldl (fun x1 x2 => x1 ++ x2) acc.toArray (List.replicate k its.toArray) = (acc ++ (List.replicate k its).flatten).toArray
  | 0, acc => by simp
  | k + 1, acc => by
    have e : acc.toArray ++ its.toArray = (acc ++ its).toArray := by simp
    have e2 : (acc ++ its) ++ (List.replicate k its).flatten = acc ++ (List.replicate (k + 1) its).flatten := by
      rw [List.replicate_succ, List.flatten_cons, List.append_assoc]
    rw [← e2, ← foldl_rep its k (acc ++ its), ← e, List.replicate_succ, List.foldl_cons]
section
variable {X : Cx} {pins : List (Addr × Obj)} {σ : St} {H : Hp} {s : Shared} {l b : Addr} {xs ys zs : List V}
theorem Inv.lset {its its' : List Value} {n : Nat} {f : Array Value → Array Value} {t' : Nat} (I : Inv X pins σ H s) (hH : H l = some (.lst xs))
    (e : s.heap.get? l = some { cls := .type "list", data := .seq its.toArray n }) (hf : f its.toArray = its'.toArray) (hv : Vals ys its') (hz : ys.length ≤ sizeLine) :
    Inv X pins σ (upd H l (.lst ys)) { s with heap := s.heap.update l (Obj.mapSeq f), toks := t' } := by
  have q := PySem.IsL.update e f
  rw [hf] at q
  refine I.write (x := l) (e := l) (by rw [hH]; exact trivial) (.inl rfl) (fun b' u hb hu => (Heap.get?_update_other s.heap (Obj.mapSeq f) (Ne.symm hb)).trans hu) ⟨_, q⟩ ?_
  exact ⟨hz, its', _, hv, q⟩
theorem Inv.lnew {its : List Value} {t' : Nat} (I : Inv X pins σ H s) (hv : Vals ys its) (hz : ys.length ≤ sizeLine) :
    Inv X pins σ (upd H s.heap.objs.size (.lst ys)) { s with heap := s.heap.push { cls := .type "list", data := .seq its.toArray }, toks := t' } :=
  I.laid (fun _ _ q => Heap.get?_push_of_some _ q) (Nat.le_refl _) ⟨hz, its, 0, hv, Heap.get?_push_size _ rfl⟩
theorem Inv.fresh (I : Inv X pins σ H s) : H s.heap.objs.size = none := I.hok.fresh (Nat.le_refl _)
theorem Inv.lstM (I : Inv X pins σ H s) (hH : H l = some (.lst xs)) : xs.length ≤ sizeLine ∧ ∃ (its : List Value) (n : Nat), Vals xs its ∧ xs.length = its.length ∧ s.heap.get? l = some { cls := .type "list", data := .seq its.toArray n } := by
  obtain ⟨z, its, n, r, e⟩ := I.hok l _ hH
  exact ⟨z, its, n, r, r.length, e⟩
theorem notLongL {n : Nat} (h : n ≤ sizeLine) : Builtin.List.listTooLong n = false := by
  unfold Builtin.List.listTooLong
  exact decide_eq_false (by omega)
end
section
variable {X : Cx}
noncomputable def rAppend : V → List V → Hp → VK → Prop := fun x vs H Q => ∃ l xs y, x = .ref l ∧ vs = [y] ∧ H l = some (.lst xs) ∧ xs.length < sizeLine ∧ Q .non (upd H l (.lst (xs ++ [y])))
theorem mt_append : MtM X "list.append" rAppend := by
  intro pins s σ H x vs v us Q I rx rv h
  obtain ⟨l, xs, y, rfl, rfl, hH, hz, q⟩ := h
  cases rx
  obtain ⟨u, rfl, ru⟩ := rv.one
  obtain ⟨z, its, n, r, hl, e⟩ := I.lstM hH
  refine call_meets F.slot_list_append ⟨_, e, rfl⟩ F.entry_list_append (F.args_list_append_2 _ _) (PySem.list_append l its.toArray n u (by rw [List.size_toArray]; omega)) ⟨e, ?_⟩
  refine ⟨.non, _, I.lset (its' := its ++ [u]) hH e (by simp) (r.append (.cons ru .nil)) ?_, rfl, q⟩
  rw [List.length_append, List.length_singleton]
  omega
noncomputable def rReverse : V → List V → Hp → VK → Prop := fun x vs H Q => ∃ l xs, x = .ref l ∧ vs = [] ∧ H l = some (.lst xs) ∧ Q .non (upd H l (.lst xs.reverse))
theorem mt_reverse : MtM X "list.reverse" rReverse := by
  intro pins s σ H x vs v us Q I rx rv h
  obtain ⟨l, xs, rfl, rfl, hH, q⟩ := h
  cases rx
  have hus := rv.zero
  subst hus
  obtain ⟨z, its, n, r, hl, e⟩ := I.lstM hH
  refine call_meets F.slot_list_reverse ⟨_, e, rfl⟩ F.entry_list_reverse (F.args_list_reverse_1 _) (AutoSeq1.list_reverse_list_0 l its.toArray n (by rw [List.size_toArray]; omega)) ⟨e, ?_⟩
  refine ⟨.non, _, I.lset (its' := its.reverse) hH e (by simp) r.reverse ?_, rfl, q⟩
  rw [List.length_reverse]
  omega
noncomputable def rCat : R2 := fun x y H Q => ∃ l b xs zs, x = .ref l ∧ y = .ref b ∧ H l = some (.lst xs) ∧ H b = some (.lst zs) ∧ xs.length + zs.length ≤ sizeLine ∧ ∀ p, H p = none → Q (.ref p) (upd H p (.lst (xs ++ zs)))
theorem op_cat : OpR X (binaryOp .Add) rCat := by
  intro pins s σ H x y v u Q I rx ry h
  obtain ⟨l, b, xs, zs, rfl, rfl, hH, hB, hz, q⟩ := h
  cases rx
  cases ry
  obtain ⟨z, its, n, r, hl, e⟩ := I.lstM hH
  obtain ⟨z2, its2, n2, r2, hl2, e2⟩ := I.lstM hB
  refine PySem.P.add_list e e2 ?_ (by rw [List.size_toArray, List.size_toArray]; omega)
  have ea : its.toArray ++ its2.toArray = (its ++ its2).toArray := by simp
  rw [ea]
  exact ⟨.ref _, _, I.lnew (t' := s.toks) (r.append r2) (by rw [List.length_append]; omega), rfl, q _ I.fresh⟩
noncomputable def rRep : R2 := fun x y H Q => ∃ l k xs, x = .ref l ∧ y = .int k ∧ H l = some (.lst xs) ∧ -(2 ^ 63) ≤ k ∧ k < 2 ^ 63 ∧ xs.length * k.toNat ≤ sizeLine ∧
  ∀ p, H p = none → Q (.ref p) (upd H p (.lst (List.replicate k.toNat xs).flatten))
theorem len_rep {α : Type} (xs : List α) (k : Nat) : (List.replicate k xs).flatten.length = k * xs.length := by
  induction k with
  | zero => simp
  | succ k ih => rw [List.replicate_succ, List.flatten_cons, List.length_append, ih, Nat.succ_mul, Nat.add_comm]
theorem op_rep : OpR X (binaryOp .Mult) rRep := by
  intro pins s σ H x y v u Q I rx ry h
  obtain ⟨l, k, xs, rfl, rfl, hH, h1, h2, hz, q⟩ := h
  cases rx
  obtain ⟨t, rfl⟩ := ry
  obtain ⟨z, its, n, r, hl, e⟩ := I.lstM hH
  have hlen : its.toArray.size * k.toNat ≤ sizeLine := by rw [List.size_toArray, ← hl]; exact hz
  have hcap : ¬ its.toArray.size * k.toNat > (2 ^ 63 - 1) / 8 := by
    have : (sizeLine : Nat) ≤ (2 ^ 63 - 1) / 8 := by decide
    omega
  have hfit : ¬ (!Builtin.List.listFitsIndex k) = true := by
    rw [fitsIndex_both h1 h2]
    exact Bool.false_ne_true
  have hlong : ¬ Builtin.List.listTooLong (its.toArray.size * k.toNat) = true := by
    rw [notLongL hlen]
    exact Bool.false_ne_true
  have hnew : List.foldl (fun x1 x2 => x1 ++ x2) #[] (List.replicate (if its.toArray.isEmpty = true then 0 else k.toNat) its.toArray) = (List.replicate k.toNat its).flatten.toArray := by
    have f0 : ∀ m : Nat, List.foldl (fun x1 x2 => x1 ++ x2) #[] (List.replicate m its.toArray) = (List.replicate m its).flatten.toArray := fun m => by
      have := foldl_rep its m []
      rw [List.nil_append] at this
      exact this
    rw [f0]
    cases its with
    | nil => simp
    | cons a r' => rw [if_neg (by simp)]
  refine wpAny_binaryOp_repeat_ref (T := "list") (U := "int") (by decide) ⟨_, e, rfl⟩ (fun s' => typeIs_int s' k t) noFill_list_mul F.fills_int_mul F.slot_int_rmul repeat_list F.slot_int_index.lookup
    (call_meets F.slot_int_rmul (typeIs_int s k t) F.entry_int_rmul (F.args_int_rmul_2 _ _) (int___rmul___int_list k t l its.toArray n)
      ⟨e, rfl, ⟨_, e, rfl⟩, call_meets F.slot_list_mul ⟨_, e, rfl⟩ F.entry_list_mul (F.args_list_mul_2 _ _) (AutoListH.list___mul___list_int_3 l its.toArray n k t hfit hcap hlong) ⟨e, ?_⟩⟩)
  rw [hnew]
  exact ⟨.ref _, _, I.lnew (t' := s.toks) (r.rep k.toNat) (by rw [len_rep, Nat.mul_comm]; exact hz), rfl, q _ I.fresh⟩
end
section
variable {prog : Program} {w : World} {A : Around} {E : Value → Shared → Prop} {s : Shared}
set_option maxRecDepth 100000 in
end
end L2
namespace Att
open PySem PySem.W PySem.Calls PyProof.Rows
theorem ints_of_wellAll {P : Params} {h : Heap} : ∀ (ns : List Int) (vs : List Value), WellAll P h vs (ns.map WData.int) → IntsAre vs ns := by
  intro ns
  induction ns with
  | nil =>
    intro vs w
    rw [List.map_nil] at w
    cases w
    exact .nil
  | cons n ns ih =>
    intro vs w
    rw [List.map_cons] at w
    cases w with
    | cons a b =>
      cases a
      exact .cons _ _ (ih _ b)
theorem script_of {l : OpenLaw} {n : Nat} (hn : l.most = some n) {P : Params} {h : Heap} {args : List WData} {vals : List Value}
    (hpre : l.row.toRowW.claim.pre args = true) (hwl : WellAll P h vals args) :
    ∃ a vs ns, vals = [Value.ref a] ∧ args = [WData.list (ns.map WData.int)] ∧ h.get? a = some { cls := .type "list", data := .seq vs.toArray } ∧ IntsAre vs ns ∧ ns.length ≤ n := by
  have hsh : WShape.hasAll [] args [.list .int] = true := (pre_splitW hpre).1
  have hc : l.pre.holds [] { args := args } = true := (pre_splitW hpre).2
  obtain ⟨d, r, rfl, h1, h2⟩ := hasAllW_cons hsh
  obtain rfl := hasAllW_nil h2
  obtain ⟨xs, rfl, h3⟩ := hasW_list h1
  obtain ⟨ns, rfl⟩ := items_int h3
  have hlen : ns.length ≤ n := by
    unfold OpenLaw.pre at hc
    have h4 : (WTm.not (.lt (.lit (.int (n : Int))) (.len (.arg 0)))).holds [] { args := [.list (ns.map .int)] } = true := by
      have h4 := (holds_andW hc).1
      rw [hn] at h4
      exact h4
    have h5 := condW_of h4 (w_not (w_lt w_lit (w_len_list (w_arg rfl))))
    rw [List.length_map] at h5
    refine Nat.le_of_not_lt fun q => ?_
    have q' : (n : Int) < ((ns.length : Nat) : Int) := by omega
    first
      | (rw [decide_eq_true q'] at h5; exact absurd h5 (by decide))
      | (simp at h5; omega)
  cases hwl with
  | cons w1 w2 =>
    cases w2
    cases w1 with
    | list ho hall => exact ⟨_, _, ns, rfl, rfl, ho, ints_of_wellAll ns _ hall, hlen⟩
theorem post_true (l : OpenLaw) (args : List WData) : l.row.toRowW.claim.post args (.bool true) args = true :=
  postW_of (r := l.row.toRowW) (X := (true == true))
    (show WShape.has [] (.bool true) .bool = true by first | rfl | decide | simp [WShape.has, WShape.arms, WShape.armsAll])
    (show (WTm.eq .res (.lit (.bool true))).value [] { args := args, res := some (.bool true), after := args } = some (.bool (true == true)) from w_eq_bool (w_res rfl) w_lit) rfl
theorem attach_call {l : OpenLaw} {n : Nat} {q : Program} {loose : List Str} {XP : (Str → Option Value) → Heap → Prop} {YP : World → Heap → Prop} {d : DefRec}
    (hn : l.most = some n) (hdf : d.params.defaults = [])
    (call : ∀ (w : World) (s₀ s₁ : Shared) (mg mb : Str → Option Value) (fa : Addr) (o : Obj) (pm cd doc : Value) (a : Addr) (vs : List Value) (ns : List Int),
      Ground q loose [] XP w s₀ mg mb s₁.heap → YP w s₁.heap →
      s₁.heap.get? fa = some o → o.data = .func (docDef d.name d.params d.body d.scope pm cd doc) → s₁.heap.CodeRec cd d.name → mg d.name = some (.ref fa) →
      s₁.heap.get? a = some { cls := .type "list", data := .seq vs.toArray } → IntsAre vs ns → ns.length ≤ n → s₁.gens = #[] →
      codeAny (model l.prog w) callerA (.call (.ref fa) ⟨[.ref a], []⟩) (fun r s' => r = .ok (.ret (.bool true)) ∧ OldK s₁.heap s'.heap ∧ s'.os = s₁.os ∧ AllBare s'.gens) s₁) :
    WalkO q loose XP YP l.row.toRowW d [] (fun f vs => PySem.call f vs) := by
  intro w s₀ s₁ mg mb G Y fa o pm cd doc dV kV ho hd hcd hD hmg hg args vals as hpre hlay hrd hwl hlo
  obtain rfl : dV = .none := Dflts.none hD hdf
  obtain rfl : kV = .none := Dflts.noKw hD
  obtain ⟨a, vs, ns, rfl, rfl, hobj, hints, hlen⟩ := script_of hn hpre hwl
  refine enter_call (codeAny_mono (call w s₀ s₁ mg mb fa o pm cd doc a vs ns G Y ho (fd_plain hd) hcd hmg hobj hints hlen hg) fun r s' hq => ?_)
  obtain ⟨rfl, h2, h3, h4⟩ := hq
  exact ⟨.inl ⟨.bool true, .bool true, [], rfl, fun _ => rfl, .bool true, post_true l _, fun _ => ⟨List.Pairwise.nil, fun _ hm => (nomatch hm)⟩⟩, h2, h3, h4⟩
section
variable {prog : Program} {w : World} {A : Around} {E : Value → Shared → Prop} {s : Shared} {K : Frag}
noncomputable def ledger (h : Heap) (L d : Addr) : List (Addr × Obj) := (List.range h.objs.size).filterMap fun a => if a = L ∨ a = d then none else (h.get? a).map fun o => (a, o)
end
end Att
namespace L2
open PySem PySem.Spec PyProof.Rows
theorem vals_ints : ∀ {vs : List Value} {ns : List Int}, IntsAre vs ns → Vals (ns.map V.int) vs
  | _, _, .nil => .nil
  | _, _, .cons n t h => .cons ⟨t, rfl⟩ (vals_ints h)
noncomputable def Only (H : Hp) : Prop := ∀ b, H b = none ∨ ∃ o xs, H b = some (.frz o (.lst xs))
theorem law_call {P : Program} {w : World} {K : PySem.W.Frag} {mg mb : Str → Option Value} {CX : CXT} {k : Nat} {fa a : Addr} {fd : FuncData} {x : Str} {sp : Sp} {s₁ : Shared} {vs : List Value} {ns : List Int}
    (KX : K.In s₁.heap) (hns : s₁.heap.Ns mainGlobals mg) (hb : s₁.heap.Ns builtinsNs mb) (hbb : ∀ x : Str, x ≠ "__name__" → mb x = bootBuiltins x) (hlim : s₁.heap.NoLimit) (hg : s₁.gens = #[])
    (ha : s₁.heap.get? a = some { cls := .type "list", data := .seq vs.toArray }) (hi : IntsAre vs ns) (hl : ns.length ≤ sizeLine) (hr : Room k callerA)
    (F : ∀ base : Heap, K.In base → base.Ns mainGlobals mg → FnOk P w K mg base CX k fa fd [x] sp) (hbind : ∀ (s : Shared) (u : Value), BindsTo s fd ⟨[u], []⟩ [(x, u)])
    (hsp : ∀ H : Hp, Only H → SqL K H a (ns.map V.int) → sp [.ref a] H (fun v _ => v = .bl true) fun _ _ _ => False)
    (hCX : ∀ H e s', CX [] H s₁ (fun _ _ _ => False) e s' → False) :
    codeAny (model P w) callerA (.call (.ref fa) ⟨[.ref a], []⟩) (fun r s' => r = .ok (.ret (.bool true)) ∧ OldK s₁.heap s'.heap ∧ s'.os = s₁.os ∧ AllBare s'.gens) s₁ := by
  have rv := vals_ints hi
  have lenV := hi.length
  have core : ∀ H : Hp, Only H → SqL K H a (ns.map V.int) → HOk P w H s₁.heap → (∀ b, H b ≠ none → b = a) → (H a ≠ none → K.lookup a = none) →
      codeAny (model P w) callerA (.call (.ref fa) ⟨[.ref a], []⟩) (fun r s' => r = .ok (.ret (.bool true)) ∧ OldK s₁.heap s'.heap ∧ s'.os = s₁.os ∧ AllBare s'.gens) s₁ := by
    intro H hO hS hok hA hK
    have base_of : ∀ {b : Addr} {o : Obj}, s₁.heap.get? b = some o → H b = none → (hidT s₁.heap H).get? b = some o := fun e n => hidT_get e n
    have noA : ∀ {b : Addr} {o : Obj} {es : Array DictEntry} {ep : Nat}, s₁.heap.get? b = some o → o.data = .dict es ep → H b = none := fun {b o es ep} e d => by
      cases q : H b with
      | none => rfl
      | some u =>
        have e' : b = a := hA b (by rw [q]; simp)
        subst e'
        rw [ha] at e; cases e
        have d' : Data.seq vs.toArray _ = Data.dict es ep := d
        cases d'
    have nsK : ∀ {b : Addr} {m : Str → Option Value}, s₁.heap.Ns b m → (hidT s₁.heap H).Ns b m := fun {b m} ⟨o, es, ep, e, d, r⟩ => ⟨o, es, ep, base_of e (noA e d), d, r⟩
    have hKb : K.In (hidT s₁.heap H) := fun b o e => base_of (KX b o e) (by
      cases q : H b with
      | none => rfl
      | some u =>
        have e' : b = a := hA b (by rw [q]; simp)
        subst e'
        rw [hK (by rw [q]; simp)] at e; cases e)
    have hM : Mod K mg (hidT s₁.heap H) := ⟨hKb, nsK hns, ⟨mb, nsK hb, hbb⟩, let ⟨mc, h1, h2⟩ := hlim; ⟨mc, nsK h1, h2⟩⟩
    have e0 : Env0 P w K mg (hidT s₁.heap H) callerA [] s₁ H := ⟨rfl, hM, fun b o e => of_hidT e, Nat.le_of_eq (hidT_size _ _), trivial, fun b hb => absurd (show b ∈ ([] : List Addr) from hb) (by simp), hok, .of_eq hg⟩
    refine codeAny_mono ((F _ hKb (nsK hns)).run callerA [] s₁ H ⟨[.ref a], []⟩ [.ref a] [.ref a] _ _ hr e0 (hbind s₁ (.ref a)) (.cons rfl .nil) (hsp H hO hS)) fun r s' h => ?_
    cases r with
    | error e => exact (hCX H e s' h).elim
    | ok fl =>
      cases fl with
      | next => exact False.elim h
      | brk => exact False.elim h
      | cont => exact False.elim h
      | ret u =>
        obtain ⟨v, H', os, bare, un, hok', r', q⟩ := h
        have q' : v = .bl true := q
        subst q'
        obtain rfl : u = Value.bool true := r'
        refine ⟨rfl, OldK.of_keep fun b o e => ?_, os, bare⟩
        cases q : H b with
        | none => exact un.keep b o e q (by intro z; exact absurd (show b ∈ ([] : List Addr) from z) (by simp)) (by simp)
        | some u =>
          rcases hO b with z | ⟨ob, xs, z⟩
          · rw [q] at z; cases z
          · have z2 := un.frzs b ob _ z
            obtain ⟨e1, _⟩ := hok b _ z
            obtain ⟨e2, _⟩ := hok' b _ z2
            rw [e] at e1; cases e1
            exact e2
  cases hk : K.lookup a with
  | some o =>
    have e := KX a o hk
    rw [ha] at e
    cases e
    refine core (fun _ => none) (fun _ => .inl rfl) (.inr ⟨_, vs.toArray, _, hk, rfl, rfl, rfl, by rw [List.size_toArray, lenV]; exact hl, by simpa using rv⟩) (fun b u z => by have z' : (none : Option HO) = some u := z; cases z') (fun b z => absurd rfl z) fun z => absurd rfl z
  | none =>
    refine core (fun b => if b = a then some (.frz { cls := .type "list", data := .seq vs.toArray } (.lst (ns.map V.int))) else none) (fun b => ?_) (.inl (.inr ⟨{ cls := .type "list", data := .seq vs.toArray }, if_pos rfl⟩)) (fun b u z => ?_) (fun b z => ?_) fun _ => hk
    · by_cases hb : b = a
      · exact .inr ⟨_, _, if_pos hb⟩
      · exact .inl (if_neg hb)
    · by_cases hb : b = a
      · have z' := (if_pos hb).symm.trans z
        cases z'
        subst hb
        exact ⟨ha, by rw [List.length_map]; exact hl, vs, _, rv, ha⟩
      · have z' := (if_neg hb).symm.trans z
        cases z'
    · by_cases hb : b = a
      · exact hb
      · exact absurd (if_neg hb) z
end L2
namespace L2
open PySem PySem.Spec PyProof.Rows
theorem walk_of {l : PySem.W.OpenLaw} {n k : Nat} {q : Program} {loose : List Str} {XP : (Str → Option Value) → Heap → Prop} {YP : World → Heap → Prop} {d : DefRec} {K : Params → PySem.W.Frag} {CX : World → CXT} {sp : World → Sp} {x : Str}
    (hn : l.most = some n) (hn2 : n ≤ sizeLine) (hdf : d.params.defaults = []) (hr : Room k callerA)
    (hY : ∀ (w : World) (h : Heap), YP w h → (K w.params).In h)
    (F : ∀ (w : World) (mg : Str → Option Value) (fa : Addr) (h : Heap), (K w.params).In h → h.Ns mainGlobals mg → mg d.name = some (.ref fa) →
      ∃ fd : FuncData, (∀ (s : Shared) (u : Value), BindsTo s fd ⟨[u], []⟩ [(x, u)]) ∧
        ∀ base : Heap, (K w.params).In base → base.Ns mainGlobals mg → FnOk l.prog w (K w.params) mg base (CX w) k fa fd [x] (sp w))
    (hsp : ∀ (w : World) (H : Hp) (a : Addr) (ns : List Int), ns.length ≤ n → Only H → SqL (K w.params) H a (ns.map V.int) → sp w [.ref a] H (fun v _ => v = .bl true) fun _ _ _ => False)
    (hCX : ∀ (w : World) (H : Hp) (s : Shared) (e : Value) (s' : Shared), CX w [] H s (fun _ _ _ => False) e s' → False) :
    PySem.W.WalkO q loose XP YP l.row.toRowW d [] (fun f vs => PySem.call f vs) := by
  refine Att.attach_call hn hdf fun w s₀ s₁ mg mb fa o pm cd doc a vs ns G Y ho hd hcd hmg hobj hints hlen hg => ?_
  have KX := hY w _ Y
  obtain ⟨fd, hb, hF⟩ := F w mg fa _ KX G.T.g hmg
  exact law_call KX G.T.g G.T.b G.T.builtins G.T.nolimit hg hobj hints (Nat.le_trans hlen hn2) hr hF hb (fun H hO hS => hsp w H a ns hlen hO hS) fun H e s' => hCX w H s₁ e s'
end L2
namespace L2
open PySem PySem.Spec PyProof.Rows
noncomputable def defArgs (s : Stmt) : Arguments := match s with
  | .FunctionDef _ a _ _ _ _ _ _ _ _ => a
  | _ => { posonlyargs := [], args := [], vararg := none, kwonlyargs := [], kw_defaults := [], kwarg := none, defaults := [] }
noncomputable def defBody (s : Stmt) : List Stmt := match s with
  | .FunctionDef _ _ b _ _ _ _ _ _ _ => b
  | _ => []
noncomputable def defScope (s : Stmt) : Scope := match s with
  | .FunctionDef _ _ _ _ _ _ sc _ _ _ => sc
  | _ => { kind := .function, names := [], isGenerator := false, isCoroutine := false }
noncomputable abbrev CX0 : CXT := fun _ _ _ _ _ _ => False
noncomputable abbrev E0 : XK := fun _ _ _ => False
theorem pass0 {X : Cx} : Passes CX0 X E0 := fun _ _ _ _ _ _ _ h => h.elim
structure Fun (K : PySem.W.Frag) (x qual : Str) (st : Stmt) (f : Addr) (fd : FuncData) : Prop where
  ex : ∃ (oc : Value) (od : Option Addr) (kV doc pm : Value) (an : Option Addr) (cdv ct : Value) (osl : Array (Option Value)),
    fd = PySem.W.fnOf x qual (defArgs st) (defBody st) (defScope st) .none kV doc pm an cdv ct ∧ K.lookup f = some ⟨oc, od, .func fd, osl⟩ ∧ PySem.W.codeIn K cdv qual = true
  kp : PySem.W.keepIn K (.ref f) = true
section
variable {P : Program} {w : World} {K : PySem.W.Frag} {mg : Str → Option Value} {base : Heap}
theorem Fun.ok {x qual : Str} {st : Stmt} {f : Addr} {fd : FuncData} {N ps : List Str} {k : Nat} {sp : Sp} (F : Fun K x qual st f fd) (S : FnScope N ps (defScope st)) (len : ∀ vs H Q E, sp vs H Q E → vs.length = ps.length)
    (hbody : ∀ (cdv : Value) (A : Around) (outer : List Env) (s : Shared) (H : Hp) (vs : List V) (Q : VK) (E : XK), Room k (A.deeper (envOfC qual (defScope st) s.heap.objs.size f cdv)) → sp vs H Q E →
      ∃ t, PSs (cxOf CX0 P w K mg base N qual (defScope st) f cdv A outer s H E).nox (defBody st) t ∧ t { nx := fun _ H' => Q .non H', rt := Q } (start N vs) H) : FnOk P w K mg base CX0 (k + 1) f fd ps sp := by
  obtain ⟨oc, od, kV, doc, pm, an, cdv, ct, osl, rfl, lk, hcd⟩ := F.ex
  refine fn_of lk hcd S len fun A outer s H vs Q E hr hsp => ?_
  obtain ⟨t, h, q⟩ := hbody cdv A outer s H vs Q E hr hsp
  exact ⟨t, h.nox, q⟩
theorem Fun.binds {x qual : Str} {st : Stmt} {f : Addr} {fd : FuncData} {ps : List Str} (F : Fun K x qual st f fd)
    (h : ∀ (kV doc pm : Value) (an : Option Addr) (cdv ct : Value) (us : List Value), us.length = ps.length → bindArgs (PySem.W.fnOf x qual (defArgs st) (defBody st) (defScope st) .none kV doc pm an cdv ct) ⟨us, []⟩ = pure (ps.zip us)) : Binds K fd ps [] := by
  obtain ⟨oc, od, kV, doc, pm, an, cdv, ct, osl, rfl, lk, hcd⟩ := F.ex
  exact .all (h kV doc pm an cdv ct)
theorem fun_mk {x qual : Str} {st : Stmt} {f : Addr} {oc : Value} {od an : Option Addr} {osl : Array (Option Value)} {kV doc pm cdv ct : Value} (l : K.lookup f = some ⟨oc, od, .func (PySem.W.fnOf x qual (defArgs st) (defBody st) (defScope st) .none kV doc pm an cdv ct), osl⟩)
    (c : PySem.W.codeIn K cdv qual = true) (k : PySem.W.keepIn K (.ref f) = true) : Fun K x qual st f (PySem.W.fnOf x qual (defArgs st) (defBody st) (defScope st) .none kV doc pm an cdv ct) := ⟨⟨oc, od, kV, doc, pm, an, cdv, ct, osl, rfl, l, c⟩, k⟩
end
theorem small1000 {n : Nat} (h : n ≤ 1000) : n < sizeLine := Nat.lt_of_le_of_lt h (by decide)
section
variable {X : Cx}
theorem pv (i : Nat) {x : Str} {pos : Pos} (hN : X.N[i]? = some x := by rfl) (hv : Vis X.env.scope x := by first | exact Or.inl rfl | exact Or.inr (Or.inl rfl) | exact Or.inr (Or.inr rfl)) (hd : (x == ("__debug__" : Str)) = false := by decide)
    (hcd : (x == ("__classdict__" : Str)) = false := by decide) : PE X (.Name x pos) (tVar i) := pe_var hN hv hd hcd
end
noncomputable def Same (H H' : Hp) : Prop := ∀ b o, H b = some o → H' b = some o
theorem Same.refl (H : Hp) : Same H H := fun _ _ h => h
theorem Same.trans {H H1 H2 : Hp} (a : Same H H1) (b : Same H1 H2) : Same H H2 := fun c o h => b c o (a c o h)
theorem Same.free {H H' : Hp} (e : Same H H') {l : Addr} (h : H' l = Option.none) : H l = Option.none := by
  cases q : H l with
  | none => rfl
  | some o =>
    rw [e l o q] at h
    cases h
theorem Same.seq {K : PySem.W.Frag} {H H' : Hp} {a : Addr} {xs : List V} (e : Same H H') (h : SqL K H a xs) : SqL K H' a xs := by
  rcases h with (h | ⟨o, h⟩) | h
  · exact .inl (.inl (e _ _ h))
  · exact .inl (.inr ⟨o, e _ _ h⟩)
  · exact .inr h
end L2

set_option maxHeartbeats 4000000

section
namespace L2
open PySem PySem.Spec PyProof.Rows
section
variable {κ : Type} [DecidableEq κ]
noncomputable def valV (kvs : List (κ × V)) (k : κ) : Option V := (kvs.find? fun kv => decide (kv.1 = k)).map (·.2)
noncomputable def putK (kvs : List (κ × V)) (k : κ) (v : V) : List (κ × V) :=
  if (kvs.any fun kv => decide (kv.1 = k)) = true then kvs.map (fun kv => if kv.1 = k then (kv.1, v) else kv) else kvs ++ [(k, v)]
noncomputable def dropK (kvs : List (κ × V)) (k : κ) : List (κ × V) := kvs.filter fun kv => decide (kv.1 ≠ k)
theorem valV_pos {p : κ × V} {r : List (κ × V)} {k : κ} (e : p.1 = k) : valV (p :: r) k = some p.2 := by simp [valV, List.find?_cons, e]
theorem valV_neg {p : κ × V} {r : List (κ × V)} {k : κ} (e : ¬ p.1 = k) : valV (p :: r) k = valV r k := by simp [valV, List.find?_cons, e]
theorem valV_any (k : κ) : ∀ kvs : List (κ × V), (kvs.any fun kv => decide (kv.1 = k)) = (valV kvs k).isSome
  | [] => rfl
  | p :: r => by
    rw [List.any_cons]
    by_cases e : p.1 = k
    · simp only [valV_pos e, decide_eq_true e, Bool.true_or, Option.isSome_some]
    · rw [valV_neg e, decide_eq_false e, Bool.false_or]; exact valV_any k r
theorem length_putK (kvs : List (κ × V)) (k : κ) (v : V) : (putK kvs k v).length ≤ kvs.length + 1 := by
  unfold putK
  split
  · rw [List.length_map]; omega
  · rw [List.length_append, List.length_cons, List.length_nil]; omega
theorem RelO.isSome_eq {o : Option V} {u : Option Value} (r : RelO o u) : o.isSome = u.isSome := by
  cases o with
  | none => cases u with
    | none => rfl
    | some _ => exact (show False from r).elim
  | some _ => cases u with
    | none => exact (show False from r).elim
    | some _ => rfl
theorem RelO.getD {o : Option V} {u : Option Value} {d : V} {d' : Value} (r : RelO o u) (rd : RelV d d') : RelV (o.getD d) (u.getD d') := by
  cases o with
  | none => cases u with
    | none => exact rd
    | some _ => exact (show False from r).elim
  | some _ => cases u with
    | none => exact (show False from r).elim
    | some _ => exact r
theorem KV.val {kvs : List (κ × V)} {vs : List (κ × Value)} (r : KV kvs vs) (k : κ) : RelO (valV kvs k) (valueAt vs k) := by
  unfold KV at r
  induction r with
  | nil => exact True.intro
  | @cons p q ps qs h t ih =>
    obtain ⟨h1, h2⟩ := h
    by_cases e : p.1 = k
    · have e' : q.1 = k := h1.symm.trans e
      have b : valueAt (q :: qs) k = some q.2 := by simp [valueAt, List.find?_cons, e']
      rw [valV_pos e, b]; exact h2
    · have e' : ¬ q.1 = k := fun z => e (h1.trans z)
      have b : valueAt (q :: qs) k = valueAt qs k := by simp [valueAt, List.find?_cons, e']
      rw [valV_neg e, b]; exact ih
theorem KV.any {kvs : List (κ × V)} {vs : List (κ × Value)} (r : KV kvs vs) (k : κ) : (kvs.any fun kv => decide (kv.1 = k)) = vs.any fun kv => decide (kv.1 = k) := by
  unfold KV at r
  induction r with
  | nil => rfl
  | cons h t ih => rw [List.any_cons, List.any_cons, ih, h.1]
theorem KV.repl {kvs : List (κ × V)} {vs : List (κ × Value)} (r : KV kvs vs) (k : κ) {y : V} {u : Value} (ry : RelV y u) :
    KV (kvs.map fun kv => if kv.1 = k then (kv.1, y) else kv) (vs.map fun kv => if kv.1 = k then (kv.1, u) else kv) := by
  unfold KV at r ⊢
  induction r with
  | nil => exact .nil
  | @cons p q ps qs h t ih =>
    rw [List.map_cons, List.map_cons]
    refine .cons ?_ ih
    obtain ⟨h1, h2⟩ := h
    by_cases e : p.1 = k
    · rw [if_pos e, if_pos (h1.symm.trans e)]; exact ⟨h1, ry⟩
    · rw [if_neg e, if_neg (fun z => e (h1.trans z))]; exact ⟨h1, h2⟩
theorem KV.put {kvs : List (κ × V)} {vs : List (κ × Value)} (r : KV kvs vs) (k : κ) {y : V} {u : Value} (ry : RelV y u) : KV (putK kvs k y) (stored vs k u) := by
  unfold putK stored
  rw [r.any k]
  by_cases e : (vs.any fun kv => decide (kv.1 = k)) = true
  · rw [if_pos e, if_pos e]; exact r.repl k ry
  · rw [if_neg e, if_neg e]; exact Paired.snoc r ⟨rfl, ry⟩
theorem KV.drop {kvs : List (κ × V)} {vs : List (κ × Value)} (r : KV kvs vs) (k : κ) : KV (dropK kvs k) (without vs k) := by
  unfold KV at r ⊢
  unfold dropK without
  induction r with
  | nil => exact .nil
  | @cons p q ps qs h t ih =>
    obtain ⟨h1, h2⟩ := h
    rw [List.filter_cons, List.filter_cons]
    by_cases e : p.1 = k
    · have a : ¬ decide (p.1 ≠ k) = true := by simp [e]
      have b : ¬ decide (q.1 ≠ k) = true := by simp [h1.symm.trans e]
      rw [if_neg a, if_neg b]; exact ih
    · have e' : ¬ q.1 = k := fun z => e (h1.trans z)
      have a : decide (p.1 ≠ k) = true := by simp [e]
      have b : decide (q.1 ≠ k) = true := by simp [e']
      rw [if_pos a, if_pos b]; exact .cons ⟨h1, h2⟩ ih
theorem KV.length {kvs : List (κ × V)} {vs : List (κ × Value)} (r : KV kvs vs) : kvs.length = vs.length := Paired.length r
end
theorem kV_is {P : Program} {w : World} {k : Key} {u : Value} (r : RelV (kV k) u) : (mixKind P w).is k u = true := by
  cases k with
  | inl i => obtain ⟨t, e⟩ := (show ∃ t, u = Value.int i t from r); subst e; exact mixKind_int P w i t
  | inr x => obtain ⟨t, e⟩ := (show ∃ t, u = Value.str x t from r); subst e; exact mixKind_str P w x t
theorem items_are {P : Program} {w : World} : ∀ {ks : List Key} {us : List Value}, Vals (ks.map kV) us → ItemsAre (mixKind P w) ks us
  | [], _, r => by rw [List.map_nil] at r; cases r; exact .nil
  | k :: ks, _, r => by
    rw [List.map_cons] at r
    cases r with
    | cons h t => exact .cons (kV_is h) (items_are t)
noncomputable abbrev KT (H : Hp) : List (List Key × V) → List (List Key × Addr × Value) → Prop := Paired fun p q => p.1 = q.1 ∧ H q.2.1 = some (.tup (p.1.map kV)) ∧ RelV p.2 q.2.2
theorem KT.val {H : Hp} {kvs : List (List Key × V)} {xs : List (List Key × Addr × Value)} (r : KT H kvs xs) (k : List Key) : RelO (valV kvs k) ((atKey xs k).map (·.2)) := by
  induction r with
  | nil => exact True.intro
  | @cons p q ps qs h t ih =>
    obtain ⟨h1, _, h2⟩ := h
    by_cases e : p.1 = k
    · have e' : q.1 = k := h1.symm.trans e
      have b : atKey (q :: qs) k = some q.2 := by simp [atKey, List.find?_cons, e']
      rw [valV_pos e, b]; exact h2
    · have e' : ¬ q.1 = k := fun z => e (h1.trans z)
      have b : atKey (q :: qs) k = atKey qs k := by simp [atKey, List.find?_cons, e']
      rw [valV_neg e, b]; exact ih
theorem KT.repl {H : Hp} {kvs : List (List Key × V)} {xs : List (List Key × Addr × Value)} (r : KT H kvs xs) (k : List Key) {y : V} {u : Value} (ry : RelV y u) :
    KT H (kvs.map fun kv => if kv.1 = k then (kv.1, y) else kv) (xs.map (putAt k u)) := by
  induction r with
  | nil => exact .nil
  | @cons p q ps qs h t ih =>
    rw [List.map_cons, List.map_cons]
    refine .cons ?_ ih
    obtain ⟨h1, h2, h3⟩ := h
    unfold putAt
    by_cases e : p.1 = k
    · rw [if_pos e, if_pos (h1.symm.trans e)]; exact ⟨h1, h2, ry⟩
    · rw [if_neg e, if_neg (fun z => e (h1.trans z))]; exact ⟨h1, h2, h3⟩
theorem KT.put {H : Hp} {kvs : List (List Key × V)} {xs : List (List Key × Addr × Value)} (r : KT H kvs xs) (k : List Key) {b : Addr} {y : V} {u : Value} (hb : H b = some (.tup (k.map kV))) (ry : RelV y u) :
    KT H (putK kvs k y) (storedH xs k b u) := by
  have e : (kvs.any fun kv => decide (kv.1 = k)) = (atKey xs k).isSome := by
    rw [valV_any, (r.val k).isSome_eq, Option.isSome_map]
  unfold putK storedH
  rw [e]
  by_cases q : (atKey xs k).isSome = true
  · rw [if_pos q, if_pos q]; exact r.repl k ry
  · rw [if_neg q, if_neg q]; exact Paired.snoc r ⟨rfl, hb, ry⟩
theorem KT.keeps {H H' : Hp} {kvs : List (List Key × V)} {xs : List (List Key × Addr × Value)} (r : KT H kvs xs) (ht : ∀ b ys, H b = some (.tup ys) → H' b = some (.tup ys)) : KT H' kvs xs :=
  Paired.mapP r fun _ _ z => ⟨z.1, ht _ _ z.2.1, z.2.2⟩
section
variable {P : Program} {w : World} {H : Hp} {h : Heap} {a : Addr}
theorem rd_of {u : HO} (ok : HOk P w H h) (e : Rd H a u) : ObjOk P w H h a u := e.ok ok
theorem dk_rd {kvs : List (Key × V)} (ok : HOk P w H h) (e : Rd H a (.dK kvs)) : kvs.length ≤ sizeLine ∧ (a == sysModules) = false ∧ ∃ vs, KV kvs vs ∧ h.DictOf (mixKind P w) a vs :=
  show ObjOk P w H h a (.dK kvs) from rd_of ok e
theorem dk_of {kvs : List (Key × V)} (ok : HOk P w H h) (e : H a = some (.dK kvs)) : kvs.length ≤ sizeLine ∧ (a == sysModules) = false ∧ ∃ vs, KV kvs vs ∧ h.DictOf (mixKind P w) a vs := dk_rd ok (.inl e)
theorem key_of {ks : List Key} (ok : HOk P w H h) (e : H a = some (.tup (ks.map kV))) : (tupleKind (mixKind P w)).is h ks a := by
  obtain ⟨_, its, r, o, h1, h2, n, h3⟩ := (show ObjOk P w H h a (.tup (ks.map kV)) from ok a _ e)
  exact ⟨o, its.toArray, n, h1, h2, h3, by simpa using items_are r⟩
theorem dt_rd {kvs : List (List Key × V)} (ok : HOk P w H h) (e : Rd H a (.dT kvs)) : kvs.length ≤ sizeLine ∧ (a == sysModules) = false ∧
    ∃ xs, KT H kvs xs ∧ h.DictOfH (tupleKind (mixKind P w)) a xs := by
  obtain ⟨z, y, xs, r, o, es, ep, h1, h2, h3, h4, h5⟩ := (show ObjOk P w H h a (.dT kvs) from rd_of ok e)
  refine ⟨z, y, xs, r, o, es, ep, h1, h2, h3, h4, fun x hx => ?_, h5⟩
  have all : ∀ {l : List (List Key × V)} {m : List (List Key × Addr × Value)}, KT H l m → ∀ x ∈ m, (tupleKind (mixKind P w)).is h x.1 x.2.1 := by
    intro l m q
    induction q with
    | nil => intro x hx; exact nomatch hx
    | @cons p q ps qs hq t ih =>
      intro x hx
      rcases List.mem_cons.mp hx with e | hx
      · subst e
        exact key_of ok (by rw [← hq.1]; exact hq.2.1)
      · exact ih x hx
  exact all r x hx
end
noncomputable def DGet (H : Hp) (a : Addr) (y : V) (r : Option V) : Prop :=
  (∃ kvs k, Rd H a (.dK kvs) ∧ y = kV k ∧ r = valV kvs k) ∨ ∃ kvs k b, Rd H a (.dT kvs) ∧ y = .ref b ∧ H b = some (.tup (k.map kV)) ∧ r = valV kvs k
noncomputable def DPut (H : Hp) (a : Addr) (y v : V) (H' : Hp) : Prop :=
  (∃ kvs k, H a = some (.dK kvs) ∧ y = kV k ∧ kvs.length < sizeLine ∧ H' = upd H a (.dK (putK kvs k v))) ∨
  ∃ kvs k b, H a = some (.dT kvs) ∧ y = .ref b ∧ H b = some (.tup (k.map kV)) ∧ kvs.length < sizeLine ∧ H' = upd H a (.dT (putK kvs k v))
theorem DGet.k {H : Hp} {a : Addr} {kvs : List (Key × V)} {k : Key} (e : H a = some (.dK kvs)) : DGet H a (kV k) (valV kvs k) := .inl ⟨kvs, k, .inl e, rfl, rfl⟩
theorem DGet.t {H : Hp} {a b : Addr} {kvs : List (List Key × V)} {k : List Key} (e : H a = some (.dT kvs)) (eb : H b = some (.tup (k.map kV))) : DGet H a (.ref b) (valV kvs k) := .inr ⟨kvs, k, b, .inl e, rfl, eb, rfl⟩
theorem DPut.k {H : Hp} {a : Addr} {kvs : List (Key × V)} {k : Key} {v : V} (e : H a = some (.dK kvs)) (hl : kvs.length < sizeLine) : DPut H a (kV k) v (upd H a (.dK (putK kvs k v))) := .inl ⟨kvs, k, e, rfl, hl, rfl⟩
theorem DPut.t {H : Hp} {a b : Addr} {kvs : List (List Key × V)} {k : List Key} {v : V} (e : H a = some (.dT kvs)) (eb : H b = some (.tup (k.map kV))) (hl : kvs.length < sizeLine) :
    DPut H a (.ref b) v (upd H a (.dT (putK kvs k v))) := .inr ⟨kvs, k, b, e, rfl, eb, hl, rfl⟩
section
variable {X : Cx} {pins : List (Addr × Obj)} {σ : St} {H : Hp} {s : Shared} {a : Addr} {y v : V} {u r : Value} {o : Option V} {A : Around} {E : Value → Shared → Prop}
theorem Inv.big (I : Inv X pins σ H s) : sysModules < s.heap.objs.size := by
  have h : mainGlobals < s.heap.objs.size := (I.mod.glob.keeps I.bk).lt
  exact Nat.lt_trans (by decide) h
theorem d_write {h' : Heap} {t' : Nat} {ob : HO} (I : Inv X pins σ H s) (mu : Mut (H a)) (hs : Heap.SameBut a s.heap h') (he : ∃ q, h'.get? a = some q) (new : ObjOk X.prog X.w (upd H a ob) h' a ob) :
    Inv X pins σ (upd H a ob) { s with heap := h', toks := t' } :=
  I.write (x := a) (e := a) mu (.inl rfl) (fun b q hb z => (hs.2 b hb).trans z) he new
theorem dk_new {P : Program} {w : World} {H' : Hp} {h' : Heap} {kvs : List (Key × V)} {vs : List (Key × Value)} (z : kvs.length ≤ sizeLine) (hd : (a == sysModules) = false) (rel : KV kvs vs) (dd : h'.DictOf (mixKind P w) a vs) :
    ObjOk P w H' h' a (.dK kvs) := ⟨z, hd, vs, rel, dd⟩
end
theorem dk_empty {P : Program} {w : World} {H : Hp} (h : Heap) (hb : sysModules < h.objs.size) : ObjOk P w H (h.push { cls := .type "dict", data := .dict #[] }) h.objs.size (.dK []) :=
  ⟨Nat.zero_le _, beq_eq_false_iff_ne.mpr (Ne.symm (Nat.ne_of_lt hb)), [], .nil, Heap.DictOf.new h⟩
noncomputable def tDNewK : TE := fun _ H Q => ∀ p, H p = none → Q (.ref p) (upd H p (.dK []))
section
variable {X : Cx} {pos : Pos}
theorem pe_dnewK : PE X (.Dict [] [] pos) tDNewK := fun pins s σ H Q I h =>
  wpAny_Dict_empty ⟨.ref s.heap.objs.size, _, I.laid (a := s.heap.objs.size) (o := .dK []) (t' := s.toks) (fun _ _ q => Heap.get?_push_of_some _ q) (Nat.le_refl _) (dk_empty s.heap I.big), rfl, h _ (I.hok.fresh (Nat.le_refl _))⟩
end
structure M1 (X : Cx) (o : Expr) (m : Str) (apos : Pos) (e : Expr) (cpos : Pos) : Prop where
  base : attributeBase o m X.env (eval o X.env) = eval o X.env
  few : ((backTo cpos (starEach [e] X.env)).all (fun x => !x.1) && (backToKw cpos (keywordEach [] X.env)).all (fun x => x.1.isSome)
    && decide (([e] : List Expr).length + ([] : List Keyword).length + (if ([] : List Keyword).isEmpty then 0 else 1) < 30)) = true
  line : (apos.endLine == cpos.line) = true
  trees : backTo cpos (starEach [e] X.env) = [(false, eval e X.env)]
structure M2 (X : Cx) (o : Expr) (m : Str) (apos : Pos) (e f : Expr) (cpos : Pos) : Prop where
  base : attributeBase o m X.env (eval o X.env) = eval o X.env
  few : ((backTo cpos (starEach [e, f] X.env)).all (fun x => !x.1) && (backToKw cpos (keywordEach [] X.env)).all (fun x => x.1.isSome)
    && decide (([e, f] : List Expr).length + ([] : List Keyword).length + (if ([] : List Keyword).isEmpty then 0 else 1) < 30)) = true
  line : (apos.endLine == cpos.line) = true
  trees : backTo cpos (starEach [e, f] X.env) = [(false, eval e X.env), (false, eval f X.env)]
noncomputable def IsD (H : Hp) (a : Addr) : Prop := (∃ kvs, Rd H a (.dK kvs)) ∨ ∃ kvs, Rd H a (.dT kvs)
theorem isD_at {X : Cx} {pins : List (Addr × Obj)} {σ : St} {H : Hp} {s : Shared} {a : Addr} (I : Inv X pins σ H s) (d : IsD H a) :
    s.TypeIs (.ref a) "dict" ∧ (∀ b, Value.ref a = .ref b → ∃ ob, s.heap.get? b = some ob ∧ ob.dict = none) ∧ (a == sysModules) = false := by
  rcases d with ⟨kvs, e⟩ | ⟨kvs, e⟩
  · obtain ⟨_, hd, vs, _, dd⟩ := dk_rd I.hok e
    refine ⟨dd.typeIs, fun b q => ?_, hd⟩
    cases q
    obtain ⟨ob, _, _, h1, h2, _⟩ := dd
    exact ⟨ob, h1, h2.2.1⟩
  · obtain ⟨_, hd, xs, _, dd⟩ := dt_rd I.hok e
    refine ⟨dd.typeIs, fun b q => ?_, hd⟩
    cases q
    obtain ⟨ob, _, _, h1, h2, _⟩ := dd
    exact ⟨ob, h1, h2.2.1⟩
end L2
end
section
namespace L2
open PySem PySem.Spec PyProof.Rows
noncomputable def clOf (cells : List (Str × Addr)) : List (Str × NameKind) → List (Str × Addr) → List (Str × Addr)
  | [], acc => acc
  | (n, k) :: r, acc => if k == .free then clOf cells r ((n, (cells.lookup n).getD 0) :: acc) else clOf cells r acc
theorem closure_ok {scope : Scope} {env : Env} (h : ∀ y ∈ scope.names, y.2 = .free → (env.cells.lookup y.1).isSome = true) : closureFor scope env = pure (clOf env.cells scope.names []) := by
  unfold closureFor
  generalize scope.names = names at h ⊢
  generalize ([] : List (Str × Addr)) = acc
  dsimp only
  induction names generalizing acc with
  | nil => rfl
  | cons x r ih =>
    obtain ⟨n, k⟩ := x
    have hr := ih (fun y hy => h y (List.mem_cons_of_mem _ hy))
    rw [List.forIn_cons]
    unfold clOf
    by_cases hk : (k == NameKind.free) = true
    · have hs := h (n, k) List.mem_cons_self (by simpa using hk)
      obtain ⟨c, hc⟩ := Option.isSome_iff_exists.mp hs
      have hc' : cellOf env n = pure c := by unfold cellOf; rw [show env.cells.lookup n = some c from hc]
      simp only [hk, if_true]
      rw [hc', show (env.cells.lookup n).getD 0 = c by rw [show env.cells.lookup n = some c from hc]; rfl]
      exact hr _
    · simp only [hk]
      exact hr _
theorem clOf_of {cells : List (Str × Addr)} {x : Str} {c : Addr} : ∀ {names : List (Str × NameKind)} {acc : List (Str × Addr)}, (∀ y ∈ names, y.2 = .free → (cells.lookup y.1).isSome = true) → (∀ x c, acc.lookup x = some c → cells.lookup x = some c) →
    (clOf cells names acc).lookup x = some c → cells.lookup x = some c
  | [], _, _, ha, h => ha x c h
  | (n, k) :: r, acc, hs, ha, h => by
    unfold clOf at h
    by_cases hk : (k == NameKind.free) = true
    · rw [if_pos hk] at h
      refine clOf_of (fun y hy => hs y (List.mem_cons_of_mem _ hy)) (fun z d hz => ?_) h
      obtain ⟨e, he⟩ := Option.isSome_iff_exists.mp (hs (n, k) List.mem_cons_self (by simpa using hk))
      have he' : cells.lookup n = some e := he
      rw [List.lookup_cons] at hz
      cases hzn : z == n with
      | true =>
        rw [hzn] at hz
        have : z = n := by simpa using hzn
        subst this
        rw [he'] at hz ⊢
        exact hz
      | false => rw [hzn] at hz; exact ha z d hz
    · rw [if_neg hk] at h
      exact clOf_of (fun y hy => hs y (List.mem_cons_of_mem _ hy)) ha h
theorem clOf_acc {cells : List (Str × Addr)} {x : Str} : ∀ {names : List (Str × NameKind)} {acc : List (Str × Addr)}, (acc.lookup x).isSome = true → ((clOf cells names acc).lookup x).isSome = true
  | [], _, h => h
  | (n, k) :: r, acc, h => by
    unfold clOf
    split
    · refine clOf_acc ?_
      rw [List.lookup_cons]
      split
      · rfl
      · exact h
    · exact clOf_acc h
theorem clOf_has {cells : List (Str × Addr)} {x : Str} : ∀ {names : List (Str × NameKind)} {acc : List (Str × Addr)}, (x, NameKind.free) ∈ names → ((clOf cells names acc).lookup x).isSome = true
  | [], _, h => nomatch h
  | (n, k) :: r, acc, h => by
    unfold clOf
    rcases List.mem_cons.mp h with e | h
    · cases e
      rw [if_pos (by rfl)]
      exact clOf_acc (by rw [List.lookup_cons]; simp)
    · split
      · exact clOf_has h
      · exact clOf_has h
noncomputable def Cx.blk (X : Cx) (scope : Scope) (N' : List Str) (C : Addr) (s : Shared) (H : Hp) (ex : List Addr) : Cx :=
  { X with N := N', s₀ := s, H₀ := H, env := compEnvC scope (clOf X.env.cells scope.names []) C X.env, outer := X.stack, ex := ex, fn := fun _ => false, pn := [], xe := fun _ _ => False }
noncomputable def subσ (fm : List (Option Nat)) (σ : St) : St := fm.map fun o => o.bind fun j => (σ[j]?).join
structure BlkOk (X : Cx) (scope : Scope) (N' : List Str) (fm : List (Option Nat)) : Prop where
  kind : scope.kind = .function
  nocell : ∀ y ∈ scope.names, y.2 ≠ .cell
  names : ∀ y ∈ scope.names, y.2 = .local → scope.names.lookup y.1 = some .local
  free : ∀ y ∈ scope.names, y.2 = .free → X.env.kindOf y.1 = some .cell
  len : fm.length = N'.length
  out : ∀ (i j : Nat) (x : Str), fm[i]? = some (some j) → N'[i]? = some x → X.N[j]? = some x ∧ scope.names.lookup x = some .free ∧ X.env.kindOf x = some .cell
theorem BlkOk.has {X : Cx} {scope : Scope} {N' : List Str} {fm : List (Option Nat)} (B : BlkOk X scope N' fm) (ok : X.Ok) : ∀ y ∈ scope.names, y.2 = .free → (X.env.cells.lookup y.1).isSome = true := fun y hy e => by
  obtain ⟨c, hc⟩ := ok.has y.1 (.inl (B.free y hy e))
  rw [hc]; rfl
noncomputable def blkChk (kind : ScopeKind) (names : List (Str × NameKind)) (kindOf : Str → Option NameKind) (N N' : List Str) (fm : List (Option Nat)) : Bool :=
  kind == .function && (names.all fun y => y.2 != .cell) && (names.all fun y => y.2 != .local || names.lookup y.1 == some .local) && (names.all fun y => y.2 != .free || kindOf y.1 == some .cell) && fm.length == N'.length &&
    ((fm.zip N').all fun p => match p.1 with | none => true | some j => N[j]? == some p.2 && names.lookup p.2 == some .free && kindOf p.2 == some .cell)
theorem blk_mk {X : Cx} {scope : Scope} {N' : List Str} {fm : List (Option Nat)} (h : blkChk scope.kind scope.names X.env.kindOf X.N N' fm = true) : BlkOk X scope N' fm := by
  unfold blkChk at h
  simp only [Bool.and_eq_true, beq_iff_eq, List.all_eq_true, Bool.or_eq_true, bne_iff_ne, ne_eq] at h
  obtain ⟨⟨⟨⟨⟨h1, h2⟩, h3⟩, h4⟩, h5⟩, h6⟩ := h
  refine ⟨h1, h2, fun y hy e => (h3 y hy).resolve_left fun z => z e, fun y hy e => (h4 y hy).resolve_left fun z => z e, h5, fun i j x e1 e2 => ?_⟩
  have hm : (some j, x) ∈ fm.zip N' := by
    refine List.mem_of_getElem? (i := i) ?_
    rw [List.getElem?_zip_eq_some]
    exact ⟨e1, e2⟩
  have z := h6 _ hm
  simp only [Bool.and_eq_true, beq_iff_eq] at z
  exact ⟨z.1.1, z.1.2, z.2⟩
theorem lookup_relabel {env : Env} : ∀ {names : List (Str × NameKind)} {x : Str} {k : NameKind}, (names.map fun (n, k) => if (k == NameKind.free && env.scope.kind == .function && env.kindOf n == some .cell) then (n, NameKind.cell) else (n, k)).lookup x = some k →
    (k = .cell ∧ env.kindOf x = some .cell ∧ (x, NameKind.free) ∈ names) ∨ (x, k) ∈ names
  | [], _, _, h => by simp at h
  | (n, k0) :: r, x, k, h => by
    rw [List.map_cons] at h
    by_cases hc : (k0 == NameKind.free && env.scope.kind == .function && env.kindOf n == some .cell) = true
    · dsimp only at h
      rw [if_pos hc, List.lookup_cons] at h
      cases hx : x == n with
      | true =>
        rw [hx] at h
        have e : x = n := by simpa using hx
        subst e
        cases h
        simp only [Bool.and_eq_true, beq_iff_eq] at hc
        exact .inl ⟨rfl, hc.2, by rw [← hc.1.1]; exact List.mem_cons_self⟩
      | false =>
        rw [hx] at h
        rcases lookup_relabel h with ⟨a, b, c⟩ | c
        · exact .inl ⟨a, b, List.mem_cons_of_mem _ c⟩
        · exact .inr (List.mem_cons_of_mem _ c)
    · dsimp only at h
      rw [if_neg hc, List.lookup_cons] at h
      cases hx : x == n with
      | true =>
        rw [hx] at h
        have e : x = n := by simpa using hx
        subst e
        cases h
        exact .inr List.mem_cons_self
      | false =>
        rw [hx] at h
        rcases lookup_relabel h with ⟨a, b, c⟩ | c
        · exact .inl ⟨a, b, List.mem_cons_of_mem _ c⟩
        · exact .inr (List.mem_cons_of_mem _ c)
theorem lookup_relabel_free {env : Env} (hk : env.scope.kind = .function) : ∀ {names : List (Str × NameKind)} {x : Str}, names.lookup x = some .free → env.kindOf x = some .cell →
    (names.map fun (n, k) => if (k == NameKind.free && env.scope.kind == .function && env.kindOf n == some .cell) then (n, NameKind.cell) else (n, k)).lookup x = some .cell
  | [], _, h, _ => by simp at h
  | (n, k) :: r, x, h, hc => by
    rw [List.map_cons]
    dsimp only
    cases hx : x == n with
    | true =>
      rw [List.lookup_cons, hx] at h
      cases h
      have e : x = n := by simpa using hx
      subst e
      rw [hc, hk, if_pos (by rfl), List.lookup_cons, hx]
    | false =>
      rw [List.lookup_cons, hx] at h
      have ih := lookup_relabel_free hk h hc
      split
      · rw [List.lookup_cons, hx]; exact ih
      · rw [List.lookup_cons, hx]; exact ih
section
variable {X : Cx} {scope : Scope} {N' : List Str} {fm : List (Option Nat)} {pins : List (Addr × Obj)} {σ : St} {H : Hp} {s : Shared}
theorem blk_ok (B : BlkOk X scope N' fm) (I : Inv X pins σ H s) {C : Addr} {ex : List Addr} (hC : s.heap.objs.size ≤ C) (hex : ∀ b ∈ ex, FpOk X pins H b) (hlt : ∀ b ∈ ex, b < s.heap.objs.size) : (X.blk scope N' C s H ex).Ok := by
  have sub : ∀ x c, (clOf X.env.cells scope.names []).lookup x = some c → X.env.cells.lookup x = some c := fun x c h => clOf_of (B.has I.ok) (fun _ _ z => by simp at z) h
  refine ⟨I.ok.mod, ?_, I.ok.glob, I.ok.blt, hC, fun x y c h1 h2 => I.ok.inj x y c (sub x c h1) (sub y c h2), fun x hx => ?_, fun x c h _ => (Bool.false_ne_true h).elim, I.ok.hd, I.ok.frames, .inl rfl, fun b hb => ⟨?_, fun x c h => (hex b hb).2.2.2.2.1 x c (sub x c h)⟩, I.bs, ?_, fun b o e hb => ?_, fun b hb hf => ?_, I.stack, I.stkFree⟩
  · show (relabel scope X.env).kind = .function
    exact B.kind
  · have hx' : (relabel scope X.env).names.lookup x = some .cell ∨ (relabel scope X.env).names.lookup x = some .free := hx
    have mem : (x, NameKind.free) ∈ scope.names := by
      rcases hx' with h | h
      · rcases lookup_relabel h with ⟨_, _, z⟩ | z
        · exact z
        · exact absurd rfl (B.nocell _ z)
      · rcases lookup_relabel h with ⟨z, _, _⟩ | z
        · cases z
        · exact z
    exact Option.isSome_iff_exists.mp (clOf_has (cells := X.env.cells) (acc := []) mem)
  · exact Nat.ne_of_lt (Nat.lt_of_lt_of_le (hlt b hb) hC)
  · exact Nat.le_trans I.ok.bsz I.sz
  · have hb' : b ∈ ex := hb
    rcases (hex b hb').2.2.2.1 with z | z
    · exact I.ok.noex b o e z
    · exact absurd (Nat.lt_of_lt_of_le (Heap.lt_size (I.ok.bs b o e).1) z) (Nat.lt_irrefl _)
  · have hb' : b ∈ ex := hb
    have hf' : b ∈ frs X.stack := hf
    rcases List.mem_cons.mp (I.stkSub b hf') with z | z
    · exact (hex b hb').2.1 z
    · exact (hex b hb').2.2.1 z
theorem subσ_get {fm : List (Option Nat)} {σ : St} {i : Nat} {v : V} (h : (subσ fm σ)[i]? = some (some v)) : ∃ j, fm[i]? = some (some j) ∧ σ[j]? = some (some v) := by
  unfold subσ at h
  rw [List.getElem?_map] at h
  cases e : fm[i]? with
  | none => rw [e] at h; cases h
  | some o =>
    rw [e] at h
    cases o with
    | none => cases h
    | some j =>
      refine ⟨j, rfl, ?_⟩
      have h' : some ((σ[j]?).join) = some (some v) := h
      cases e2 : σ[j]? with
      | none => rw [e2] at h'; cases h'
      | some w => rw [e2] at h'; exact congrArg some (Option.some.inj h')
theorem inv_blk (B : BlkOk X scope N' fm) (I : Inv X pins σ H s) {C : Addr} {ex : List Addr} {h1 : Heap} {tk : Nat} {m : Str → Option Value} (hC : s.heap.objs.size ≤ C) (hex : ∀ b ∈ ex, FpOk X pins H b) (hlt : ∀ b ∈ ex, b < s.heap.objs.size)
    (hn : h1.Ns C m) (old : ∀ b o, s.heap.get? b = some o → h1.get? b = some o) : Inv (X.blk scope N' C s H ex) [] (subσ fm σ) H { s with heap := h1, toks := tk } := by
  have sub : ∀ x c, (clOf X.env.cells scope.names []).lookup x = some c → X.env.cells.lookup x = some c := fun x c h => clOf_of (B.has I.ok) (fun _ _ z => by simp at z) h
  refine ⟨blk_ok B I hC hex hlt, rfl, I.bare, Un.kept old, ⟨m, hn, fun i x v hi hσ hv => ?_⟩, fun x c h => ?_, I.hok.fresh hC, fun x c h => I.freeC x c (sub x c h), fun p hp => absurd (show p ∈ ([] : List (Addr × Obj)) from hp) (by simp), I.hok.kept old, ?_⟩
  · obtain ⟨j, ej, es⟩ := subσ_get hσ
    obtain ⟨hN, hf, hk⟩ := B.out i j x ej hi
    obtain ⟨m0, _, hl⟩ := I.loc
    obtain ⟨u, r, l⟩ := hl j x v hN es (.inr (.inl hk))
    refine ⟨u, r, .inr ⟨.inl (lookup_relabel_free I.ok.kind hf hk), ?_⟩⟩
    rcases l with ⟨z, _⟩ | ⟨_, c, hc, z⟩
    · rw [hk] at z; cases z
    · obtain ⟨c', hc'⟩ := Option.isSome_iff_exists.mp (clOf_has (cells := X.env.cells) (acc := []) (PySem.mem_of_lookup hf))
      have e := sub x c' hc'
      rw [hc] at e
      cases e
      exact ⟨c, hc', z.keeps old⟩
  · obtain ⟨v, z⟩ := I.cell x c (sub x c h)
    exact ⟨v, z.keeps old⟩
  · show (subσ fm σ).length = N'.length
    unfold subσ
    rw [List.length_map]
    exact B.len
end
noncomputable def PIf (X : Cx) (ifs : List Expr) (t : TT) : Prop :=
  ∀ (pins : List (Addr × Obj)) (s : Shared) (σ : St) (H : Hp) (Q : Bool → Hp → Prop), Inv X pins σ H s → t σ H Q →
    wpAny (model X.prog X.w) X.A (forIn ifs true fun c r => if r = true then do let ok ← isTrue c X.env (eval c X.env); pure (ForInStep.yield ok) else pure (ForInStep.yield r)) (TP X pins σ Q) X.xe s
noncomputable def tYes : TT := fun _ H Q => Q true H
theorem pif_nil {X : Cx} : PIf X [] tYes := fun _ s _ H _ I h => wpAny_tests_nil ⟨H, I, h⟩
theorem pif_one {X : Cx} {c : Expr} {t : TT} (hc : PT X c t) : PIf X [c] t := fun pins s σ H Q I h => wpAny_tests_one (hc pins s σ H Q I h)
theorem codeAny_compLoop_own {prog : Program} {w : World} {A : Around} {R : Result → Shared → Prop} {s : Shared} {elt target iter : Expr} {ifs : List Expr} {scope : Scope} {pos : Pos} {it acc : Value} {env : Env} (I : Nat → Shared → Prop)
    (turn : ∀ n s, I n s → wpAny (model prog w) A (pyNext it) (fun r s₁ => match r with
      | none => R (.ok .next) s₁
      | some v => wpAny (model prog w) A (letOwnedTupleGo target it v) (fun _ s₁ => wpAny (model prog w) A (assign target env v) (fun _ s₂ =>
          wpAny (model prog w) A (forIn ifs true fun c r => if r = true then do let ok ← isTrue c env (eval c env); pure (ForInStep.yield ok) else pure (ForInStep.yield r)) (fun ok s₃ =>
            if ok = true then wpAny (model prog w) A (eval elt env) (fun x s₄ =>
              wpAny (model prog w) A (call (.builtin "list.append") [acc, x]) (fun _ s₅ => ∃ m, m < n ∧ I m s₅) (fun _ _ => False) s₄) (fun _ _ => False) s₃
            else ∃ m, m < n ∧ I m s₃) (fun _ _ => False) s₂) (fun _ _ => False) s₁) (fun _ _ => False) s₁) (fun _ _ => False) s)
    (n : Nat) (h : I n s) :
    codeAny (model prog w) A (.compLoop (.ListComp elt [⟨target, iter, ifs, 0⟩] scope pos) 0 it acc env) R s := by
  refine codeAny_loop rfl I (fun n s hI => ?_) n h
  show wpAny _ A ((compTurn (.ListComp elt [⟨target, iter, ifs, 0⟩] scope pos) 0 it acc env).onRaise (fun x => do noteFrame x env; theTreesLotGoes x)) _ _ s
  refine wpAny_noted ?_
  rw [compTurn_list]
  refine wpAny_bind (wpAny_standAt (wpAny_bind (wpAny_mono (turn n s hI) (fun r s₁ h₁ => ?_) fun _ _ h' => h'.elim)))
  cases r with
  | none => exact wpAny_pure h₁
  | some v =>
    refine wpAny_bind (wpAny_mono h₁ (fun _ s₁ h₁ => ?_) fun _ _ h' => h'.elim)
    refine wpAny_bind (wpAny_mono h₁ (fun _ s₂ h₂ => wpAny_bind (wpAny_mono h₂ (fun ok s₃ h₃ => ?_) fun _ _ h' => h'.elim)) fun _ _ h' => h'.elim)
    cases ok with
    | false => exact wpAny_pure ⟨rfl, h₃⟩
    | true =>
      exact wpAny_bind (wpAny_bind (wpAny_mono h₃ (fun x s₄ h₄ => wpAny_bind (wpAny_mono h₄ (fun _ s₅ h₅ => wpAny_pure (wpAny_pure ⟨rfl, h₅⟩)) fun _ _ h' => h'.elim)) fun _ _ h' => h'.elim))
noncomputable def tCompW (fm : List (Option Nat)) (g : TG) (tc : TT) (te : TE) (σ : St) (J : It) (H1 : Hp) (Q : List V → Hp → Prop) : Prop :=
  ∃ (W : Nat → List V → Hp → Prop) (n : Nat), W 0 [] H1 ∧ (∀ i ys H, W i ys H → i ≤ n ∧ ys.length < sizeLine) ∧ ∀ i ys H, W i ys H →
    (J.stop i H ∧ Q ys H) ∨ (J.go i H ∧ ∀ x H', J.yld i H x H' → g x (subσ fm σ) H' fun σ2 H2 => tc σ2 H2 fun b H3 => if b = true then te σ2 H3 fun y H4 => W (i + 1) (ys ++ [y]) H4 else W (i + 1) ys H3)
noncomputable def tComp (fm : List (Option Nat)) (wi : TI) (g : TG) (tc : TT) (te : TE) : TE := fun σ H Q => wi σ H fun J H1 => tCompW fm g tc te σ J H1 fun ys H2 => ∀ l, H2 l = none → Q (.ref l) (upd H2 l (.lst ys))
noncomputable def GKeep (fm : List (Option Nat)) (g : TG) : Prop := ∀ x σ H N, g x σ H N → g x σ H fun σ' H' => N σ' H' ∧ σ'.length = σ.length ∧ ∀ (i j : Nat), fm[i]? = some (some j) → σ'[i]? = σ[i]?
theorem gkeep_name {fm : List (Option Nat)} {i : Nat} (hi : fm[i]? = some none) : GKeep fm (gName i) := fun x σ H N h => by
  refine ⟨h, List.length_set, fun k j hk => ?_⟩
  have : i ≠ k := fun e => by subst e; rw [hi] at hk; cases hk
  exact List.getElem?_set_ne this
end L2
end
section
namespace L2
open PySem PySem.Spec PyProof.Rows
section
variable {X : Cx} {scope : Scope} {N' : List Str} {fm : List (Option Nat)} {pins : List (Addr × Obj)} {σ : St} {H : Hp} {s : Shared} {tg iter elt : Expr} {ifs : List Expr} {pos : Pos} {g : TG} {tc : TT} {te : TE}
theorem comp_block (B : BlkOk X scope N' fm) (hc : X.calm = true) (hg : ∀ C s H ex, PG (X.blk scope N' C s H ex) tg g) (hk : GKeep fm g) (ht : ∀ C s H ex, PIf (X.blk scope N' C s H ex) ifs tc) (he : ∀ C s H ex, PE (X.blk scope N' C s H ex) elt te)
    (I : Inv X pins σ H s) {it : Addr} {fp : List Addr} {tn : Nat → Heap → Prop} {J : It} (T : Turn X.prog X.w X.K tg J fp it tn) (st : tn 0 s.heap) (hf : ∀ b ∈ fp, FpOk X pins H b) {Qf : List V → Hp → Prop} (q : tCompW fm g tc te σ J H Qf)
    {RR : Value → Addr → Result → Shared → Prop} {E : Value → Shared → Prop}
    (hRR : ∀ D C H' ys s', Inv X pins σ (upd H' D (.lst ys)) s' → H' D = none → Qf ys H' → FpOk X pins (upd H' D (.lst ys)) C → (∃ m, s'.heap.Ns C m) → RR (.ref D) C (.ok .next) s') :
    wpAny (model X.prog X.w) X.A (newList []) (fun acc s₃ => wpAny (model X.prog X.w) X.A (newFunctionEnv scope X.env.globals (clOf X.env.cells scope.names []) [] X.env.qual none .none (some X.env)) (fun cenv s₄ =>
      codeAny (model X.prog X.w) X.A (.compStart (.ListComp elt [⟨tg, iter, ifs, 0⟩] scope pos) 0 (.ref it) acc { cenv with scope := relabel scope X.env }) (RR acc cenv.locals) s₄) E s₃) E s := by
  refine wpAny_newObj_type (wpAny_newFunctionEnv B.nocell (by intro y hy; simp at hy) (fun h₁ hns₁ hsb₁ => ?_) B.kind)
  dsimp only at hns₁ hsb₁ ⊢
  generalize hH2 : s.heap.push { cls := .type "list", dict := none, data := .seq ([] : List Value).toArray } = H2 at hns₁ hsb₁ ⊢
  have hC : H2.objs.size = s.heap.objs.size + 1 := by rw [← hH2, Heap.size_push]
  generalize hCC : H2.objs.size = C at hns₁ hsb₁ hC ⊢
  generalize hDD : s.heap.objs.size = D at hC ⊢
  have hDC : D ≠ C := by omega
  have hCle : s.heap.objs.size ≤ C := by omega
  have lt : ∀ (b : Nat) (o : Obj), s.heap.get? b = some o → b < D := fun b o e => by rw [← hDD]; exact Heap.lt_size e
  have old : ∀ b o, s.heap.get? b = some o → h₁.get? b = some o := fun b o e => hsb₁.extBut b o (Nat.ne_of_lt (Nat.lt_trans (lt b o e) (by rw [hC]; exact Nat.lt_succ_self _))) (Heap.get?_push_of_some _ (hH2 ▸ Heap.get?_push_of_some _ e))
  have hacc : h₁.PlainList D #[] := ⟨_, hsb₁.extBut _ _ hDC (Heap.get?_push_of_some _ (by rw [← hH2, ← hDD]; exact Heap.get?_push_size _ rfl))⟩
  have hlt : ∀ b ∈ fp, b < s.heap.objs.size := fun b hb => by
    obtain ⟨o, e, _⟩ := T.obj 0 s.heap st b hb
    exact Heap.lt_size e
  have hDf : D ∉ fp := fun hm => by have z := hlt _ hm; rw [hDD] at z; exact Nat.lt_irrefl D z
  have st1 : tn 0 h₁ := T.keep 0 _ _ st fun b _ o e => old b o e
  obtain ⟨W, n0, w0, hb, turn⟩ := q
  have sub : ∀ x c, (clOf X.env.cells scope.names []).lookup x = some c → X.env.cells.lookup x = some c := fun x c h => clOf_of (B.has I.ok) (fun _ _ z => by simp at z) h
  have I1 : ∀ tk, Inv (X.blk scope N' C s H fp) [] (subσ fm σ) H { s with heap := h₁, toks := tk } := fun tk => inv_blk B I hCle hf hlt hns₁ old
  have hDfs : D ∉ frs X.stack := fun hm => by
    obtain ⟨_, o, e, _⟩ := I.stack.mem hm
    exact Nat.lt_irrefl D (lt D o e)
  have stat : ∀ {H' : Hp} {oD : Obj}, (∀ b ∈ fp, H' b = none) → ∀ b ∈ fp, FpOk (X.blk scope N' C s H fp) [(D, oD)] H' b := fun {H' oD} hn b hb => by
    have l := hlt b hb
    obtain ⟨f0, f1, f2, f3, f4, f5⟩ := hf b hb
    refine ⟨hn b hb, fun z => ?_, fun z => ?_, .inl hb, fun x c h => f4 x c (sub x c h), fun p hp z => ?_⟩
    · have z' : b = C := z
      exact Nat.lt_irrefl C (by rw [← z'] at hCle ⊢; exact Nat.lt_of_lt_of_le l hCle)
    · rcases List.mem_cons.mp (I.stkSub b z) with y | y
      · exact f1 y
      · exact f2 y
    · have e : p = (D, oD) := by simpa [Cx.blk] using hp
      subst e
      have z' : D = b := z
      exact hDf (z' ▸ hb)
  have loop : ∀ tk, codeAny (model X.prog X.w) X.A (.compLoop (.ListComp elt [⟨tg, iter, ifs, 0⟩] scope pos) 0 (.ref it) (.ref D) (compEnvC scope (clOf X.env.cells scope.names []) C X.env)) (RR (.ref D) C) { s with heap := h₁, toks := tk } := by
    intro tk
    refine codeAny_compLoop_own (fun n s' => ∃ i ys its H', n = n0 + 1 - i ∧ Inv (X.blk scope N' C s H fp) [] (subσ fm σ) H' s' ∧ tn i s'.heap ∧ (∀ b ∈ fp, H' b = none) ∧ Vals ys its ∧ s'.heap.PlainList D its.toArray ∧ H' D = none ∧ W i ys H') ?_ (n0 + 1)
      ⟨0, [], [], H, rfl, I1 tk, st1, fun b hb => (hf b hb).1, .nil, hacc, I.hok.fresh (by omega), w0⟩
    rintro n s3 ⟨i, ys, its, H3, rfl, I3, st3, fr3, rv, ⟨nn, hd⟩, hD, w3⟩
    obtain ⟨hi, hys⟩ := hb i ys H3 w3
    have I3' : Inv (X.blk scope N' C s H fp) [(D, { cls := .type "list", data := .seq its.toArray nn })] (subσ fm σ) H3 s3 := I3.pins_of fun p hp => by
      have e : p = (D, { cls := .type "list", data := .seq its.toArray nn }) := by simpa using hp
      subst e
      exact ⟨hd, hD, hDC, hDfs, fun v z => by cases z⟩
    rcases turn i ys H3 w3 with ⟨stop, qf⟩ | ⟨go, step⟩
    · refine thn (T.done (X.blk scope N' C s H fp) rfl rfl rfl hc i _ s3 _ H3 _ I3' (stat fr3) st3 stop) fun r s4 ⟨hr, I4⟩ => ?_
      subst hr
      have hd4 := (I4.pin (D, { cls := .type "list", data := .seq its.toArray nn }) (by simp)).1
      have ne : ∀ b o, H3 b = some o → b ≠ D := fun b o e z => by subst z; rw [hD] at e; cases e
      have U : Un (frs X.stack) fp H H3 s.heap s4.heap := I4.base
      have U' : Un (frs X.stack) fp H (upd H3 D (.lst ys)) s.heap s4.heap := ⟨U.keep, U.slot, fun b o e n hx => by rw [upd_ne (Nat.ne_of_lt (lt b o e))]; exact U.free b o e n hx, U.there,
        fun b xs e => by have z := U.tups b xs e; rw [upd_ne (ne b _ z)]; exact z, fun b o u e => by have z := U.frzs b o u e; rw [upd_ne (ne b _ z)]; exact z,
        fun b ps e => by obtain ⟨more, z⟩ := U.tbls b ps e; exact ⟨more, by rw [upd_ne (ne b _ z)]; exact z⟩⟩
      have hok : HOk X.prog X.w (upd H3 D (.lst ys)) s4.heap := fun b o e => by
        by_cases hbD : b = D
        · subst hbD
          rw [upd_same] at e
          cases e
          exact ⟨Nat.le_of_lt hys, its, nn, rv, hd4⟩
        · rw [upd_ne hbD] at e
          exact (show ObjOk X.prog X.w H3 s4.heap b o from I4.hok b o e).stay (fun _ _ _ z => z) (fun c z => by rw [upd_ne (ne c _ z)]; exact z) fun c xs z => by rw [upd_ne (ne c _ z)]; exact z
      have I5 : Inv X pins σ (upd H3 D (.lst ys)) s4 := I.call' (I4.os) U' hok I4.bare fun b hb => by
        obtain ⟨f0, f1, f2, f3, f4, f5⟩ := hf b hb
        exact ⟨f3, f1, f4, f5⟩
      obtain ⟨m4, hn4, _⟩ := I4.loc
      exact hRR D C H3 ys s4 I5 hD qf (I.fpOk hCle (by rw [upd_ne (Ne.symm hDC)]; exact I4.free)) ⟨m4, hn4⟩
    · refine thn (T.item (X.blk scope N' C s H fp) rfl rfl rfl hc i _ s3 _ H3 _ I3' (stat fr3) st3 go) fun r s4 ⟨u, hr, h4⟩ => ?_
      subst hr
      refine thn h4 fun _ s5 ⟨x, H5, I5, r5, y5, st5, fr5⟩ => ?_
      have I5' := I5.pinned (stat fr5) (T.obj _ _ st5)
      refine thn (hg C s H fp _ s5 _ H5 x u _ I5' r5 (hk _ _ _ _ (step x H5 y5))) fun _ s6 ⟨σ6, H6, I6, q6, l6, k6⟩ => ?_
      have back : ∀ {H7 : Hp} {s7 : Shared} {P7 : List (Addr × Obj)}, Inv (X.blk scope N' C s H fp) P7 σ6 H7 s7 → Inv (X.blk scope N' C s H fp) [] (subσ fm σ) H7 s7 := fun {H7 s7 P7} I7 => (I7.weak l6.symm fun a v e => by
          obtain ⟨j, ej, _⟩ := subσ_get e
          rw [k6 a j ej]; exact e).pins_of fun p hp => nomatch hp
      have still : ∀ {H7 : Hp} {s7 : Shared}, Inv (X.blk scope N' C s H fp) ([(D, { cls := .type "list", data := .seq its.toArray nn })] ++ pinsAt fp s5.heap) σ6 H7 s7 → tn (i + 1) s7.heap ∧ (∀ b ∈ fp, H7 b = none) ∧ s7.heap.get? D = some { cls := .type "list", data := .seq its.toArray nn } ∧ H7 D = none := fun {H7 s7} I7 => by
        refine ⟨T.keep _ _ _ st5 fun b hb o e => (I7.pin (b, o) (List.mem_append_right _ (List.mem_append_right _ (mem_pinsAt hb e)))).1, fun b hb => ?_, ?_, ?_⟩
        · obtain ⟨o, e, d⟩ := T.obj _ _ st5 b hb
          exact (I7.pin (b, o) (List.mem_append_right _ (List.mem_append_right _ (mem_pinsAt hb e)))).2.1
        · exact (I7.pin (D, _) (List.mem_append_right _ (List.mem_append_left _ (List.mem_singleton.mpr rfl)))).1
        · exact (I7.pin (D, { cls := .type "list", data := .seq its.toArray nn }) (List.mem_append_right _ (List.mem_append_left _ (List.mem_singleton.mpr rfl)))).2.1
      refine thn (ht C s H fp _ s6 σ6 H6 _ I6 q6) fun ok s7 ⟨H7, I7, q7⟩ => ?_
      cases ok with
      | false =>
        rw [if_neg Bool.false_ne_true] at q7 ⊢
        obtain ⟨a1, a2, a3, a4⟩ := still I7
        exact ⟨n0 + 1 - (i + 1), by omega, i + 1, ys, its, H7, rfl, back I7, a1, a2, rv, ⟨nn, a3⟩, a4, q7⟩
      | true =>
        rw [if_pos rfl] at q7 ⊢
        refine thn (he C s H fp _ s7 σ6 H7 _ I7 q7) fun y s8 ⟨v8, H8, I8, r8, w8⟩ => ?_
        obtain ⟨a1, a2, a3, a4⟩ := still I8
        have hsz : its.toArray.size ≤ sizeLine := by
          have := rv.length
          rw [List.size_toArray]
          omega
        refine wpAny_list_append_plain (hsz := hsz) ⟨nn, a3⟩ fun h9 hl9 sb9 => ?_
        have I8' := back I8
        have I9 : Inv (X.blk scope N' C s H fp) [] (subσ fm σ) H8 { s8 with heap := h9 } := I8'.turned (t' := s8.toks) (fun b o hb e => (sb9.2 b hb).trans e) a4 hDC (.inr (by show s.heap.objs.size ≤ D; omega)) (fun x c h z => by
            obtain ⟨v, o, ho, hdd⟩ := I8'.cell x c h
            rw [z, a3] at ho
            cases ho
            cases hdd) fun p hp => nomatch hp
        refine ⟨n0 + 1 - (i + 1), by omega, i + 1, ys ++ [v8], its ++ [y], H8, rfl, I9, T.keep _ _ _ a1 fun b hb o e => (sb9.2 b (fun z => hDf (z ▸ hb))).trans e, a2, Vals.append rv (.cons r8 .nil), ?_, a4, w8⟩
        have e : its.toArray.push y = (its ++ [y]).toArray := by simp
        rw [← e]
        exact hl9
  refine codeAny_compStart_list (loop _) (T.self _ 0 _ _ _ st1 (loop _))
end
end L2
end
section
namespace L2
open PySem PySem.Spec PyProof.Rows
section
variable {X : Cx} {scope : Scope} {N' : List Str} {fm : List (Option Nat)} {tg iter elt : Expr} {ifs : List Expr} {pos spos px : Pos} {g : TG} {tc : TT} {te : TE} {wi : TI}
theorem pe_comp (B : BlkOk X scope N' fm) (hc : X.calm = true) (hi : PI X tg iter wi) (hg : ∀ C s H ex, PG (X.blk scope N' C s H ex) tg g) (hk : GKeep fm g) (ht : ∀ C s H ex, PIf (X.blk scope N' C s H ex) ifs tc) (he : ∀ C s H ex, PE (X.blk scope N' C s H ex) elt te)
    (hs : ∀ x, foldedSetIterable iter X.env x = pure x := by intro _; rfl) : PE X (.ListComp elt [⟨tg, iter, ifs, 0⟩] scope pos) (tComp fm wi g tc te) := by
  intro pins s σ H Q I h
  rw [eval_ListComp]
  refine wpAny_comprehension_free (use := none) rfl hs (closure_ok (B.has I.ok)) B.kind B.names (thn (hi pins s σ H _ I h) fun v s1 h1 => thn h1 fun itv s2 h2 => ?_)
  obtain ⟨it, fp, tn, J, H2, e, I2, T, st2, f2, q⟩ := h2
  subst e
  refine comp_block B hc hg hk ht he I2 T st2 f2 q (RR := fun acc C => compPost (model X.prog X.w) X.A X.xe none (EP X pins σ Q) acc C) fun D C H' ys s' I' hD qf fC ⟨m, hn⟩ => ?_
  refine ⟨m, hn, fun h' sb => ⟨.ref D, upd H' D (.lst ys), ?_, rfl, qf D hD⟩⟩
  obtain ⟨f0, f1, f2, f3, f4, f5⟩ := fC
  exact I'.turned (t' := s'.toks) (fun b o hb e => sb.extBut b o hb e) f0 f1 f3 f4 f5
theorem ps_setComp {i : Nat} {x : Str} (hN : X.N.Nodup) (hi' : X.N[i]? = some x) (hx : X.env.kindOf x = some .local) (B : BlkOk X scope N' fm) (hc : X.calm = true) (hi : PI X tg iter wi) (hg : ∀ C s H ex, PG (X.blk scope N' C s H ex) tg g) (hk : GKeep fm g)
    (ht : ∀ C s H ex, PIf (X.blk scope N' C s H ex) ifs tc) (he : ∀ C s H ex, PE (X.blk scope N' C s H ex) elt te) (hsw : swapsWith (.ListComp elt [⟨tg, iter, ifs, 0⟩] scope pos) (some (.Name x px)) spos.line X.env = pure true := by rfl)
    (hs : ∀ x, foldedSetIterable iter X.env x = pure x := by intro _; rfl) : PS X (.Assign [.Name x px] (.ListComp elt [⟨tg, iter, ifs, 0⟩] scope pos) spos) (tAsg (tComp fm wi g tc te) (gName i)) := by
  intro pins s σ H D I h
  rw [exec_Assign_Name_used _ _ _ _ hsw]
  refine wpAny_bind (wpAny_standAt (wpAny_bind ?_))
  show wpAny _ X.A (do let _ ← comprehension (.ListComp elt [⟨tg, iter, ifs, 0⟩] scope pos) scope X.env _ (newList []) false (eval iter X.env) (some (assign (.Name x px) X.env))) _ _ s
  refine wpAny_bind (thn (wpAny_comprehension_free (use := some (assign (.Name x px) X.env)) (Q := fun _ s' => SP X pins D .next s') rfl hs (closure_ok (B.has I.ok)) B.kind B.names (thn (hi pins s σ H _ I h) fun v s1 h1 => thn h1 fun itv s2 h2 => ?_)) fun _ s' q => wpAny_pure (wpAny_pure q))
  obtain ⟨it, fp, tn, J, H2, e, I2, T, st2, f2, q⟩ := h2
  subst e
  refine comp_block B hc hg hk ht he I2 T st2 f2 q (RR := fun acc C => compPost (model X.prog X.w) X.A X.xe (some (assign (.Name x px) X.env)) (fun _ s' => SP X pins D .next s') acc C) fun D' C H' ys s' I' hD qf fC ⟨m, hn⟩ => ?_
  obtain ⟨f0, f1, f2, f3, f4, f5⟩ := fC
  show wpAny (model X.prog X.w) X.A (assign (.Name x px) X.env (.ref D')) _ X.xe s'
  refine wpAny_assign_Name (store_ok2 I' hN hi' (.inl hx) (v := .ref D') rfl (fun s2 I2 ⟨a, sb, ha⟩ => ?_) (.inr hx))
  have hCa : C ≠ a := by
    rcases ha with z | z
    · rw [z]; exact f1
    · exact fun e => f4 x a z e.symm
  refine ⟨m, hn.sameBut sb hCa, fun h' sb' => ⟨_, upd H' D' (.lst ys), I2.turned (t' := s2.toks) (fun b o hb e => sb'.extBut b o hb e) f0 f1 f3 f4 f5, qf D' hD⟩⟩
end
theorem call_isinst {X : Cx} : CallR X (.builtin "isinstance") (fun xs H Q => ∃ x n t b, xs = [x, .ty n] ∧ TyOf X.K H x t ∧ PySem.W.kitOne X.K t (.type n) = some b ∧ Q (.bl b) H) := by
  intro pins s σ H xs us Q I r h
  obtain ⟨x, n, t, b, rfl, ty, e, q⟩ := h
  cases r with
  | cons r1 r2 =>
    cases r2 with
    | cons r2 r3 =>
      cases r3
      cases (show _ = Value.type n from r2)
      exact isinst_ok I r1 ty e fun tk => ⟨.bl b, H, I.tok tk, rfl, q⟩
theorem bl_get {bs : List Bool} {its : List Value} (r : Vals (bs.map V.bl) its) {i : Nat} {v : Value} (h : its[i]? = some v) : v = Value.bool (bs.getD i false) := by
  have hl := r.length
  have hi : i < its.length := (List.getElem?_eq_some_iff.mp h).1
  rw [List.length_map] at hl
  have hb : i < bs.length := by omega
  obtain ⟨u, e1, e2⟩ := r.get (i := i) (x := V.bl bs[i]) (by rw [List.getElem?_map, List.getElem?_eq_getElem hb] <;> rfl)
  rw [h] at e1
  cases e1
  have e2' : v = Value.bool bs[i] := e2
  rw [e2', List.getD_eq_getElem?_getD, List.getElem?_eq_getElem hb] <;> rfl
theorem all_range {bs : List Bool} : (List.range bs.length).all (fun i => bs.getD i false) = bs.all id := by
  induction bs with
  | nil => rfl
  | cons b r ih =>
    rw [List.length_cons, List.range_succ_eq_map, List.all_cons, List.all_map, List.all_cons, ← ih] <;> rfl
end L2
end
section
namespace L2
open PySem PySem.Spec PyProof.Rows
theorem fresh_ne {h : Heap} {a : Addr} {o : Obj} (e : h.get? a = some o) : a ≠ h.objs.size := Nat.ne_of_lt (Heap.lt_size e)
theorem call_all {X : Cx} (hc : X.calm = true) : CallR X (.builtin "all") (fun xs H Q => ∃ (p : Addr) (bs : List Bool), xs = [.ref p] ∧ SqL X.K H p (bs.map V.bl) ∧ Q (.bl (bs.all id)) H) := by
  intro pins s σ H xs us Q I r h
  obtain ⟨p, bs, rfl, hq, q⟩ := h
  obtain ⟨u, rfl, rx⟩ := vals1 r
  cases rx
  obtain ⟨its, rv, pl, hz⟩ := I.list hq
  have hl : its.length = bs.length := by rw [← rv.length, List.length_map]
  refine call_all_walk (wpAny_pyIter_list pl.isList ?_)
  obtain ⟨o, ho, hrest⟩ := id pl.isList
  have hne : p ≠ s.heap.objs.size := fresh_ne ho
  refine ⟨s.heap.objs.size, _, _, _, _, _, fun i => bs.getD i false, rfl, Walks.list (A := X.A.in1) (I.ok.hd hc) s.heap.objs.size p hne its.toArray, ⟨⟨_, Heap.get?_push_size _ rfl, rfl, rfl⟩, ⟨o, Heap.get?_push_of_some _ ho, hrest⟩⟩, fun i v s' Q' E' hP hQ => ?_, fun h' tk hk => ?_⟩
  · have e : v = Value.bool (bs.getD i false) := bl_get rv (by simpa using hP)
    subst e
    exact wpAny_truthy_bool hQ
  · have e2 : (List.range its.toArray.size).all (fun i => bs.getD i false) = bs.all id := by rw [List.size_toArray, hl]; exact all_range
    rw [e2]
    exact ⟨.bl (bs.all id), H, I.kept (t' := tk) fun b o' e => hk b o' (fun z => fresh_ne e (List.mem_singleton.mp z)) (Heap.get?_push_of_some _ e), rfl, q⟩
noncomputable def upTo (n : Nat) : List V := (List.range n).map fun i : Nat => V.int (i : Int)
theorem upTo_length (n : Nat) : (upTo n).length = n := by unfold upTo; simp
noncomputable def rRng1 : List V → Hp → VK → Prop := fun xs H Q => ∃ j : Int, xs = [.int j] ∧ -(2 ^ 62) ≤ j ∧ j < 2 ^ 62 ∧ ∀ p, H p = none → Q (.ref p) (upd H p (.rng 0 j))
theorem call_range1 {X : Cx} : CallR X (.type "range") rRng1 := by
  intro pins s σ H xs us Q I r h
  obtain ⟨j, rfl, h1, h2, q⟩ := h
  obtain ⟨u, rfl, t, rfl⟩ := vals1 r
  refine call_range_1 ?_
  exact ⟨.ref s.heap.objs.size, _, I.laid (fun b o e => Heap.get?_push_of_some _ e) (Nat.le_refl _) (show ObjOk X.prog X.w _ _ _ (.rng 0 j) from ⟨_, _, _, Heap.get?_push_size _ rfl⟩), rfl, q _ (I.hok.fresh (Nat.le_refl _))⟩
theorem vals_items {n : Nat} {acc : Array Value} (h : ItemsOf (fun i v => ∃ t, v = .int ((0 : Int) + i * 1) t) acc n) : Vals (upTo n) acc.toList := by
  obtain ⟨hs, hi⟩ := h
  have gen : ∀ (l : List Value) (k : Nat), (∀ j v, l[j]? = some v → ∃ t, v = Value.int ((k + j : Nat) : Int) t) → Vals ((List.range' k l.length).map fun i : Nat => V.int (i : Int)) l := by
    intro l
    induction l with
    | nil => intro k _; exact .nil
    | cons a r ih =>
      intro k hk
      rw [List.length_cons, List.range'_succ, List.map_cons]
      refine .cons ?_ (ih (k + 1) fun j v hj => ?_)
      · obtain ⟨t, e⟩ := hk 0 a rfl
        exact ⟨t, by simpa using e⟩
      · obtain ⟨t, e⟩ := hk (j + 1) v (by simpa using hj)
        exact ⟨t, by rw [e]; congr 1; omega⟩
  have e : acc.toList.length = n := by simpa using hs
  have z := gen acc.toList 0 fun j v hj => by
    obtain ⟨t, e⟩ := hi j v (by simpa using hj)
    exact ⟨t, by rw [e]; congr 1; omega⟩
  rw [e] at z
  unfold upTo
  rw [List.range_eq_range']
  exact z
theorem call_list_rng {X : Cx} (hc : X.calm = true) : CallR X (.type "list") (fun xs H Q => ∃ p j, xs = [.ref p] ∧ H p = some (.rng 0 j) ∧ 0 ≤ j ∧ j ≤ 1000000 ∧ ∀ l, H l = none → Q (.ref l) (upd H l (.lst (upTo j.toNat)))) := by
  intro pins s σ H xs us Q I r h
  obtain ⟨p, j, rfl, hp, h1, h2, q⟩ := h
  obtain ⟨u, rfl, rx⟩ := vals1 r
  cases rx
  obtain ⟨t, u, v, e⟩ := (show ObjOk X.prog X.w H s.heap p (.rng 0 j) from I.hok p _ hp)
  refine call_list_range (I.ok.hd hc) (r := p) (a := 0) (b := j) (c := 1) (n := j.toNat) e (small_one (by omega) (by omega) (by omega) (by omega)) (by rw [rangeSize_one]; split <;> omega) (by omega) fun h' tk acc' c' hk hS hacc => ?_
  have z : sizeLine ≥ 1000000 := by decide
  refine ⟨.ref s.heap.objs.size, _, I.laid (t' := tk) hk (Nat.le_refl _) (show ObjOk X.prog X.w _ h' _ (.lst (upTo j.toNat)) from ⟨by rw [upTo_length]; omega, acc'.toList, c', vals_items hacc, hS⟩), rfl, q _ (I.hok.fresh (Nat.le_refl _))⟩
theorem getD_vals {xs : List V} {its : List Value} (r : Vals xs its) {j : Nat} (h : j < its.toArray.size) : RelV (xs.getD j .non) its.toArray[j] := by
  have hl := r.length
  have h1 : j < its.length := by simpa using h
  have h2 : j < xs.length := by omega
  obtain ⟨u, e1, e2⟩ := r.get (i := j) (x := xs[j]) (List.getElem?_eq_getElem h2)
  have e3 : its.toArray[j] = u := by
    rw [List.getElem?_eq_getElem h1] at e1
    simpa using e1
  rw [e3, List.getD_eq_getElem?_getD, List.getElem?_eq_getElem h2]
  exact e2
end L2
end
section
namespace L2
open PySem PySem.Spec PyProof.Rows
theorem same_new {H : Hp} {p : Addr} (h : H p = none) (o : HO) : Same H (upd H p o) := fun b u q => by rw [upd_ne (ne_of_none q h)]; exact q
theorem SqT.of' {K : PySem.W.Frag} {H : Hp} {a : Addr} {xs : List V} (h : H a = some (.tup xs)) : SqT K H a xs := SqT.of h
theorem noFill_tuple_mul : fillsNumberSlot (.type "tuple") "mul" = pure false := by first | rfl | decide +kernel | kernel_rfl
end L2
end
section
namespace L2
open PySem PySem.Spec PyProof.Rows
theorem repeat_tuple : seqRepeat? (.type "tuple") = pure (some (.builtin "tuple.__mul__")) := by
  unfold seqRepeat?
  rw [PySem.seqSlot_of (T := "tuple") (name := "__mul__") (id := "tuple.__mul__") PySem.F.slot_tuple_mul.lookup (by decide +kernel), PySem.seqSlot_of (T := "tuple") (name := "__rmul__") (id := "tuple.__rmul__") PySem.F.slot_tuple_rmul.lookup (by decide +kernel)]
  rfl
theorem int_rmul_tuple (a : Int) (t : Tok) (l : Addr) (items : Array Value) (n : Nat) (dd : Option Addr) (sl : Array (Option Value)) :
    Meets (Builtin.«int.__rmul__» ⟨[.int a t, .ref l], []⟩) (fun _ R s => s.heap.get? l = some { cls := .type "tuple", dict := dd, data := .seq items n, slots := sl } ∧ R (.ok (.ret Value.notImplemented)) s) :=
  .of_wp fun prog w A R s h => by obtain ⟨hp, g, d, tk, os⟩ := s; obtain ⟨hl, h⟩ := h; wp_walk; exact ⟨_, rfl, h⟩
theorem tuple_mul_same (l : Addr) (items : Array Value) (n : Nat) (dd : Option Addr) (sl : Array (Option Value)) (t : Tok) :
    Meets (Builtin.«tuple.__mul__» ⟨[.ref l, .int 1 t], []⟩) (fun _ R s => s.heap.get? l = some { cls := .type "tuple", dict := dd, data := .seq items n, slots := sl } ∧ R (.ok (.ret (Value.ref l))) s) :=
  .of_wp fun prog w A R s h => by obtain ⟨hp, g, d, tk, os⟩ := s; obtain ⟨hl, h⟩ := h; have f1 := AutoSeq1.idx_int; have f2 := AutoSeq1.sub_tuple_tuple; have hc : (items.isEmpty || (1 : Int) == 1) = true := by simp
                                  wp_walk using wpAny_loadPart' hl
                                  exact ⟨_, rfl, h⟩
theorem tuple_mul_new (l : Addr) (items : Array Value) (n : Nat) (dd : Option Addr) (sl : Array (Option Value)) (k : Int) (t : Tok) (h1 : ¬ (decide (k < -(2 ^ 63)) || decide (k ≥ 2 ^ 63)) = true) (h2 : ¬ (items.isEmpty || k == 1) = true) (h3 : ¬ (decide (k ≤ 0) || items.isEmpty) = true)
    (h4 : ¬ (items.size * k > (2 ^ 63 - 1) / 8)) (h5 : ¬ Builtin.Tuple.tupleTooMany (items.size * k) = true) (h6 : ((List.replicate k.toNat items).foldl (· ++ ·) #[]).size ≤ sizeLine) :
    Meets (Builtin.«tuple.__mul__» ⟨[.ref l, .int k t], []⟩) (fun _ R s => s.heap.get? l = some { cls := .type "tuple", dict := dd, data := .seq items n, slots := sl } ∧ R (.ok (.ret (Value.ref s.heap.objs.size))) { s with heap := s.heap.push { cls := Value.type "tuple", data := Data.seq ((List.replicate k.toNat items).foldl (· ++ ·) #[]) }, toks := s.toks }) :=
  .of_wp fun prog w A R s h => by obtain ⟨hp, g, d, tk, os⟩ := s; obtain ⟨hl, h⟩ := h; have f1 := AutoSeq1.idx_int; have f2 := AutoSeq1.sub_tuple_tuple
                                  wp_walk using wpAny_loadPart' hl
                                  rw [if_neg h1]
                                  wp_walk using wpAny_loadPart' hl
                                  rw [if_neg h4]
                                  (try dsimp only)
                                  rw [if_neg h5]
                                  wp_walk using wpAny_loadPart' hl
                                  exact ⟨_, rfl, h⟩
theorem foldl_rep0 (its : List Value) (m : Nat) : List.foldl (fun x1 x2 => x1 ++ x2) #[] (List.replicate m its.toArray) = (List.replicate m its).flatten.toArray := by
  have := foldl_rep its m []
  rw [List.nil_append] at this
  exact this
end L2
end
section
namespace L2
open PySem PySem.Spec PyProof.Rows
namespace HT
end HT
end L2
end
section
namespace L2
open PySem PySem.Spec PyProof.Rows PySem.W
noncomputable def Leaf {α : Type} (n : Nat) (P : α → Prop) : KasT α → Prop
  | .ret a => P a
  | .ask i j k => i < n ∧ j < n ∧ ∀ b, Leaf n P (k b)
theorem Leaf.bind {α β : Type} {n : Nat} {P : α → Prop} {R : β → Prop} {f : α → KasT β} (hf : ∀ a, P a → Leaf n R (f a)) : ∀ {t : KasT α}, Leaf n P t → Leaf n R (t.bind f)
  | .ret a, h => hf a h
  | .ask i j k, h => ⟨h.1, h.2.1, fun b => Leaf.bind hf (h.2.2 b)⟩
noncomputable abbrev OfN (n : Nat) (p : Array Nat) : Prop := p.toList.Perm (List.range n)
theorem OfN.lt {n : Nat} {p : Array Nat} (h : OfN n p) (hn : 0 < n) (k : Nat) : p.getD k 0 < n := by
  by_cases hk : k < p.size
  · have e : p.getD k 0 = p[k] := by simp [Array.getD, hk]
    rw [e]
    exact List.mem_range.mp (h.subset (by simp))
  · have e : p.getD k 0 = 0 := by simp [Array.getD, hk]
    rw [e]; exact hn
theorem OfN.rev {n : Nat} {p : Array Nat} (h : OfN n p) (i j : Nat) : OfN n (kas_rev p i j) := (mirror_perm p i j _).toList.trans h
theorem OfN.bub {n : Nat} {p : Array Nat} (h : OfN n p) (i j : Nat) : OfN n (bubble p i j) := (bubble_perm p i j).toList.trans h
theorem leaf_asc {n : Nat} {p : Array Nat} (hp : OfN n p) (hn : 0 < n) : ∀ f k, Leaf n (fun _ => True) (kas_asc p f k)
  | 0, _ => True.intro
  | f + 1, k => ⟨hp.lt hn _, hp.lt hn _, fun b => by
    cases b with
    | true => exact True.intro
    | false => exact leaf_asc hp hn f (k + 1)⟩
theorem leaf_desc {n : Nat} (hn : 0 < n) : ∀ f (p : Array Nat) k q, OfN n p → Leaf n (fun r => OfN n r.1) (kas_desc f p k q)
  | 0, _, _, _, hp => hp
  | f + 1, p, k, q, hp => ⟨hp.lt hn _, hp.lt hn _, fun b => by
    cases b with
    | true =>
      show Leaf n _ (if q > 0 then kas_desc f (kas_rev p (k - (q + 1)) k) (k + 1) 0 else kas_desc f p (k + 1) 0)
      split
      · exact leaf_desc hn f _ _ _ (hp.rev _ _)
      · exact leaf_desc hn f _ _ _ hp
    | false =>
      refine ⟨hp.lt hn _, hp.lt hn _, fun c => ?_⟩
      cases c with
      | true => exact hp
      | false => exact leaf_desc hn f _ _ _ hp⟩
theorem leaf_tail3 {n : Nat} (hn : 0 < n) {p : Array Nat} (hp : OfN n p) (a b : Nat) : Leaf n (fun r => OfN n r.2) (kas_tail3 a b p) := by
  unfold kas_tail3
  exact Leaf.bind (P := fun _ => True) (R := fun r : Nat × Array Nat => OfN n r.2) (f := fun m => KasT.ret (m, kas_rev p 0 a)) (fun m _ => (show OfN n (kas_rev p 0 a) from hp.rev 0 a)) (leaf_asc (hp.rev 0 a) hn _ _)
theorem leaf_descPart {n : Nat} (hn : 0 < n) {p : Array Nat} (hp : OfN n p) (a b : Nat) : Leaf n (fun r => OfN n r.2) (kas_descPart a b p) := by
  refine Leaf.bind (fun r hr => ?_) (leaf_desc hn _ _ _ _ hp)
  split
  · exact leaf_tail3 hn (OfN.rev hr _ _) _ _
  · exact leaf_tail3 hn hr _ _
theorem leaf_count {n : Nat} (hn : 0 < n) {p : Array Nat} (hp : OfN n p) (b : Nat) : Leaf n (fun r => OfN n r.2) (kas_count b p) := by
  refine Leaf.bind (fun r _ => ?_) (leaf_asc hp hn _ _)
  split
  · exact hp
  · split
    · refine ⟨hp.lt hn _, hp.lt hn _, fun c => ?_⟩
      cases c with
      | true => exact hp
      | false => exact leaf_descPart hn (hp.rev _ _) _ _
    · exact leaf_descPart hn hp _ _
theorem leaf_place {n : Nat} (hn : 0 < n) {p : Array Nat} (hp : OfN n p) (k : Nat) : ∀ f l r, Leaf n (fun _ => True) (kas_place p k f l r)
  | 0, _, _ => True.intro
  | f + 1, l, r => by
    show Leaf n _ (if l ≥ r then .ret l else .ask (p.getD k 0) (p.getD ((l + r) / 2) 0) fun c => if c = true then kas_place p k f l ((l + r) / 2) else kas_place p k f ((l + r) / 2 + 1) r)
    split
    · exact True.intro
    · refine ⟨hp.lt hn _, hp.lt hn _, fun c => ?_⟩
      cases c with
      | true => exact leaf_place hn hp k f _ _
      | false => exact leaf_place hn hp k f _ _
theorem leaf_bin {n : Nat} (hn : 0 < n) : ∀ f (p : Array Nat) k, OfN n p → Leaf n (OfN n) (kas_bin f p k)
  | 0, _, _, hp => hp
  | f + 1, p, k, hp => Leaf.bind (fun l _ => leaf_bin hn f _ _ (hp.bub _ _)) (leaf_place hn hp k _ _ _)
theorem leaf_sort {n : Nat} (hn : 0 < n) : Leaf n (OfN n) (kas_sort n) := by
  refine Leaf.bind (fun r hr => ?_) (leaf_count hn (show OfN n (List.toArray (List.range n)) from .refl _) n)
  split
  · exact leaf_bin hn _ _ _ hr
  · exact hr
theorem HOk.stands {P : Program} {w : World} {H : Hp} {h : Heap} {a : Addr} {o : HO} (x : HOk P w H h) (e : H a = some o) : ∃ ob, h.get? a = some ob := by
  have y := x a o e
  cases o with
  | lst xs => obtain ⟨_, _, _, _, z⟩ := y; exact ⟨_, z⟩
  | tup xs => obtain ⟨_, _, _, ob, z, _⟩ := y; exact ⟨_, z⟩
  | dK kvs => obtain ⟨_, _, _, _, ob, _, _, z, _⟩ := y; exact ⟨_, z⟩
  | dT kvs => obtain ⟨_, _, _, _, ob, _, _, z, _⟩ := y; exact ⟨_, z⟩
  | set S n => obtain ⟨ob, _, _, _, z, _⟩ := y; exact ⟨_, z⟩
  | ins C dx fs => obtain ⟨_, _, _, z, _⟩ := y; exact ⟨_, z⟩
  | own y' => exact y
  | xd fs => obtain ⟨_, ⟨ob, _, _, z, _⟩, _⟩ := y; exact ⟨_, z⟩
  | rng lo hi => obtain ⟨_, _, _, z⟩ := y; exact ⟨_, z⟩
  | frz ob u => exact ⟨_, y.1⟩
  | tbl ps => exact ⟨_, (show h.get? a = some { cls := .none, data := .fields ps } from y)⟩
  | met f y' => exact ⟨_, (show h.get? a = some (PySem.W.methodObj (.ref f) (.ref y')) from y)⟩
  | ext φ => exact y.2.1
theorem ns_one {h : Heap} {L : Addr} {m m' : Str → Option Value} (a : h.Ns L m) (b : h.Ns L m') : m = m' := by
  obtain ⟨o, es, ep, h1, h2, h3, h4⟩ := a
  obtain ⟨o', es', ep', h1', h2', h3', h4'⟩ := b
  rw [h1] at h1'
  cases h1'
  rw [h2] at h2'
  cases h2'
  funext x
  rw [← h4 x, ← h4' x]
section
variable {X : Cx} {pins : List (Addr × Obj)} {σ : St} {H : Hp} {s : Shared}
theorem Inv.ledger {h' : Heap} {m : Str → Option Value} {D : Addr} {ys : List V} {out : List Value} {c : Nat} (I : Inv X pins σ H s) (F0 : Fr X.base X.env.locals s.heap m) (F : Fr X.base X.env.locals h' m) (N : News X.base X.env.locals h' ((D, listOf (List.toArray out) c) :: allNews X.base s.heap X.env.locals))
    (hD : s.heap.get? D = none) (r : Vals ys out) (hz : ys.length ≤ sizeLine) : Inv X pins σ (upd H D (.lst ys)) { s with heap := h' } ∧ H D = none := by
  have hHD : H D = none := by
    cases e : H D with
    | none => rfl
    | some o =>
      obtain ⟨ob, z⟩ := I.hok.stands e
      rw [hD] at z; cases z
  have kept : ∀ b o, b ≠ X.env.locals → s.heap.get? b = some o → h'.get? b = some o := fun b o hb e => by
    cases q : X.base.get? b with
    | some u =>
      have z := I.bk b u q
      rw [e] at z; cases z
      exact F.keep b _ q
    | none => exact (N (b, o) (List.mem_cons_of_mem _ (mem_allNews hb q e))).1
  have ne : ∀ b o, H b = some o → b ≠ D := fun b o e z => by subst z; rw [hHD] at e; cases e
  have neL : ∀ b o, H b = some o → b ≠ X.env.locals := fun b o e z => by subst z; rw [I.free] at e; cases e
  have hd := (N (D, listOf (List.toArray out) c) (List.mem_cons_self)).1
  refine ⟨I.step (g' := s.gens) (t' := s.toks) (d' := s.drawn) (ch := []) (fun _ z => nomatch z) (fun b o hL _ _ e _ => kept b o hL e) (fun b o hL _ _ e _ => ⟨o.slots, kept b o hL e⟩) (fun b o _ e n => ?_) (fun b o _ e => ?_)
    (fun b xs e => by rw [upd_ne (ne b _ e)]; exact e) (fun b o u e => by rw [upd_ne (ne b _ e)]; exact e) (fun b ps e => ⟨#[], by rw [upd_ne (ne b _ e), e]; simp⟩) (fun m1 hm => ?_) (fun b o e => ?_) I.bare, hHD⟩
  · rw [upd_ne (fun z => by subst z; rw [hD] at e; cases e)]; exact n
  · by_cases hb : b = X.env.locals
    · subst hb
      obtain ⟨o', _, _, z, _⟩ := F.ns
      exact ⟨o', z⟩
    · exact ⟨o, kept b o hb e⟩
  · rw [ns_one hm F0.ns]; exact F.ns
  · by_cases hb : b = D
    · subst hb
      rw [upd_same] at e
      cases e
      exact ⟨hz, out, c, r, hd⟩
    · rw [upd_ne hb] at e
      refine (I.hok b o e).stay (fun d u hc q => kept d u ?_ q) (fun d z => by rw [upd_ne (ne d _ z)]; exact z) fun d xs z => by rw [upd_ne (ne d _ z)]; exact z
      rcases hc with z | z
      · rw [z]; exact neL b _ e
      · exact neL d _ z
end
section
variable {prog : Program} {w : World} {A : Around} {E : Value → Shared → Prop} {s : Shared}
theorem sort_short {a : Addr} {vs : List Value} {n : Nat} {P : PySem.Fin → Shared → Prop} (ho : s.heap.get? a = some (seqObj "list" vs.toArray n)) (h2 : vs.length < 2)
    (h : P (.done (.ret .none)) { s with heap := sortedHeap s.heap a vs vs.toArray }) : wpAny (model prog w) A (Builtin.«list.sort» ⟨[.ref a], []⟩) P E s := by
  rw [list_sort_plain]
  have ha := Heap.lt_size ho
  refine wpAny_bind (listItems_at ho rfl (wpAny_bind (listUpdate_at ho rfl ?_ (by rw [List.size_toArray, sizeLine_eq]; omega) (Nat.zero_le _))))
  obtain ⟨e1, ho1⟩ : ∃ e1, (s.heap.update a (Obj.mapSeq fun _ => (#[] : Array Value))).get? a = some (seqObj "list" #[] e1) := ⟨_, get?_update_seq ho fun _ => #[]⟩
  refine wpAny_bind (seqEpoch_at ho1 rfl (wpAny_bind (wpAny_newTuple (wpAny_bind (wpAny_newList (wpAny_holding ?_) (Nat.zero_le _))) (by show vs.length ≤ _; rw [sizeLine_eq]; omega))))
  have ho6 : (((s.heap.update a (Obj.mapSeq fun _ => (#[] : Array Value))).push (seqObj "tuple" vs.toArray 0)).push (seqObj "list" #[] 0)).get? a = some (seqObj "list" #[] e1) := Heap.get?_push_of_some _ (Heap.get?_push_of_some _ ho1)
  show wpAny (model prog w) A _ P E { s with heap := ((s.heap.update a (Obj.mapSeq fun _ => (#[] : Array Value))).push (seqObj "tuple" vs.toArray 0)).push (seqObj "list" #[] 0) }
  dsimp only
  have hlt : vs.toArray.size < 2 := by rw [List.size_toArray]; exact h2
  rw [if_pos hlt, if_pos hlt]
  refine wpAny_bind (wpAny_pure ?_)
  rw [StateT.run_pure]
  have hsn : (arrOf (SortSt.mk' general' (vs.toArray.zip vs.toArray) #[] 7 none)).map (·.2) = vs.toArray := by
    show (vs.toArray.zip vs.toArray).map (·.2) = vs.toArray
    apply Array.toList_inj.mp
    simp
    exact List.map_snd_zip (by simp)
  refine wpAny_bind (wpAny_pure ?_)
  dsimp only
  refine wpAny_bind (seqEpoch_at ho6 rfl ?_)
  refine wpAny_bind (listUpdate_at ho6 rfl ?_ (Nat.zero_le _) (by rw [hsn, List.size_toArray, sizeLine_eq]; omega))
  simp only [bne_self_eq_false, Bool.false_eq_true, if_false]
  rw [hsn]
  exact wpAny_pure h
theorem sorted_short {l : Addr} {vs : List Value} {Q : Value → Shared → Prop} (hl : s.heap.IsList l vs.toArray) (h2 : vs.length < 2) (h : Q (.ref (s.heap.objs.size + 1)) { s with heap := sortedAll s.heap vs vs.toArray }) :
    wpAny (model prog w) A (call (.builtin "sorted") [.ref l]) Q E s := by
  refine Calls.call_function_entry kind_sorted plain_sorted entry_sorted (args_sorted1 _) ?_
  unfold Builtin.«sorted»
  refine wpAny_bind (m := checkCount "sorted" 1 1 _) (wpAny_pure (wpAny_bind (collect_list hl (wpAny_bind (wpAny_newList ?_ (by rw [sizeLine_eq]; omega))) (by rw [sizeLine_eq]; omega))))
  have hsz : ((s.heap.push (seqObj "list" #[] 0)).update s.heap.objs.size (Obj.mapSeq (· ++ vs.toArray))).objs.size = s.heap.objs.size + 1 := (Heap.size_update ..).trans (size_push' ..)
  have hoL : (((s.heap.push (seqObj "list" #[] 0)).update s.heap.objs.size (Obj.mapSeq (· ++ vs.toArray))).push (seqObj "list" vs.toArray 0)).get? (s.heap.objs.size + 1) = some (seqObj "list" vs.toArray 0) := hsz ▸ Heap.get?_push_size _ rfl
  show wpAny _ _ _ _ _ { s with heap := ((s.heap.push (seqObj "list" #[] 0)).update s.heap.objs.size (Obj.mapSeq (· ++ vs.toArray))).push (seqObj "list" vs.toArray 0) }
  rw [hsz]
  refine wpAny_bind (wpAny_holding (wpAny_call_entry slot_list_sort ⟨_, hoL, rfl⟩ entry_list_sort (sort_short hoL h2 ⟨_, rfl, ?_⟩) (args_list_sort _)))
  exact wpAny_pure ⟨_, rfl, h⟩
end
end L2
end
section
namespace L2
open PySem PySem.Spec PyProof.Rows PySem.W
theorem map_getD_range {α : Type} (d : α) : ∀ (xs : List α), (List.range xs.length).map (fun i => xs.getD i d) = xs := fun xs => by
  apply List.ext_getElem
  · simp
  · intro i h1 h2
    rw [List.getElem_map, List.getElem_range]
    simp [h2]
theorem vals_map {ts : List V} {its : List Value} (r : Vals ts its) : ∀ {p : List Nat}, (∀ i ∈ p, i < its.length) → Vals (p.map fun i => ts.getD i .non) (p.map fun i => its.getD i Value.none)
  | [], _ => .nil
  | i :: p, h => by
    have hi := h i List.mem_cons_self
    have hz := getD_vals r (j := i) (by simpa using hi)
    have e : its.getD i Value.none = its.toArray[i]'(by simpa using hi) := by simp [hi]
    refine .cons ?_ (vals_map r fun j hj => h j (List.mem_cons_of_mem _ hj))
    show RelV (ts.getD i .non) (its.getD i Value.none)
    rw [e]; exact hz
end L2
end
section
namespace L2
open PySem PySem.Spec PyProof.Rows
noncomputable def FunD (K : PySem.W.Frag) (mg : Str → Option Value) (x : Str) (st : Stmt) (ps : List Str) : Prop := ∃ f fd, Fun K x x st f fd ∧ (∀ us : List Value, us.length = ps.length → bindArgs fd ⟨us, []⟩ = pure (ps.zip us)) ∧ mg x = some (.ref f)
noncomputable def Def (P : Program) (w : World) (K : PySem.W.Frag) (mg : Str → Option Value) (base : Heap) (k : Nat) (x : Str) (ps : List Str) (sp : Sp) : Prop :=
  ∃ f fd, FnOk P w K mg base CX0 k f fd ps sp ∧ Binds K fd ps [] ∧ PySem.W.keepIn K (.ref f) = true ∧ mg x = some (.ref f)
section
variable {P : Program} {w : World} {K : PySem.W.Frag} {mg : Str → Option Value} {base : Heap}
theorem FunD.ok {x : Str} {st : Stmt} {N ps : List Str} {k : Nat} {sp : Sp} (F : FunD K mg x st ps) (S : FnScope N ps (defScope st)) (len : ∀ vs H Q E, sp vs H Q E → vs.length = ps.length)
    (hbody : ∀ (f : Addr) (cdv : Value) (A : Around) (outer : List Env) (s : Shared) (H : Hp) (vs : List V) (Q : VK) (E : XK), Room k (A.deeper (envOfC x (defScope st) s.heap.objs.size f cdv)) → sp vs H Q E →
      ∃ t, PSs (cxOf CX0 P w K mg base N x (defScope st) f cdv A outer s H E).nox (defBody st) t ∧ t { nx := fun _ H' => Q .non H', rt := Q } (start N vs) H) : Def P w K mg base (k + 1) x ps sp := by
  obtain ⟨f, fd, F, b, m⟩ := F
  exact ⟨f, fd, F.ok S len (hbody f), .all b, F.kp, m⟩
end
theorem FunD.top {P : Program} {w : World} {K : PySem.W.Frag} {mg : Str → Option Value} {x y : Str} {st : Stmt} {fa : Addr} {k : Nat} {sp : Sp} {N : List Str} {R : Heap → Prop} (F : FunD K mg x st [y]) (hm : mg x = some (.ref fa)) (S : FnScope N [y] (defScope st)) (len : ∀ vs H Q E, sp vs H Q E → vs.length = 1)
    (hbody : ∀ base, R base → ∀ (f : Addr) (cdv : Value) (A : Around) (outer : List Env) (s : Shared) (H : Hp) (vs : List V) (Q : VK) (E : XK), Room k (A.deeper (envOfC x (defScope st) s.heap.objs.size f cdv)) → sp vs H Q E →
      ∃ t, PSs (cxOf CX0 P w K mg base N x (defScope st) f cdv A outer s H E).nox (defBody st) t ∧ t { nx := fun _ H' => Q .non H', rt := Q } (start N vs) H) :
    ∃ fd : FuncData, (∀ (s : Shared) (u : Value), BindsTo s fd ⟨[u], []⟩ [(y, u)]) ∧ ∀ base : Heap, R base → FnOk P w K mg base CX0 (k + 1) fa fd [y] sp := by
  obtain ⟨f, fd, F, b, m⟩ := F
  rw [hm] at m
  cases m
  exact ⟨fd, fun s u => .of_eq (b [u] rfl), fun base hb => F.ok S len (hbody base hb fa)⟩
section
variable {X : Cx} {k j : Nat} {ps : List Str} {sp : Sp} {x : Str} {p pos : Pos} {e : Expr} {es : List Expr} {t : TA}
theorem pe_callD (d : Def X.prog X.w X.K X.mg X.base j x ps sp) (hr : Room k X.A) (ha : PA X (e :: es) t) (hj : j ≤ k := by decide) (hg : Gl X x := by rfl) (hdb : (x == ("__debug__" : Str)) = false := by decide) (he : starEach (e :: es) X.env = (false, eval e X.env) :: starEach es X.env := by rfl)
    (hpl : (backTo pos (starEach es X.env)).any (·.1) = false := by rfl) : PE X (.Call (.Name x p) (e :: es) [] pos) (tCall sp [] E0 t) := by
  obtain ⟨f, fd, F, b, kp, m⟩ := d
  exact pe_call F (hr.mono hj) hg m kp b .nil pass0 ha hdb he hpl
end
section
variable {X : Cx} {scope : Scope} {tg iter elt : Expr} {ifs : List Expr} {pos spos px : Pos} {g : TG} {tc : TT} {te : TE} {wi : TI}
theorem pe_cmp' (N' : List Str) (fm : List (Option Nat)) (hi : PI X tg iter wi) (hg : ∀ C s H ex, PG (X.blk scope N' C s H ex) tg g) (ht : ∀ C s H ex, PIf (X.blk scope N' C s H ex) ifs tc) (he : ∀ C s H ex, PE (X.blk scope N' C s H ex) elt te) (hk : GKeep fm g)
    (hB : blkChk scope.kind scope.names X.env.kindOf X.N N' fm = true := by rfl) (hc : X.calm = true := by rfl) (hs : ∀ x, foldedSetIterable iter X.env x = pure x := by intro _; rfl) : PE X (.ListComp elt [⟨tg, iter, ifs, 0⟩] scope pos) (tComp fm wi g tc te) :=
  pe_comp (blk_mk hB) hc hi hg hk ht he hs
theorem ps_setComp' {i : Nat} {x : Str} (N' : List Str) (fm : List (Option Nat)) (hN : X.N.Nodup) (hi : PI X tg iter wi) (hg : ∀ C s H ex, PG (X.blk scope N' C s H ex) tg g) (ht : ∀ C s H ex, PIf (X.blk scope N' C s H ex) ifs tc) (he : ∀ C s H ex, PE (X.blk scope N' C s H ex) elt te) (hk : GKeep fm g)
    (hi' : X.N[i]? = some x := by rfl) (hx : X.env.kindOf x = some .local := by rfl)
    (hB : blkChk scope.kind scope.names X.env.kindOf X.N N' fm = true := by rfl) (hc : X.calm = true := by rfl) (hsw : swapsWith (.ListComp elt [⟨tg, iter, ifs, 0⟩] scope pos) (some (.Name x px)) spos.line X.env = pure true := by rfl)
    (hs : ∀ x, foldedSetIterable iter X.env x = pure x := by intro _; rfl) : PS X (.Assign [.Name x px] (.ListComp elt [⟨tg, iter, ifs, 0⟩] scope pos) spos) (tAsg (tComp fm wi g tc te) (gName i)) :=
  ps_setComp hN hi' hx (blk_mk hB) hc hi hg hk ht he hsw hs
end
theorem fund_mk {K : PySem.W.Frag} {mg : Str → Option Value} {x : Str} {st : Stmt} {f : Addr} {oc : Value} {od an : Option Addr} {osl : Array (Option Value)} {kV doc pm cdv ct : Value} {ps : List Str} (l : K.lookup f = some ⟨oc, od, .func (PySem.W.fnOf x x (defArgs st) (defBody st) (defScope st) .none kV doc pm an cdv ct), osl⟩)
    (c : PySem.W.codeIn K cdv x = true) (k : PySem.W.keepIn K (.ref f) = true) (m : mg x = some (.ref f))
    (h : ∀ (kV doc pm : Value) (an : Option Addr) (cdv ct : Value) (us : List Value), us.length = ps.length → bindArgs (PySem.W.fnOf x x (defArgs st) (defBody st) (defScope st) .none kV doc pm an cdv ct) ⟨us, []⟩ = pure (ps.zip us)) : FunD K mg x st ps :=
  ⟨f, _, fun_mk l c k, h kV doc pm an cdv ct, m⟩
inductive Any (H : Hp) : V → Prop where
  | non : Any H .non
  | bl (b : Bool) : Any H (.bl b)
  | int (i : Int) : Any H (.int i)
  | str (x : Str) : Any H (.str x)
  | lst {a : Addr} {xs : List V} (e : H a = some (.lst xs)) : Any H (.ref a)
  | tup {a : Addr} {xs : List V} (e : H a = some (.tup xs)) : Any H (.ref a)
  | dK {a : Addr} {kvs : List (Key × V)} (e : H a = some (.dK kvs)) : Any H (.ref a)
theorem Any.mono {H H' : Hp} {v : V} (h : Any H v) (s : Same H H') : Any H' v := by
  cases h with
  | non => exact .non
  | bl b => exact .bl b
  | int i => exact .int i
  | str x => exact .str x
  | lst e => exact .lst (s _ _ e)
  | tup e => exact .tup (s _ _ e)
  | dK e => exact .dK (s _ _ e)
noncomputable def lstOf (H : Hp) : V → Option (List V)
  | .ref a => match H a with
    | some (.lst xs) => some xs
    | _ => none
  | _ => none
section
variable {X : Cx} {x : Str} {pos : Pos}
theorem pe_ty {n : String} (hm : X.mg x = none) (hv : bootBuiltins x = some (.type n)) (hg : Gl X x := by rfl) (hn : x ≠ "__name__" := by decide) (hd : (x == ("__debug__" : Str)) = false := by decide) : PE X (.Name x pos) (tC (.ty n)) := pe_bltn hg hm hv rfl hn hd
theorem pe_cst {i : Int} (h : ∃ t, X.mg x = some (.int i t)) (hg : Gl X x := by rfl) (hd : (x == ("__debug__" : Str)) = false := by decide) : PE X (.Name x pos) (tC (.int i)) := by
  obtain ⟨t, h⟩ := h
  exact pe_glob hg h ⟨t, rfl⟩ hd
end
theorem bt_len : bootBuiltins "len" = some (.builtin "len") := by decide +kernel
theorem bt_abs : bootBuiltins "abs" = some (.builtin "abs") := by decide +kernel
theorem bt_max : bootBuiltins "max" = some (.builtin "max") := by decide +kernel
theorem bt_min : bootBuiltins "min" = some (.builtin "min") := by decide +kernel
theorem bt_all : bootBuiltins "all" = some (.builtin "all") := by decide +kernel
theorem bt_isinstance : bootBuiltins "isinstance" = some (.builtin "isinstance") := by decide +kernel
theorem bt_sorted : bootBuiltins "sorted" = some (.builtin "sorted") := by decide +kernel
theorem bt_int : bootBuiltins "int" = some (.type "int") := by decide +kernel
theorem bt_bool : bootBuiltins "bool" = some (.type "bool") := by decide +kernel
theorem bt_list : bootBuiltins "list" = some (.type "list") := by decide +kernel
theorem bt_tuple : bootBuiltins "tuple" = some (.type "tuple") := by decide +kernel
theorem bt_range : bootBuiltins "range" = some (.type "range") := by decide +kernel
end L2
end
section
namespace L2
open PySem PySem.Spec PyProof.Rows
section
variable {K : PySem.W.Frag} {a : Addr} {xs : List V} {wi : TI} {g : TG} {tb : TS} {D : Ends} {σ : St} {H H1 : Hp} {lo : Int} {n : Nat}
theorem rd_for_range (Pv : Nat → St → Hp → Prop) (hw : ∀ R : It → Hp → Prop, R (Itr lo n) H1 → wi σ H R) (h0 : Pv 0 σ H1)
    (hs : ∀ i σ H, i < n → Pv i σ H → g (.int (lo + i)) σ H fun σ2 H2 => tb { D with nx := Pv (i + 1), ct := Pv (i + 1), bk := D.nx } σ2 H2) (hd : ∀ σ H, Pv n σ H → D.nx σ H) : tFor wi g tb D σ H := hw _ (for_range Pv h0 hs hd)
end
theorem Same.upd {H H' : Hp} {l : Addr} (s : Same H H') (h : H' l = none) (o : HO) : Same H (L2.upd H' l o) := s.trans (same_new h o)
section
variable {X : Cx} {K : PySem.W.Frag} (h : X.K = K)
include h
theorem k_gtup {es : List Expr} {k : Nat} {t : TGs} {n : Nat} {pos : Pos} (hc : X.calm = true) (hh : PGs X es t) (hn : (assignEach es X.env).length = n := by rfl) (hst : (assignEach es X.env).findIdx? (·.1) = none := by rfl) : PG X (.Tuple es k pos) (gTup K n t) := by subst h; exact pg_tup hc hh hn hst
end
noncomputable def NS (e : Expr) : Prop := ∀ (es : List Expr) (env : Env), starEach (e :: es) env = (false, eval e env) :: starEach es env
theorem ns_Constant {k v p} : NS (.Constant k v p) := fun _ _ => rfl
theorem ns_Name {k p} : NS (.Name k p) := fun _ _ => rfl
theorem ns_Tuple {k v p} : NS (.Tuple k v p) := fun _ _ => rfl
theorem ns_BinOp {a o b p} : NS (.BinOp a o b p) := fun _ _ => rfl
theorem ns_Compare {a o b p} : NS (.Compare a o b p) := fun _ _ => rfl
theorem ns_Call {a o b p} : NS (.Call a o b p) := fun _ _ => rfl
theorem ns_Subscript {a b p} : NS (.Subscript a b p) := fun _ _ => rfl
theorem ns_ListComp {a b c p} : NS (.ListComp a b c p) := fun _ _ => rfl
theorem pa_consN {X : Cx} {e : Expr} {es : List Expr} {te : TE} {t : TA} (h : NS e) (ha : PE X e te) (hr : PA X es t) : PA X (e :: es) (tCons te t) := pa_cons ha hr (h es X.env)
end L2
end
section
namespace L2
open PySem PySem.Spec PyProof.Rows
inductive TabEs (w : World) : List DictEntry → List (Str × Addr) → Prop where
  | nil : TabEs w [] []
  | cons {x : Str} {t : Tok} {f : Addr} {es : List DictEntry} {kvs : List (Str × Addr)} : TabEs w es kvs → TabEs w (⟨PyData.keyHash w.params x, .str x t, .ref f⟩ :: es) ((x, f) :: kvs)
structure Tab (w : World) (K : PySem.W.Frag) (a : Addr) (kvs : List (Str × Addr)) : Prop where
  sys : (a == sysModules) = false
  nd : (kvs.map (·.1)).Nodup
  it : ∃ (es : Array DictEntry) (ep : Nat), K.lookup a = some ⟨.type "dict", none, .dict es ep, #[]⟩ ∧ TabEs w es.toList kvs
noncomputable def tabV (kvs : List (Str × Addr)) : List (Key × Value) := kvs.map fun p => (.inr p.1, .ref p.2)
theorem TabEs.ok {P : Program} {w : World} : ∀ {es : List DictEntry} {kvs : List (Str × Addr)}, TabEs w es kvs → (∀ e ∈ es, ∃ k, (mixKind P w).is k e.key = true ∧ e.hash = (mixKind P w).hash k) ∧ Pairs (mixKind P w) es (tabV kvs)
  | _, _, .nil => ⟨fun _ h => (by cases h), .nil⟩
  | _, _, @TabEs.cons _ x t f es kvs r => by
    obtain ⟨a, b⟩ := r.ok (P := P)
    refine ⟨fun e he => ?_, .cons (mixKind_str P w x t) rfl b⟩
    rcases List.mem_cons.mp he with rfl | he
    · exact ⟨.inr x, mixKind_str P w x t, rfl⟩
    · exact a e he
theorem Tab.dict {w : World} {K : PySem.W.Frag} {a : Addr} {kvs : List (Str × Addr)} {P : Program} {h : Heap} (T : Tab w K a kvs) (X : K.In h) : h.DictOf (mixKind P w) a (tabV kvs) := by
  obtain ⟨s, nd, es, ep, l, r⟩ := T
  obtain ⟨a1, a2⟩ := r.ok (P := P)
  refine ⟨_, es, ep, X a _ l, ⟨rfl, rfl, rfl⟩, rfl, fun e he => a1 e (Array.mem_toList_iff.mpr he), a2, ?_⟩
  have : (tabV kvs).map (·.1) = (kvs.map (·.1)).map (Sum.inr : Str → Key) := by simp [tabV]
  rw [this]
  exact nd.map _ fun _ _ ne e => ne (Sum.inr.inj e)
noncomputable def DefA (P : Program) (w : World) (K : PySem.W.Frag) (mg : Str → Option Value) (base : Heap) (k : Nat) (f : Addr) (ps : List Str) (sp : Sp) : Prop :=
  ∃ fd, FnOk P w K mg base CX0 k f fd ps sp ∧ Binds K fd ps [] ∧ PySem.W.keepIn K (.ref f) = true
theorem Def.at {P : Program} {w : World} {K : PySem.W.Frag} {mg : Str → Option Value} {base : Heap} {k : Nat} {x : Str} {ps : List Str} {sp : Sp} {f : Addr} (d : Def P w K mg base k x ps sp) (h : mg x = some (.ref f)) : DefA P w K mg base k f ps sp := by
  obtain ⟨f', fd, F, b, kp, m⟩ := d
  rw [h] at m
  cases m
  exact ⟨fd, F, b, kp⟩
theorem DefA.imp {P : Program} {w : World} {K : PySem.W.Frag} {mg : Str → Option Value} {base : Heap} {k : Nat} {f : Addr} {ps : List Str} {sp sp' : Sp} (d : DefA P w K mg base k f ps sp) (h : ∀ vs H Q E, sp' vs H Q E → sp vs H Q E) : DefA P w K mg base k f ps sp' := by
  obtain ⟨fd, F, r⟩ := d
  exact ⟨fd, F.imp h, r⟩
end L2
end
section
namespace L2
open PySem PySem.Spec PyProof.Rows PySem.SeqAt
inductive Deq (K : PySem.W.Frag) (H : Hp) : Nat → V → V → Bool → Prop where
  | flat {n : Nat} {x y : V} : flatV x = true → flatV y = true → Deq K H n x y (eqV x y)
  | same {n : Nat} {a : Addr} : Deq K H n (.ref a) (.ref a) true
  | tup {n : Nat} {a b : Addr} {xs ys : List V} {e : Nat → Bool} : a ≠ b → SqT K H a xs → SqT K H b ys → (∀ j, j < xs.length → j < ys.length → Deq K H n (xs.getD j .non) (ys.getD j .non) (e j)) →
      Deq K H (n + 1) (.ref a) (.ref b) ((List.range (min xs.length ys.length)).all e && xs.length == ys.length)
theorem Deq.at {X : Cx} {pins : List (Addr × Obj)} {σ : St} {H : Hp} {s : Shared} (I : Inv X pins σ H s) {n : Nat} {x y : V} {k : Bool} (d : Deq X.K H n x y k) : ∀ {A : Around} {u v : Value}, A.units + n < cLine → RelV x u → RelV y v → EqAt A s u v k := by
  induction d with
  | flat fx fy =>
    intro A u v hu rx ry
    exact eqAt_V rx ry fx fy
  | same =>
    intro A u v hu rx ry
    cases rx; cases ry
    exact EqAt.same _
  | @tup n a b xs ys e hne ha hb hd ih =>
    intro A u v hu rx ry
    cases rx; cases ry
    obtain ⟨its, r1, p1, z1⟩ := I.tuple ha
    obtain ⟨its2, r2, p2, z2⟩ := I.tuple hb
    have l1 := r1.length
    have l2 := r2.length
    refine EqAt.of_refs hne ?_
    have q := RcAt.tuples (A := A) (s := s) (e := e) p1 p2 (by omega) (fun j h1 h2 => ih j (by simp at h1; omega) (by simp at h2; omega) (by show A.units + 1 + n < cLine; omega) (getD_vals r1 h1) (getD_vals r2 h2))
    simpa [l1, l2] using q
end L2
end
section
namespace L2
open PySem PySem.Spec PyProof.Rows PySem.W
noncomputable def runT {α : Type} (c : Nat → Nat → Bool) : KasT α → α
  | .ret a => a
  | .ask i j k => runT c (k (c i j))
theorem run_wp {α : Type} {n : Nat} {P : α → Prop} {cmp : Nat → Nat → (Bool → Shared → Prop) → Shared → Prop} {Q : α → Shared → Prop} {s : Shared} (lt : Nat → Nat → Bool) (hc : ∀ i j C, i < n → j < n → C (lt i j) s → cmp i j C s) :
    ∀ {t : KasT α}, Leaf n P t → (P (runT lt t) → Q (runT lt t) s) → t.kasWp cmp Q s
  | .ret a, h, hq => hq h
  | .ask i j k, h, hq => hc i j _ h.1 h.2.1 (run_wp lt hc (h.2.2 (lt i j)) hq)
theorem run_leaf {α : Type} {n : Nat} {P : α → Prop} (lt : Nat → Nat → Bool) : ∀ {t : KasT α}, Leaf n P t → P (runT lt t)
  | .ret a, h => h
  | .ask i j k, h => run_leaf (t := k (lt i j)) lt (h.2.2 (lt i j))
noncomputable def lexZ (fin : Bool) : List (Int × Int) → Bool
  | [] => fin
  | (x, y) :: r => if x = y then lexZ fin r else decide (x < y)
noncomputable def ltI (xs ys : List Int) : Bool := lexZ (decide (xs.length < ys.length)) (xs.zip ys)
noncomputable def ordI (ks : List (List Int)) : List Nat := if ks.length < 2 then List.range ks.length else (runT (fun i j => ltI (ks.getD i []) (ks.getD j [])) (kas_sort ks.length)).toList
theorem ordI_perm (ks : List (List Int)) : (ordI ks).Perm (List.range ks.length) := by
  unfold ordI
  split
  · exact .refl _
  · exact run_leaf _ (leaf_sort (by omega))
inductive TupsIn (H : Hp) : List V → List (List Int) → Prop where
  | nil : TupsIn H [] []
  | cons {a : Addr} {is : List Int} {ts : List V} {ks : List (List Int)} : H a = some (.tup (is.map V.int)) → is ≠ [] → TupsIn H ts ks → TupsIn H (.ref a :: ts) (is :: ks)
theorem TupsIn.length {H : Hp} {ts : List V} {ks : List (List Int)} (h : TupsIn H ts ks) : ts.length = ks.length := by
  induction h with
  | nil => rfl
  | cons _ _ _ ih => rw [List.length_cons, List.length_cons, ih]
theorem TupsIn.get {H : Hp} {ts : List V} {ks : List (List Int)} (h : TupsIn H ts ks) : ∀ {i : Nat}, i < ts.length → ∃ a, ts.getD i .non = .ref a ∧ H a = some (.tup ((ks.getD i []).map V.int)) ∧ ks.getD i [] ≠ [] := by
  induction h with
  | nil => intro i hi; exact absurd hi (Nat.not_lt_zero _)
  | @cons a is ts ks h1 h2 h3 ih =>
    intro i hi
    cases i with
    | zero => exact ⟨a, rfl, h1, h2⟩
    | succ i => exact ih (by simpa using hi)
section
variable {X : Cx} {pins : List (Addr × Obj)} {σ : St} {H : Hp} {s : Shared}
theorem tup_at (I : Inv X pins σ H s) {a : Addr} {is : List Int} (h : H a = some (.tup (is.map V.int))) : a ≠ X.env.locals ∧ ∃ o n vs, Vals (is.map V.int) vs ∧ s.heap.get? a = some o ∧ o.cls = .type "tuple" ∧ o.data = .seq vs.toArray n := by
  refine ⟨fun z => ?_, ?_⟩
  · rw [z, I.free] at h; cases h
  · obtain ⟨_, its, r, o, e, c, n, d⟩ := (show ObjOk X.prog X.w H s.heap a (.tup (is.map V.int)) from I.hok a _ h)
    exact ⟨o, n, its, r, e, c, d⟩
theorem tups_in (I : Inv X pins σ H s) {h' : Heap} (kept : ∀ b o, b ≠ X.env.locals → s.heap.get? b = some o → h'.get? b = some o) : ∀ {ts : List V} {ks : List (List Int)} {its : List Value}, Vals ts its → TupsIn H ts ks →
    ∃ fs : List Value, KatTups h' its fs ∧ fs.length = its.length ∧ ∀ v ∈ fs, ∃ i t, v = Value.int i t := by
  intro ts ks its r hp
  induction hp generalizing its with
  | nil => cases r; exact ⟨[], KatTups.nil, rfl, fun _ z => nomatch z⟩
  | @cons a is ts ks ha ne hp ih =>
    cases r with
    | cons r1 r2 =>
      obtain ⟨fs, h1, h2, h3⟩ := ih r2
      cases r1
      obtain ⟨nl, o, n, vs, rv, eo, ec, ed⟩ := tup_at I ha
      cases is with
      | nil => exact absurd rfl ne
      | cons i is =>
        cases rv with
        | cons q1 q2 =>
          obtain ⟨tk, rfl⟩ := q1
          refine ⟨.int i tk :: fs, KatTups.cons (kept a o nl eo) ec ed rfl h1, by rw [List.length_cons, List.length_cons, h2], fun v hv => ?_⟩
          rcases List.mem_cons.mp hv with rfl | hv
          · exact ⟨i, tk, rfl⟩
          · exact h3 v hv
theorem lex_wp {prog : Program} {w : World} {A : Around} {fin : Bool} {C : Bool → Shared → Prop} {s' : Shared} : ∀ {xs ys : List Int} {us vs : List Value} {k : Nat}, Vals (xs.map V.int) us → Vals (ys.map V.int) vs → C (lexZ fin (xs.zip ys)) s' → KatLex prog w A true fin C (us.zip vs) k s'
  | [], ys, us, vs, k, r1, r2, h => by cases r1; exact kat_nil h
  | x :: xs, [], us, vs, k, r1, r2, h => by cases r2; cases us <;> exact kat_nil h
  | x :: xs, y :: ys, us, vs, k, r1, r2, h => by
    cases r1 with
    | cons a1 r1 =>
      cases r2 with
      | cons a2 r2 =>
        obtain ⟨t, rfl⟩ := a1
        obtain ⟨u, rfl⟩ := a2
        rw [List.zip_cons_cons] at h ⊢
        rw [lexZ] at h
        refine kat_cons (wpAny_eqBool_int ?_)
        by_cases e : x = y
        · rw [if_pos e] at h
          rw [show (x == y) = true by rw [e]; exact beq_self_eq_true _]
          exact kat_yes (lex_wp r1 r2 h)
        · rw [if_neg e] at h
          rw [show (x == y) = false from beq_eq_false_iff_ne.mpr e]
          refine kat_no ?_
          by_cases hk : k = 0
          · subst hk; exact oneLt_int h
          · rw [show (true && k == 0) = false by simp [hk]]
            exact kat_one _ _ (lt_int h)
end
theorem call_sortedT {X : Cx} : CallR X (.builtin "sorted") (fun xs H Q => ∃ p ts ks, xs = [.ref p] ∧ SqL X.K H p ts ∧ ts.length < 64 ∧ TupsIn H ts ks ∧ ∀ l, H l = none → Q (.ref l) (upd H l (.lst ((ordI ks).map fun i => ts.getD i .non)))) := by
  intro pins s σ H xs us Q I r h
  obtain ⟨p, ts, ks, rfl, hq, h64, hp, q⟩ := h
  obtain ⟨u, rfl, rx⟩ := vals1 r
  cases rx
  obtain ⟨its, rv, pl, hz⟩ := I.list hq
  have hl := rv.length
  have hk := hp.length
  by_cases h2 : its.length < 2
  · refine sorted_short pl.isList h2 ?_
    obtain ⟨e, he⟩ := sortedAll_at s.heap its its.toArray
    have es : (ordI ks).map (fun i => ts.getD i .non) = ts := by
      unfold ordI
      rw [if_pos (by omega), ← hk]
      exact map_getD_range _ _
    have q' := q (s.heap.objs.size + 1) (I.hok.fresh (Nat.le_succ _))
    rw [es] at q'
    exact ⟨.ref (s.heap.objs.size + 1), _, I.laid (t' := s.toks) (fun b o z => sortedAll_old z) (Nat.le_succ _) (show ObjOk X.prog X.w _ _ _ (.lst ts) from ⟨hz, its, e, rv, he⟩), rfl, q'⟩
  · obtain ⟨m, F0⟩ := I.fr
    refine kat_sorted F0 news_all pl.isList (by omega) (by omega) fun D e1 h' F' N' hlt => ?_
    have nD := N' (D, seqObj "list" #[] e1) List.mem_cons_self
    have hD : s.heap.get? D = none := by
      cases e : s.heap.get? D with
      | none => rfl
      | some o => exact absurd (hlt (D, o) (mem_allNews nD.2.1 nD.2.2 e)) (Nat.lt_irrefl _)
    have kept : ∀ b o, b ≠ X.env.locals → s.heap.get? b = some o → h'.get? b = some o := fun b o hb e => by
      cases z : X.base.get? b with
      | some v =>
        have y := I.bk b v z
        rw [e] at y; cases y
        exact F'.keep b _ z
      | none => exact (N' (b, o) (List.mem_cons_of_mem _ (mem_allNews hb z e))).1
    obtain ⟨fs, k1, k2, k3⟩ := tups_in I kept rv hp
    refine kat_kind (s := { s with heap := h' }) k1 (by omega) (T := .type "int") (fun v hv => ?_) (by decide) ?_
    · obtain ⟨i, t, rfl⟩ := k3 v hv
      exact Looks.of_pure rfl
    · refine run_wp (n := its.length) (P := OfN its.length) (fun i j => ltI (ks.getD i []) (ks.getD j [])) (fun i j C hi hj hC => ?_) (leaf_sort (by omega)) (fun hpm => ?_)
      · have get : ∀ i, i < its.length → ∃ a o n vs, Vals ((ks.getD i []).map V.int) vs ∧ its.getD i Value.none = .ref a ∧ h'.get? a = some o ∧ o.data = .seq vs.toArray n := fun i hi => by
          have hi' : i < ts.length := by omega
          obtain ⟨a, e, ha, _⟩ := hp.get hi'
          have hr := getD_vals rv (j := i) (by simpa using hi)
          have e2 : its.getD i Value.none = its.toArray[i]'(by simpa using hi) := by simp [hi]
          rw [e] at hr
          obtain ⟨nl, o, n, vs, rvs, eo, ec, ed⟩ := tup_at I ha
          exact ⟨a, o, n, vs, rvs, e2.trans hr, kept a o nl eo, ed⟩
        obtain ⟨a, o, n, vs, rvs, g1, g2, g3⟩ := get i hi
        obtain ⟨a', o', n', vs', rvs', g1', g2', g3'⟩ := get j hj
        show wpAny (model X.prog X.w) X.A.in1.in1 (keyLt' (tuples' (Value.type "int" != Value.type "tuple")) (its.getD i Value.none) (its.getD j Value.none)) C (fun _ _ => False) _
        rw [g1, g1', show (Value.type "int" != Value.type "tuple") = true by decide]
        refine kat_lt g2 g3 g2' g3' ?_
        have l1 := rvs.length
        have l2 := rvs'.length
        rw [List.length_map] at l1 l2
        refine lex_wp rvs rvs' ?_
        have e9 : decide (vs.toArray.size < vs'.toArray.size) = decide ((ks.getD i []).length < (ks.getD j []).length) := by rw [List.size_toArray, List.size_toArray, l1, l2]
        rw [e9]
        exact hC
      · have eo : ordI ks = (runT (fun i j => ltI (ks.getD i []) (ks.getD j [])) (kas_sort its.length)).toList := by
          unfold ordI
          rw [if_neg (by omega), show ks.length = its.length by omega]
        generalize hpme : runT (fun i j => ltI (ks.getD i []) (ks.getD j [])) (kas_sort its.length) = pm at hpm eo ⊢
        have hmem : ∀ i ∈ pm.toList, i < its.length := fun i hi => List.mem_range.mp (hpm.subset hi)
        have ry : Vals (pm.toList.map fun i => ts.getD i .non) (pm.toList.map fun i => its.getD i Value.none) := vals_map rv hmem
        have perm : (pm.toList.map fun i => ts.getD i .non).Perm ts := by
          have z := hpm.map (fun i => ts.getD i V.non)
          rw [← hl, map_getD_range] at z
          exact z
        refine KasFin.intro F' N' (.head fun _ z => ?_) fun h'' c F'' N'' => ?_
        · exact Nat.ne_of_lt (hlt _ z)
        · obtain ⟨I2, hHD⟩ := I.ledger F0 F'' N'' hD ry (by rw [perm.length_eq]; exact hz)
          have q' := q D hHD
          rw [eo] at q'
          exact ⟨.ref D, _, I2, rfl, q'⟩
end L2
end
section
namespace L2
open PySem PySem.Spec PyProof.Rows
section
variable {X : Cx} {pins : List (Addr × Obj)} {σ : St} {H : Hp} {s : Shared} {a : Addr} {kvs : List (Key × V)} {k : Key} {z : V} {u r : Value} {A : Around} {E : Value → Shared → Prop}
theorem d_setd {Q : Value → Shared → Prop} (I : Inv X pins σ H s) (e : H a = some (.dK kvs)) (ry : RelV (kV k) u) (rz : RelV z r) (hl : kvs.length < sizeLine)
    (h1 : ∀ v w' s', valV kvs k = some v → Inv X pins σ H s' → RelV v w' → Q w' s') (h2 : valV kvs k = none → ∀ s', Inv X pins σ (upd H a (.dK (putK kvs k z))) s' → Q r s') :
    wpAny (model X.prog X.w) A (call (.builtin "dict.setdefault") [.ref a, u, r]) Q E s := by
  obtain ⟨zz, hd, vs, rel, dd⟩ := dk_of I.hok e
  have rv := rel.val k
  refine call_meetsIn PySem.F.slot_dict_setdefault dd.typeIs PySem.F.entry_dict_setdefault (PySem.F.args_dict_setdefault_3 _ _ _) (PySem.kt_meets_setdefault (mixKind X.prog X.w) a (kV_is ry) hd r) ⟨vs, dd, by rw [← rel.length]; exact zz, fun w' hw => ?_, fun hn h' dd' hs => ?_⟩
  · rw [hw] at rv
    cases q : valV kvs k with
    | none => rw [q] at rv; exact rv.elim
    | some v => rw [q] at rv; exact h1 v w' _ q (I.tok _) rv
  · rw [hn] at rv
    have hz : (putK kvs k z).length ≤ sizeLine := by have := length_putK kvs k z; omega
    have he : ∃ q, h'.get? a = some q := let ⟨q, _, _, hq, _⟩ := dd'; ⟨q, hq⟩
    cases q : valV kvs k with
    | some v => rw [q] at rv; exact rv.elim
    | none => exact h2 q _ (d_write I (by rw [e]; exact True.intro) hs he (dk_new hz hd (rel.put k rz) dd'))
end
noncomputable def tDSetD (td ty tx : TE) : TE := fun σ H Q => td σ H fun x H1 => ∃ a, x = .ref a ∧ IsD H1 a ∧ ty σ H1 fun y H2 => tx σ H2 fun z H3 => ∃ kvs k, H3 a = some (.dK kvs) ∧ y = kV k ∧ kvs.length < sizeLine ∧
  (∀ v, valV kvs k = some v → Q v H3) ∧ (valV kvs k = none → Q z (upd H3 a (.dK (putK kvs k z))))
section
variable {X : Cx} {o e f : Expr} {apos cpos : Pos} {td ty tx : TE}
theorem pe_dsetd (ho : PE X o td) (he : PE X e ty) (hf : PE X f tx) (m : M2 X o "setdefault" apos e f cpos) : PE X (.Call (.Attribute o "setdefault" apos) [e, f] [] cpos) (tDSetD td ty tx) := by
  intro pins s σ H Q I h
  refine wpAny_Call_method m.base m.few m.line PySem.F.plainAttrs_dict PySem.F.slot_dict_setdefault PySem.F.type_dict_setdefault (thn (ho pins s σ H _ I h) fun u s1 ⟨x, H1, I1, rx, a, ex, d, q1⟩ => ?_)
  subst ex
  obtain rfl : u = Value.ref a := rx
  obtain ⟨t1, t2, _⟩ := isD_at I1 d
  refine ⟨t1, t2, ?_⟩
  rw [m.trees]
  refine Calls.callWith_builtin rfl (Calls.evalArgs_plain (Calls.spliced_cons (thn (he pins s1 σ H1 _ I1 q1) fun iv s2 ⟨y, H2, I2, ry, q2⟩ =>
    Calls.spliced_cons (thn (hf pins s2 σ H2 _ I2 q2) fun fv s3 ⟨z, H3, I3, rz, kvs, k, ea, ey, hl, q3, q4⟩ => Calls.spliced_nil ?_))))
  subst ey
  exact d_setd I3 ea ry rz hl (fun v w' s4 l I4 rw' => ⟨v, H3, I4, rw', q3 v l⟩) fun l s4 I4 => ⟨z, _, I4, rz, q4 l⟩
end
noncomputable def Itv (d : Addr) (ob : Obj) (kvs : List (Key × V)) : It :=
  ⟨fun i H => H d = some (.frz ob (.dK kvs)) ∧ i < kvs.length, fun i H x H' => H' = H ∧ (kvs[i]?).map (·.2) = some x, fun i H => H d = some (.frz ob (.dK kvs)) ∧ kvs.length ≤ i⟩
theorem dict_at {P : Program} {w : World} {h : Heap} {d : Addr} {vs : List (Key × Value)} {ob : Obj} (ho : h.get? d = some ob) (x : h.DictOf (mixKind P w) d vs) : ∃ es ep, ob.data = .dict es ep ∧ h.DictAt (mixKind P w) d vs ep := by
  obtain ⟨o, es, ep, h1, h2, h3, h4⟩ := x
  rw [ho] at h1; cases h1
  exact ⟨es, ep, h3, ob, es, ho, h2, h3, h4⟩
theorem turn_vals {P : Program} {w : World} {K : PySem.W.Frag} {tg : Expr} (d it : Addr) (hne : d ≠ it) (ob : Obj) (es : Array DictEntry) (ep : Nat) (hob : ob.data = .dict es ep) (kvs : List (Key × V)) : Turn P w K tg (Itv d ob kvs) [it] it (fun i h => h.IsValIter it d i kvs.length ep) where
  mem := by simp
  obj := fun i h st b hb => by
    have e : b = it := by simpa using hb
    subst e
    obtain ⟨o, e, c, d⟩ := st
    exact ⟨o, e, fun v z => by rw [d] at z; cases z⟩
  keep := fun i h h' st k => st.at fun o e => k it (by simp) o e
  item := by
    intro X hP hw hK hc i pins s σ H E I hf st hg
    subst hP hw hK
    obtain ⟨hd, hi⟩ := hg
    obtain ⟨f0, f1, f2, f3, f4, f5⟩ := hf it (by simp)
    obtain ⟨hgo, zz, hs, vs, rel, dd⟩ := (show ObjOk X.prog X.w H s.heap d (.frz ob (.dK kvs)) from I.hok d _ hd)
    obtain ⟨es', ep', q1, at'⟩ := dict_at hgo dd
    rw [hob] at q1; cases q1
    have hl : kvs.length = vs.length := rel.length
    have hi' : i < vs.length := by omega
    have hv : ∃ x, kvs[i]? = some x ∧ ∃ u, vs[i]? = some u ∧ RelV x.2 u.2 := by
      refine ⟨kvs[i], List.getElem?_eq_getElem hi, vs[i], List.getElem?_eq_getElem hi', ?_⟩
      have g : ∀ {l : List (Key × V)} {m : List (Key × Value)}, KV l m → ∀ j (h1 : j < l.length) (h2 : j < m.length), RelV l[j].2 m[j].2 := by
        intro l m r
        induction r with
        | nil => intro j h1; exact absurd h1 (Nat.not_lt_zero _)
        | cons r0 _ ih =>
          intro j h1 h2
          cases j with
          | zero => exact r0.2
          | succ j => exact ih j (by simpa using h1) (by simpa using h2)
      exact g rel i hi hi'
    obtain ⟨x, hx, ⟨k2, u⟩, hu, ru⟩ := hv
    have st2 : s.heap.IsValIter it d i vs.length ep := by rw [← hl]; exact st
    refine wpAny_pyNext_values_item st2 at' hu fun h' st' sb => ?_
    have I1 : Inv X pins σ H { s with heap := h' } := I.turned (t' := s.toks) (fun b o hb e => sb.extBut b o hb e) f0 f1 f3 f4 f5
    rw [← hl] at st'
    obtain ⟨o, e, c, dd'⟩ := id st'
    exact ⟨u, rfl, go_of (s := { s with heap := h' }) e c dd' (by decide) ⟨x.2, H, I1, ru, ⟨rfl, by rw [hx]; rfl⟩, st', fun b hb => (hf b hb).1⟩⟩
  done := by
    intro X hP hw hK hc i pins s σ H E I hf st hg
    subst hP hw hK
    obtain ⟨hd, hi⟩ := hg
    obtain ⟨f0, f1, f2, f3, f4, f5⟩ := hf it (by simp)
    obtain ⟨hgo, zz, hs, vs, rel, dd⟩ := (show ObjOk X.prog X.w H s.heap d (.frz ob (.dK kvs)) from I.hok d _ hd)
    obtain ⟨es', ep', q1, at'⟩ := dict_at hgo dd
    rw [hob] at q1; cases q1
    have hl : kvs.length = vs.length := rel.length
    have st2 : s.heap.IsValIter it d i vs.length ep := by rw [← hl]; exact st
    exact wpAny_pyNext_values_end (I.ok.hd hc) st2 at' (List.getElem?_eq_none (by omega)) fun h' eb => ⟨rfl, I.turned (t' := s.toks) (fun b o hb e => eb b o hb e) f0 f1 f3 f4 f5⟩
  self := fun _ _ _ _ _ st h => wpAny_pyIter_valiter st h
noncomputable def iVals (td : TE) : TI := fun σ H R => td σ H fun x H1 => ∃ d kvs, x = .ref d ∧ H1 d = some (.dK kvs) ∧ ∀ ob, R (Itv d ob kvs) (upd H1 d (.frz ob (.dK kvs)))
theorem Inv.frzD {X : Cx} {pins : List (Addr × Obj)} {σ : St} {H : Hp} {s : Shared} {d : Addr} {kvs : List (Key × V)} {ob : Obj} (I : Inv X pins σ H s) (hd : H d = some (.dK kvs)) (ho : s.heap.get? d = some ob) : Inv X pins σ (upd H d (.frz ob (.dK kvs))) s := by
  have ne : ∀ b o, H b = some o → (∀ l, o ≠ .dK l) → b ≠ d := fun b o e n z => by subst z; rw [hd] at e; cases e; exact n _ rfl
  have ok : HOk X.prog X.w (upd H d (.frz ob (.dK kvs))) s.heap := fun b o e => by
    by_cases hb : b = d
    · subst hb
      rw [upd_same] at e; cases e
      exact ⟨ho, I.hok b _ hd⟩
    · rw [upd_ne hb] at e
      refine (I.hok b o e).stay (fun _ _ _ q => q) (fun c q => ?_) fun c xs q => ?_
      · rw [upd_ne (ne c _ q fun l z => nomatch z)]; exact q
      · rw [upd_ne (ne c _ q fun l z => nomatch z)]; exact q
  have un : Un X.fs [] H (upd H d (.frz ob (.dK kvs))) s.heap s.heap := ⟨fun b o e _ _ _ => e, fun b o e _ _ _ => ⟨o.slots, e⟩, fun b o e n _ => by
      rw [upd_ne fun z => by subst z; rw [hd] at n; cases n]; exact n, fun b o e _ => ⟨o, e⟩, fun b xs q => by rw [upd_ne (ne b _ q fun l z => nomatch z)]; exact q, fun b o u q => by rw [upd_ne (ne b _ q fun l z => nomatch z)]; exact q, fun b ps q => ⟨#[], by rw [upd_ne (ne b _ q fun l z => nomatch z), Array.append_empty]; exact q⟩⟩
  exact I.un un ok
section
variable {X : Cx} {tg o : Expr} {apos cpos : Pos} {td : TE}
theorem pi_vals (ho : PE X o td) (hbase : attributeBase o "values" X.env (eval o X.env) = eval o X.env := by rfl) (hline : (apos.endLine == cpos.line) = true := by rfl) : PI X tg (.Call (.Attribute o "values" apos) [] [] cpos) (iVals td) := by
  intro pins s σ H R I h
  refine wpAny_Call_method0_late hbase hline (thn (ho pins s σ H _ I h) fun v s1 ⟨x, H1, I1, r1, d, kvs, ex, hd, q⟩ => ?_)
  subst ex
  cases r1
  obtain ⟨zz, hs, vs, rel, dd⟩ := dk_of I1.hok hd
  have hn : ∃ ob, s1.heap.get? d = some ob ∧ ob.dict = none := let ⟨ob, _, _, e1, e2, _⟩ := dd; ⟨ob, e1, e2.2.1⟩
  obtain ⟨ob, hob, hdn⟩ := hn
  have hlt := Heap.lt_size hob
  refine ⟨"dict", "dict.values", PySem.F.plainAttrs_dict, PySem.F.slot_dict_values, PySem.F.type_dict_values, dd.typeIs, fun b e => by cases e; exact ⟨ob, hob, hdn⟩, Calls.callWith_builtin rfl (PySem.evalArgs_none (call_meetsIn PySem.F.slot_dict_values dd.typeIs PySem.F.entry_dict_values (PySem.F.args_dict_values_1 _) (meets_dict_values (mixKind X.prog X.w) d hs) ⟨⟨vs, dd⟩, ?_⟩))⟩
  obtain ⟨es, ep, q1, at'⟩ := dict_at hob dd
  refine wpAny_pyIter_values (knd := mixKind X.prog X.w) (d := d) (kvs := vs) (ep := ep) ⟨_, Heap.get?_push_size _ rfl, rfl, rfl⟩ (at'.at' fun o e => Heap.get?_push_of_some _ e) ?_
  have hl : kvs.length = vs.length := rel.length
  have k1 : ∀ b u, s1.heap.get? b = some u → ((s1.heap.push { cls := .type "dict_values", data := .fields #[.ref d] }).push { cls := .type "dict_valueiterator", data := .fields #[.ref d, .int 0 0, .int vs.length 0, .int ep 0] }).get? b = some u := fun b u e => Heap.get?_push_of_some _ (Heap.get?_push_of_some _ e)
  have I2 := I1.kept (t' := s1.toks) k1
  have I3 := I2.frzD hd (k1 d ob hob)
  have sz : (s1.heap.push { cls := .type "dict_values", data := .fields #[.ref d] }).objs.size = s1.heap.objs.size + 1 := by simp [Heap.push]
  have hne : d ≠ (s1.heap.push { cls := .type "dict_values", data := .fields #[.ref d] }).objs.size := Nat.ne_of_lt (by rw [sz]; exact Nat.lt_succ_of_lt hlt)
  refine ⟨_, [_], _, _, _, rfl, I3, turn_vals d _ hne ob es ep q1 kvs, ?_, fun b hb => ?_, q ob⟩
  · rw [hl]; exact ⟨_, Heap.get?_push_size _ rfl, rfl, rfl⟩
  · have e : b = (s1.heap.push { cls := .type "dict_values", data := .fields #[.ref d] }).objs.size := by simpa using hb
    subst e
    refine I1.fpOk (by rw [sz]; exact Nat.le_succ _) ?_
    rw [upd_ne (Ne.symm hne)]
    exact I1.hok.fresh (by rw [sz]; exact Nat.le_succ _)
end
end L2
end
section
namespace L2
open PySem PySem.Spec PyProof.Rows
theorem ints_are : ∀ {ns : List Int} {its : List Value}, Vals (ns.map V.int) its → IntsAre its ns
  | [], _, r => by cases r; exact .nil
  | n :: ns, _, r => by
    cases r with
    | cons r1 r2 =>
      obtain ⟨t, rfl⟩ := r1
      exact .cons n t (ints_are r2)
theorem call_maxL {X : Cx} (hc : X.calm = true) : CallR X (.builtin "max") (fun xs H Q => ∃ (p : Addr) (ns : List Int), xs = [.ref p] ∧ SqL X.K H p (ns.map V.int) ∧ 0 < ns.length ∧ ∀ M, M ∈ ns → (∀ a ∈ ns, a ≤ M) → Q (.int M) H) := by
  intro pins s σ H xs us Q I r h
  obtain ⟨p, ns, rfl, hq, hne, q⟩ := h
  obtain ⟨u, rfl, rx⟩ := vals1 r
  cases rx
  obtain ⟨its, rv, pl, hz⟩ := I.list hq
  have hi := ints_are rv
  obtain ⟨ys, e⟩ := hi.allInts.items
  have hns : ns = ys.toList.map (·.1) := by rw [← hi.numsOf, ← nums_intItems, ← e]
  have hsz : 0 < ys.size := by have h3 := hne; rw [hns, List.length_map, Array.length_toList] at h3; exact h3
  have hl := pl.isList
  rw [e] at hl
  refine max_intList (I.ok.hd hc) hl hsz fun v h' tk hv hk => ?_
  obtain ⟨t, rfl⟩ := intItems_at hv
  obtain ⟨h1, h2⟩ := argBest_gt (numAt ys) (ys.size - 1)
  refine ⟨.int _, H, I.kept (t' := tk) hk, ⟨t, rfl⟩, q _ ?_ fun a ha => ?_⟩
  · rw [hns, numAt_eq]; exact getD_mem (by rw [List.length_map, Array.length_toList]; omega)
  · rw [hns] at ha
    obtain ⟨j, hj, rfl⟩ := mem_getD ha
    rw [List.length_map, Array.length_toList] at hj
    rw [← numAt_eq]; exact h2 j (by omega)
theorem get_list {X : Cx} : PGet X (fun o i H Q => ∃ p xs k v, o = .ref p ∧ i = .int k ∧ 0 ≤ k ∧ SqL X.K H p xs ∧ atI xs k = some v ∧ Q v H) := by
  intro pins s σ H o i ov iv Q I ro ri h
  obtain ⟨p, xs, k, z, rfl, rfl, h0, hq, he, q⟩ := h
  cases ro
  obtain ⟨t, rfl⟩ := ri
  obtain ⟨its, r, pl, hz⟩ := I.list hq
  obtain ⟨j, h1, h2, h3, h4, h5⟩ := atI_get he
  obtain ⟨w, ew, rw'⟩ := r.get h2
  have hl := r.length
  have hn := line63
  have hj : k.toNat = j := by
    rw [seqIndex_of h0 h5] at h1
    exact Option.some.inj h1
  exact wpAny_getItem_list pl.isList h0 (by omega) (by rw [hj]; simpa using ew) ⟨z, H, I, rw', q⟩
end L2
end
section
namespace Pu
open PySem PySem.Spec L2
inductive PV where
  | non | bl (b : Bool) | int (i : Int) | str (x : Str) | ty (n : String) | fn (a : Addr)
  | tup (ps : List PV) | lst (ps : List PV) | dct (ks : List Key) (ps : List PV)
  
  | src (ps : List PV) | ktu (ps : List PV)
  | rng (lo hi : Int)
mutual
noncomputable def Rep (K : PySem.W.Frag) (F : Hp) : PV → V → Prop
  | .non, v => v = .non
  | .bl b, v => v = .bl b
  | .int i, v => v = .int i
  | .str x, v => v = .str x
  | .ty n, v => v = .ty n
  | .fn a, v => v = .ref a
  | .tup ps, v => ∃ a vs, v = .ref a ∧ F a = some (.tup vs) ∧ Reps K F ps vs
  | .lst ps, v => ∃ a vs, v = .ref a ∧ F a = some (.lst vs) ∧ Reps K F ps vs
  | .src ps, v => ∃ a vs, v = .ref a ∧ SqL K F a vs ∧ Reps K F ps vs
  | .ktu ps, v => ∃ a vs, v = .ref a ∧ SqT K F a vs ∧ Reps K F ps vs
  | .rng lo hi, v => ∃ a, v = .ref a ∧ F a = some (.rng lo hi)
  | .dct ks ps, v => ∃ a kvs, v = .ref a ∧ F a = some (.dK kvs) ∧ kvs.map (·.1) = ks ∧ Reps K F ps (kvs.map (·.2))
noncomputable def Reps (K : PySem.W.Frag) (F : Hp) : List PV → List V → Prop
  | [], vs => vs = []
  | p :: ps, vs => ∃ v r, vs = v :: r ∧ Rep K F p v ∧ Reps K F ps r
end
theorem SqTm {K : PySem.W.Frag} {F F' : Hp} {a : Addr} {xs : List V} (e : Same F F') (h : SqT K F a xs) : SqT K F' a xs := by
  rcases h with (h | ⟨o, h⟩) | h
  · exact .inl (.inl (e _ _ h))
  · exact .inl (.inr ⟨o, e _ _ h⟩)
  · exact .inr h
mutual
theorem Rep.mono {K : PySem.W.Frag} {F F' : Hp} (e : Same F F') : ∀ {p : PV} {v : V}, Rep K F p v → Rep K F' p v
  | .non, _, h => h
  | .bl _, _, h => h
  | .int _, _, h => h
  | .str _, _, h => h
  | .ty _, _, h => h
  | .fn _, _, h => h
  | .tup ps, _, h => by
    obtain ⟨a, vs, e1, e2, e3⟩ := h
    exact ⟨a, vs, e1, e _ _ e2, Reps.mono e e3⟩
  | .lst ps, _, h => by
    obtain ⟨a, vs, e1, e2, e3⟩ := h
    exact ⟨a, vs, e1, e _ _ e2, Reps.mono e e3⟩
  | .src ps, _, h => by
    obtain ⟨a, vs, e1, e2, e3⟩ := h
    exact ⟨a, vs, e1, e.seq e2, Reps.mono e e3⟩
  | .ktu ps, _, h => by
    obtain ⟨a, vs, e1, e2, e3⟩ := h
    exact ⟨a, vs, e1, SqTm e e2, Reps.mono e e3⟩
  | .rng lo hi, _, h => by
    obtain ⟨a, e1, e2⟩ := h
    exact ⟨a, e1, e _ _ e2⟩
  | .dct ks ps, _, h => by
    obtain ⟨a, kvs, e1, e2, e3, e4⟩ := h
    exact ⟨a, kvs, e1, e _ _ e2, e3, Reps.mono e e4⟩
theorem Reps.mono {K : PySem.W.Frag} {F F' : Hp} (e : Same F F') : ∀ {ps : List PV} {vs : List V}, Reps K F ps vs → Reps K F' ps vs
  | [], _, h => h
  | _ :: _, _, h => by
    obtain ⟨v, r, e1, e2, e3⟩ := h
    exact ⟨v, r, e1, Rep.mono e e2, Reps.mono e e3⟩
end
theorem Reps.length {K : PySem.W.Frag} {F : Hp} : ∀ {ps : List PV} {vs : List V}, Reps K F ps vs → vs.length = ps.length
  | [], _, h => by rw [show _ = [] from h]; rfl
  | p :: ps, _, ⟨v, r, e, _, t⟩ => by rw [e, List.length_cons, List.length_cons, t.length]
theorem Reps.get {K : PySem.W.Frag} {F : Hp} : ∀ {ps : List PV} {vs : List V} {i : Nat} {p : PV}, Reps K F ps vs → ps[i]? = some p → ∃ v, vs[i]? = some v ∧ Rep K F p v
  | [], _, i, p, _, e => by simp at e
  | _ :: _, _, 0, _, ⟨v, r, e, h, t⟩, q => by simp at q; subst q; exact ⟨v, by rw [e]; rfl, h⟩
  | _ :: ps, _, i + 1, p, ⟨v, r, e, h, t⟩, q => by
    obtain ⟨u, h1, h2⟩ := t.get (i := i) (p := p) (by simpa using q)
    exact ⟨u, by rw [e]; simpa using h1, h2⟩
theorem Reps.app {K : PySem.W.Frag} {F : Hp} : ∀ {ps qs : List PV} {vs us : List V}, Reps K F ps vs → Reps K F qs us → Reps K F (ps ++ qs) (vs ++ us)
  | [], _, _, _, h, q => by rw [show _ = [] from h]; exact q
  | _ :: _, _, _, _, ⟨v, r, e, h, t⟩, q => ⟨v, _, by rw [e]; rfl, h, t.app q⟩
theorem Reps.one {K : PySem.W.Frag} {F : Hp} {p : PV} {v : V} (h : Rep K F p v) : Reps K F [p] [v] := ⟨v, [], rfl, h, rfl⟩
theorem Reps.cons {K : PySem.W.Frag} {F : Hp} {p : PV} {v : V} {ps : List PV} {vs : List V} (h : Rep K F p v) (t : Reps K F ps vs) : Reps K F (p :: ps) (v :: vs) := ⟨v, vs, rfl, h, t⟩
theorem Reps.set {K : PySem.W.Frag} {F : Hp} {p : PV} {v : V} (h : Rep K F p v) : ∀ {ps : List PV} {vs : List V} (i : Nat), Reps K F ps vs → Reps K F (ps.set i p) (vs.set i v)
  | [], _, _, q => by rw [show _ = [] from q]; rfl
  | _ :: _, _, 0, ⟨v', r, e, _, t⟩ => by rw [e]; exact ⟨v, r, rfl, h, t⟩
  | _ :: _, _, i + 1, ⟨v', r, e, h', t⟩ => by rw [e]; exact ⟨v', _, rfl, h', Reps.set h i t⟩
theorem Reps.take {K : PySem.W.Frag} {F : Hp} : ∀ {ps : List PV} {vs : List V} (n : Nat), Reps K F ps vs → Reps K F (ps.take n) (vs.take n)
  | _, _, 0, _ => by simp [Reps]
  | [], _, _ + 1, q => by rw [show _ = [] from q]; rfl
  | _ :: _, _, n + 1, ⟨v, r, e, h, t⟩ => by rw [e]; exact ⟨v, _, rfl, h, t.take n⟩
theorem Reps.drop {K : PySem.W.Frag} {F : Hp} : ∀ {ps : List PV} {vs : List V} (n : Nat), Reps K F ps vs → Reps K F (ps.drop n) (vs.drop n)
  | _, _, 0, q => q
  | [], _, _ + 1, q => by rw [show _ = [] from q]; rfl
  | _ :: _, _, n + 1, ⟨v, r, e, h, t⟩ => by rw [e]; exact t.drop n
theorem Reps.rev {K : PySem.W.Frag} {F : Hp} : ∀ {ps : List PV} {vs : List V}, Reps K F ps vs → Reps K F ps.reverse vs.reverse
  | [], _, q => by rw [show _ = [] from q]; rfl
  | _ :: _, _, ⟨v, r, e, h, t⟩ => by rw [e, List.reverse_cons, List.reverse_cons]; exact t.rev.app (.one h)
theorem Reps.rep {K : PySem.W.Frag} {F : Hp} {p : PV} {v : V} (h : Rep K F p v) : ∀ n, Reps K F (List.replicate n p) (List.replicate n v)
  | 0 => rfl
  | n + 1 => ⟨v, _, rfl, h, Reps.rep h n⟩
structure Grow (F H F' H' : Hp) : Prop where
  hh : Same H H'
  ff : Same F F'
  fh : Same F' H'
  nw : ∀ b o, F' b = some o → F b = some o ∨ H b = none ∨ ∃ vs, o = .tup vs
theorem Grow.refl {F H : Hp} (h : Same F H) : Grow F H F H := ⟨Same.refl _, Same.refl _, h, fun _ _ e => .inl e⟩
theorem Grow.trans {F H F1 H1 F2 H2 : Hp} (a : Grow F H F1 H1) (b : Grow F1 H1 F2 H2) : Grow F H F2 H2 :=
  ⟨a.hh.trans b.hh, a.ff.trans b.ff, b.fh, fun c o e => (b.nw c o e).elim (a.nw c o) fun z => .inr (z.elim (fun z => .inl (a.hh.free z)) .inr)⟩
theorem Grow.keep {F H F' H' : Hp} (g : Grow F H F' H') {a : Addr} {o : HO} (hF : F a = none) (hH : H a = some o) (ho : ∀ vs, o ≠ .tup vs := by intro vs h; cases h) : F' a = none ∧ H' a = some o := by
  refine ⟨?_, g.hh _ _ hH⟩
  cases e : F' a with
  | none => rfl
  | some u =>
    rcases g.nw a u e with z | z | ⟨vs, z⟩
    · rw [hF] at z; cases z
    · rw [hH] at z; cases z
    · have h1 := g.fh a u e
      rw [g.hh _ _ hH] at h1
      cases h1
      exact absurd z (ho vs)
theorem Grow.new {F H : Hp} (h : Same F H) {a : Addr} (ha : H a = none) (o : HO) : Grow F H (upd F a o) (upd H a o) := by
  have hFa : F a = none := h.free ha
  refine ⟨same_new ha o, same_new hFa o, fun b u e => ?_, fun b u e => ?_⟩
  · by_cases hb : b = a
    · subst hb; rw [upd_same] at e ⊢; exact e
    · rw [upd_ne hb] at e ⊢; exact h b u e
  · by_cases hb : b = a
    · subst hb; exact .inr (.inl ha)
    · rw [upd_ne hb] at e; exact .inl e
theorem Grow.newO {F H : Hp} (h : Same F H) {a : Addr} (ha : H a = none) (o : HO) : Grow F H F (upd H a o) := ⟨same_new ha o, Same.refl _, h.trans (same_new ha o), fun b u e => .inl e⟩
theorem Grow.freeze {F H F' H' : Hp} (g : Grow F H F' H') {a : Addr} {o : HO} (h0 : H a = none) (hF : F' a = none) (hH : H' a = some o) : Grow F H (upd F' a o) H' := by
  refine ⟨g.hh, g.ff.trans (same_new hF o), fun b u e => ?_, fun b u e => ?_⟩
  · by_cases hb : b = a
    · subst hb; rw [upd_same] at e; rw [hH]; exact e
    · rw [upd_ne hb] at e; exact g.fh b u e
  · by_cases hb : b = a
    · subst hb; exact .inr (.inl h0)
    · rw [upd_ne hb] at e; exact g.nw b u e
inductive Sl where
  | val (p : PV) | own (ps : List PV) | dic (ks : List Key) (ps : List PV)
noncomputable abbrev PSt := List (Option Sl)
inductive RdV (K : PySem.W.Frag) (F H : Hp) : PV → V → Prop where
  | frz {p : PV} {v : V} : Rep K F p v → RdV K F H p v
  | own {ps : List PV} {a : Addr} {vs : List V} : H a = some (.lst vs) → F a = none → Reps K F ps vs → RdV K F H (.lst ps) (.ref a)
  | dic {ks : List Key} {ps : List PV} {a : Addr} {kvs : List (Key × V)} : H a = some (.dK kvs) → F a = none → kvs.map (·.1) = ks → Reps K F ps (kvs.map (·.2)) → RdV K F H (.dct ks ps) (.ref a)
theorem RdV.grow {K : PySem.W.Frag} {F H F' H' : Hp} {p : PV} {v : V} (g : Grow F H F' H') (h : RdV K F H p v) : RdV K F' H' p v := by
  cases h with
  | frz h => exact .frz (h.mono g.ff)
  | own h1 h2 h3 => exact .own (g.keep h2 h1).2 (g.keep h2 h1).1 (h3.mono g.ff)
  | dic h1 h2 h3 h4 => exact .dic (g.keep h2 h1).2 (g.keep h2 h1).1 h3 (h4.mono g.ff)
noncomputable def slV : Sl → PV
  | .val p => p
  | .own ps => .lst ps
  | .dic ks ps => .dct ks ps
noncomputable def SlR (K : PySem.W.Frag) (F H : Hp) : Option V → Option Sl → Prop
  | _, none => True
  | some v, some (.val p) => Rep K F p v
  | some v, some (.own ps) => ∃ a vs, v = .ref a ∧ H a = some (.lst vs) ∧ F a = none ∧ Reps K F ps vs
  | some v, some (.dic ks ps) => ∃ a kvs, v = .ref a ∧ H a = some (.dK kvs) ∧ F a = none ∧ kvs.map (·.1) = ks ∧ Reps K F ps (kvs.map (·.2))
  | none, some _ => False
theorem SlR.rd {K : PySem.W.Frag} {F H : Hp} {o : Option V} {s : Sl} (h : SlR K F H o (some s)) : ∃ v, o = some v ∧ RdV K F H (slV s) v := by
  cases o with
  | none => cases s <;> exact h.elim
  | some v =>
    refine ⟨v, rfl, ?_⟩
    cases s with
    | val p => exact .frz h
    | own ps => obtain ⟨a, vs, rfl, h1, h2, h3⟩ := h; exact .own h1 h2 h3
    | dic ks ps => obtain ⟨a, vs, rfl, h1, h2, h3, h4⟩ := h; exact .dic h1 h2 h3 h4
theorem SlR.grow {K : PySem.W.Frag} {F H F' H' : Hp} (g : Grow F H F' H') : ∀ {o : Option V} {s : Option Sl}, SlR K F H o s → SlR K F' H' o s
  | _, none, _ => by unfold SlR; trivial
  | none, some s, h => by cases s <;> exact h.elim
  | some v, some (.val p), h => Rep.mono g.ff h
  | some v, some (.own ps), ⟨a, vs, e, h1, h2, h3⟩ => ⟨a, vs, e, (g.keep h2 h1).2, (g.keep h2 h1).1, h3.mono g.ff⟩
  | some v, some (.dic ks ps), ⟨a, vs, e, h1, h2, h3, h4⟩ => ⟨a, vs, e, (g.keep h2 h1).2, (g.keep h2 h1).1, h3, h4.mono g.ff⟩
structure ER (K : PySem.W.Frag) (F H : Hp) (σ : St) (ρ : PSt) : Prop where
  fz : Same F H
  len : σ.length = ρ.length
  sl : ∀ (i : Nat) (s : Sl), ρ[i]? = some (some s) → SlR K F H ((σ[i]?).join) (some s)
theorem ER.grow {K : PySem.W.Frag} {F H F' H' : Hp} {σ : St} {ρ : PSt} (g : Grow F H F' H') (h : ER K F H σ ρ) : ER K F' H' σ ρ := ⟨g.fh, h.len, fun i s e => (h.sl i s e).grow g⟩
theorem ER.rd {K : PySem.W.Frag} {F H : Hp} {σ : St} {ρ : PSt} (h : ER K F H σ ρ) {i : Nat} {s : Sl} (e : ρ[i]? = some (some s)) : ∃ v, σ[i]? = some (some v) ∧ RdV K F H (slV s) v := by
  obtain ⟨v, e1, r⟩ := (h.sl i s e).rd
  refine ⟨v, ?_, r⟩
  cases q : σ[i]? with
  | none => rw [q] at e1; cases e1
  | some o => rw [q] at e1; rw [show o = some v from e1]
noncomputable abbrev PTE := PSt → (PV → Prop) → Prop
noncomputable abbrev PTN := PSt → (List PV → Prop) → Prop
noncomputable abbrev PTB := PSt → (Bool → Prop) → Prop
noncomputable abbrev PTA := PSt → (List PV → Prop) → Prop
noncomputable def lE (K : PySem.W.Frag) (te : PTE) : TE := fun σ H Q => ∃ F ρ, ∃ Qp : PV → Prop, ER K F H σ ρ ∧ te ρ Qp ∧ ∀ p v F' H', Qp p → Grow F H F' H' → Rep K F' p v → Q v H'
noncomputable def lT (K : PySem.W.Frag) (te : PTE) : TE := fun σ H Q => ∃ F ρ, ∃ Qp : PV → Prop, ER K F H σ ρ ∧ te ρ Qp ∧ ∀ p v F' H', Qp p → Grow F H F' H' → RdV K F' H' p v → Q v H'
noncomputable def lN (K : PySem.W.Frag) (te : PTN) : TE := fun σ H Q => ∃ F ρ, ∃ Qp : List PV → Prop, ER K F H σ ρ ∧ te ρ Qp ∧ ∀ ps a vs F' H', Qp ps → Grow F H F' H' → H a = none → F' a = none → H' a = some (.lst vs) → Reps K F' ps vs → Q (.ref a) H'
noncomputable def lB (K : PySem.W.Frag) (te : PTB) : TT := fun σ H Q => ∃ F ρ, ∃ Qp : Bool → Prop, ER K F H σ ρ ∧ te ρ Qp ∧ ∀ b F' H', Qp b → Grow F H F' H' → Q b H'
noncomputable def lA (K : PySem.W.Frag) (te : PTA) : TA := fun σ H Q => ∃ F ρ, ∃ Qp : List PV → Prop, ER K F H σ ρ ∧ te ρ Qp ∧ ∀ ps vs F' H', Qp ps → Grow F H F' H' → Reps K F' ps vs → Q vs H'
theorem lE.elim {K : PySem.W.Frag} {te : PTE} {σ : St} {H : Hp} {Q : VK} {C : Prop} (h : lE K te σ H Q) (k : ∀ F ρ (Qp : PV → Prop), ER K F H σ ρ → te ρ Qp → (∀ p v F' H', Qp p → Grow F H F' H' → Rep K F' p v → Q v H') → C) : C := by obtain ⟨F, ρ, Qp, a, b, c⟩ := h; exact k F ρ Qp a b c
theorem lT.elim {K : PySem.W.Frag} {te : PTE} {σ : St} {H : Hp} {Q : VK} {C : Prop} (h : lT K te σ H Q) (k : ∀ F ρ (Qp : PV → Prop), ER K F H σ ρ → te ρ Qp → (∀ p v F' H', Qp p → Grow F H F' H' → RdV K F' H' p v → Q v H') → C) : C := by obtain ⟨F, ρ, Qp, a, b, c⟩ := h; exact k F ρ Qp a b c
theorem lN.elim {K : PySem.W.Frag} {te : PTN} {σ : St} {H : Hp} {Q : VK} {C : Prop} (h : lN K te σ H Q) (k : ∀ F ρ (Qp : List PV → Prop), ER K F H σ ρ → te ρ Qp → (∀ ps a vs F' H', Qp ps → Grow F H F' H' → H a = none → F' a = none → H' a = some (.lst vs) → Reps K F' ps vs → Q (.ref a) H') → C) : C := by obtain ⟨F, ρ, Qp, a, b, c⟩ := h; exact k F ρ Qp a b c
theorem lB.elim {K : PySem.W.Frag} {te : PTB} {σ : St} {H : Hp} {Q : Bool → Hp → Prop} {C : Prop} (h : lB K te σ H Q) (k : ∀ F ρ (Qp : Bool → Prop), ER K F H σ ρ → te ρ Qp → (∀ b F' H', Qp b → Grow F H F' H' → Q b H') → C) : C := by obtain ⟨F, ρ, Qp, a, b, c⟩ := h; exact k F ρ Qp a b c
theorem lA.elim {K : PySem.W.Frag} {te : PTA} {σ : St} {H : Hp} {Q : List V → Hp → Prop} {C : Prop} (h : lA K te σ H Q) (k : ∀ F ρ (Qp : List PV → Prop), ER K F H σ ρ → te ρ Qp → (∀ ps vs F' H', Qp ps → Grow F H F' H' → Reps K F' ps vs → Q vs H') → C) : C := by obtain ⟨F, ρ, Qp, a, b, c⟩ := h; exact k F ρ Qp a b c
noncomputable def PuE (X : Cx) (e : Expr) (te : PTE) : Prop := PE X e (lE X.K te)
noncomputable def PuT (X : Cx) (e : Expr) (te : PTE) : Prop := PE X e (lT X.K te)
noncomputable def PuN (X : Cx) (e : Expr) (te : PTN) : Prop := PE X e (lN X.K te)
noncomputable def PuB (X : Cx) (e : Expr) (te : PTB) : Prop := PT X e (lB X.K te)
noncomputable def PuW (X : Cx) (e : Expr) (te : PTB) : Prop := PW X e (lB X.K te)
noncomputable def PuA (X : Cx) (es : List Expr) (te : PTA) : Prop := PA X es (lA X.K te)
theorem PE.weak {X : Cx} {e : Expr} {t t' : TE} (h : PE X e t) (w : ∀ σ H Q, t' σ H Q → t σ H Q) : PE X e t' := fun pins s σ H Q I q => h pins s σ H Q I (w σ H Q q)
theorem PT.weak {X : Cx} {e : Expr} {t t' : TT} (h : PT X e t) (w : ∀ σ H Q, t' σ H Q → t σ H Q) : PT X e t' := fun pins s σ H Q I q => h pins s σ H Q I (w σ H Q q)
theorem PW.weak {X : Cx} {e : Expr} {t t' : TT} (h : PW X e t) (w : ∀ σ H Q, t' σ H Q → t σ H Q) : PW X e t' := fun wh pins s σ H Q I q => h wh pins s σ H Q I (w σ H Q q)
theorem PA.weak {X : Cx} {e : List Expr} {t t' : TA} (h : PA X e t) (w : ∀ σ H Q, t' σ H Q → t σ H Q) : PA X e t' := fun pos pins s σ H Q I q => h pos pins s σ H Q I (w σ H Q q)
theorem PS.weak {X : Cx} {e : Stmt} {t t' : TS} (h : PS X e t) (w : ∀ D σ H, t' D σ H → t D σ H) : PS X e t' := fun pins s σ H D I q => h pins s σ H D I (w D σ H q)
theorem PSs.weak {X : Cx} {e : List Stmt} {t t' : TS} (h : PSs X e t) (w : ∀ D σ H, t' D σ H → t D σ H) : PSs X e t' := fun pins s σ H D I q => h pins s σ H D I (w D σ H q)
theorem PI.weak {X : Cx} {tg e : Expr} {t t' : TI} (h : PI X tg e t) (w : ∀ σ H Q, t' σ H Q → t σ H Q) : PI X tg e t' := fun pins s σ H Q I q => h pins s σ H Q I (w σ H Q q)
section
variable {X : Cx} {e a b c : Expr} {pos : Pos} {te ta tb : PTE}
theorem PuE.t (h : PuE X e te) : PuT X e te := PE.weak h fun σ H Q hh_ => hh_.elim fun F ρ Qp er q k => ⟨F, ρ, Qp, er, q, fun p v F' H' hq g r => k p v F' H' hq g (.frz r)⟩
noncomputable def pNew (tn : PTN) : PTE := fun ρ Q => tn ρ fun ps => Q (.lst ps)
theorem PuN.fz {tn : PTN} (h : PuN X e tn) : PuE X e (pNew tn) := PE.weak h fun σ H Q hh_ => hh_.elim fun F ρ Qp er q k => ⟨F, ρ, _, er, q, fun ps a vs F' H' hq g h0 hF hH r =>
  k (.lst ps) (.ref a) _ H' hq (g.freeze h0 hF hH) ⟨a, vs, rfl, upd_same, r.mono (same_new hF _)⟩⟩
theorem PuN.t {tn : PTN} (h : PuN X e tn) : PuT X e (pNew tn) := h.fz.t
noncomputable def gr (ρ : PSt) (i : Nat) (Q : PV → Prop) : Prop := match ρ[i]? with
  | some (some s) => Q (slV s)
  | _ => False
noncomputable def pC (p : PV) : PTE := fun _ Q => Q p
noncomputable def flat : PV → V
  | .non => .non
  | .bl b => .bl b
  | .int i => .int i
  | .str x => .str x
  | .ty n => .ty n
  | .fn a => .ref a
  | _ => .non
noncomputable def isFlat : PV → Bool
  | .tup _ => false
  | .lst _ => false
  | .dct _ _ => false
  | .src _ => false
  | .ktu _ => false
  | .rng _ _ => false
  | _ => true
theorem rep_flat {K : PySem.W.Frag} {F : Hp} {p : PV} (h : isFlat p = true) : Rep K F p (flat p) := by
  cases p <;> first | rfl | exact absurd h Bool.false_ne_true
theorem pu_c {p : PV} (h : PE X e (tC (flat p))) (hp : isFlat p = true := by rfl) : PuE X e (pC p) := PE.weak h fun σ H Q hh_ => hh_.elim fun F ρ Qp er q k => k p _ F H q (.refl er.fz) (rep_flat hp)
theorem pu_int {i : Int} {j} : PuE X (.Constant (.int i) j pos) (pC (.int i)) := pu_c pe_int
theorem pu_bl {i : Bool} {j} : PuE X (.Constant (.bool i) j pos) (pC (.bl i)) := pu_c pe_bl
noncomputable abbrev PG2 := PV → PV → (PV → Prop) → Prop
noncomputable def pOp (g : PG2) (ta tb : PTE) : PTE := fun ρ Q => ta ρ fun x => tb ρ fun y => g x y Q
noncomputable def Ref2 (K : PySem.W.Frag) (r : R2) (g : PG2) : Prop := ∀ F H x y p q (Qp : PV → Prop) (Q : VK), Same F H → RdV K F H p x → RdV K F H q y → g p q Qp → (∀ z v F' H', Qp z → Grow F H F' H' → Rep K F' z v → Q v H') → r x y H Q
theorem op_lift {r : R2} {g : PG2} (hg : Ref2 X.K r g) : ∀ σ H Q, lE X.K (pOp g ta tb) σ H Q → tOp r (lT X.K ta) (lT X.K tb) σ H Q := fun σ H Q hh_ => hh_.elim fun F ρ Qp er q k =>
  ⟨F, ρ, _, er, q, fun p v F1 H1 q1 g1 r1 => ⟨F1, ρ, _, er.grow g1, q1, fun p2 v2 F2 H2 q2 g2 r2 =>
    hg F2 H2 v v2 p p2 Qp Q g2.fh (r1.grow g2) r2 q2 fun z u F3 H3 qz g3 r3 => k z u F3 H3 qz ((g1.trans g2).trans g3) r3⟩⟩
theorem pu_op {op : Operator} {r : R2} {g : PG2} (ho : OpR X (binaryOp op) r) (hg : Ref2 X.K r g) (ha : PuT X a ta) (hb : PuT X b tb) : PuE X (.BinOp a op b pos) (pOp g ta tb) := PE.weak (pe_op ho ha hb) (op_lift hg)
theorem pu_cmp {op : CmpOp} {r : R2} {g : PG2} (ho : OpR X (compareOp op) r) (hg : Ref2 X.K r g) (ha : PuT X a ta) (hb : PuT X b tb) (hm : behindInMarks op b = false) : PuE X (.Compare a [op] [b] pos) (pOp g ta tb) := PE.weak (pe_cmpR ho ha hb hm) (op_lift hg)
noncomputable def OkB : PV → (Bool → Prop) → Prop
  | .bl b, Q => Q b
  | _, _ => False
noncomputable def OkI : PV → (Int → Prop) → Prop
  | .int i, Q => Q i
  | _, _ => False
theorem OkB.rd {K : PySem.W.Frag} {F H : Hp} {p : PV} {v : V} {Q : Bool → Prop} (h : OkB p Q) (r : RdV K F H p v) : ∃ b, p = .bl b ∧ v = .bl b ∧ Q b := by
  cases p <;> first | exact h.elim | skip
  cases r with
  | frz r => exact ⟨_, rfl, r, h⟩
theorem OkI.rd {K : PySem.W.Frag} {F H : Hp} {p : PV} {v : V} {Q : Int → Prop} (h : OkI p Q) (r : RdV K F H p v) : ∃ b, p = .int b ∧ v = .int b ∧ Q b := by
  cases p <;> first | exact h.elim | skip
  cases r with
  | frz r => exact ⟨_, rfl, r, h⟩
noncomputable def pTest (te : PTE) : PTB := fun ρ Q => te ρ fun x => OkB x Q
theorem pub_cmp {op : CmpOp} {r : R2} {g : PG2} (ho : OpR X (compareOp op) r) (hg : Ref2 X.K r g) (ha : PuT X a ta) (hb : PuT X b tb) (hm : behindInMarks op b = false) : PuB X (.Compare a [op] [b] pos) (pTest (pOp g ta tb)) :=
  PT.weak (pt_cmpR ho ha hb hm) fun σ H Q hh_ => hh_.elim fun F ρ Qp er q k => op_lift hg σ H _ ⟨F, ρ, _, er, q, fun p v F' H' hp g r => by
    obtain ⟨b, rfl, rfl, q⟩ := hp.rd (H := H') (.frz r)
    exact ⟨b, rfl, k b F' H' q g⟩⟩
noncomputable def gI (C : Int → Int → Prop) (f : Int → Int → PV) : PG2 := fun x y Q => OkI x fun i => OkI y fun j => C i j ∧ Q (f i j)
noncomputable def gI0 (f : Int → Int → PV) : PG2 := fun x y Q => OkI x fun i => OkI y fun j => Q (f i j)
theorem ref_rI {K : PySem.W.Frag} {C : Int → Int → Prop} {f : Int → Int → PV} (hf : ∀ i j, isFlat (f i j) = true := by intros; rfl) : Ref2 K (rI C fun i j => flat (f i j)) (gI C f) := fun F H x y p q Qp Q s rx ry h k => by
  obtain ⟨i, rfl, rfl, h⟩ := OkI.rd h rx
  obtain ⟨j, rfl, rfl, h⟩ := OkI.rd h ry
  exact ⟨i, j, rfl, rfl, h.1, k _ _ F H h.2 (.refl s) (rep_flat (hf i j))⟩
theorem ref_rI0 {K : PySem.W.Frag} {f : Int → Int → PV} (hf : ∀ i j, isFlat (f i j) = true := by intros; rfl) : Ref2 K (rI0 fun i j => flat (f i j)) (gI0 f) := fun F H x y p q Qp Q s rx ry h k => by
  obtain ⟨i, rfl, rfl, h⟩ := OkI.rd h rx
  obtain ⟨j, rfl, rfl, h⟩ := OkI.rd h ry
  exact ⟨i, j, rfl, rfl, k _ _ F H h (.refl s) (rep_flat (hf i j))⟩
noncomputable def gAdd : PG2 := gI0 fun i j => .int (i + j)
noncomputable def gSub : PG2 := gI0 fun i j => .int (i - j)
noncomputable def gMul : PG2 := gI CMul fun i j => .int (i * j)
noncomputable def gDiv : PG2 := gI CDiv fun i j => .int (i / j)
noncomputable def gMod : PG2 := gI (fun _ j => 0 < j) fun i j => .int (i % j)
noncomputable def gPow : PG2 := gI CPow fun i j => .int (i ^ j.toNat)
noncomputable def gAnd : PG2 := gI0 fun i j => .int (Builtin.bitAnd i j)
noncomputable def gLt : PG2 := gI0 fun i j => .bl (decide (i < j))
noncomputable def gLe : PG2 := gI0 fun i j => .bl (decide (i ≤ j))
noncomputable def gGt : PG2 := gI0 fun i j => .bl (decide (j < i))
noncomputable def gGe : PG2 := gI0 fun i j => .bl (decide (j ≤ i))
theorem pu_add (ha : PuT X a ta) (hb : PuT X b tb) : PuE X (.BinOp a .Add b pos) (pOp gAdd ta tb) := pu_op op_add (ref_rI0 (f := fun i j => .int (i + j))) ha hb
theorem pu_sub (ha : PuT X a ta) (hb : PuT X b tb) : PuE X (.BinOp a .Sub b pos) (pOp gSub ta tb) := pu_op op_sub (ref_rI0 (f := fun i j => .int (i - j))) ha hb
theorem pu_mul (ha : PuT X a ta) (hb : PuT X b tb) : PuE X (.BinOp a .Mult b pos) (pOp gMul ta tb) := pu_op op_mul (ref_rI (f := fun i j => .int (i * j))) ha hb
theorem pu_div (ha : PuT X a ta) (hb : PuT X b tb) : PuE X (.BinOp a .FloorDiv b pos) (pOp gDiv ta tb) := pu_op op_fdiv (ref_rI (f := fun i j => .int (i / j))) ha hb
theorem pu_mod (ha : PuT X a ta) (hb : PuT X b tb) : PuE X (.BinOp a .Mod b pos) (pOp gMod ta tb) := pu_op op_mod (ref_rI (f := fun i j => .int (i % j))) ha hb
theorem pu_pow (ha : PuT X a ta) (hb : PuT X b tb) : PuE X (.BinOp a .Pow b pos) (pOp gPow ta tb) := pu_op op_pow (ref_rI (f := fun i j => .int (i ^ j.toNat))) ha hb
theorem pu_and_ (ha : PuT X a ta) (hb : PuT X b tb) : PuE X (.BinOp a .BitAnd b pos) (pOp gAnd ta tb) := pu_op op_and (ref_rI0 (f := fun i j => .int (Builtin.bitAnd i j))) ha hb
theorem rf_lt : Ref2 X.K (rI0 fun i j => .bl (decide (i < j))) gLt := ref_rI0 (f := fun i j => .bl (decide (i < j)))
theorem rf_le : Ref2 X.K (rI0 fun i j => .bl (decide (i ≤ j))) gLe := ref_rI0 (f := fun i j => .bl (decide (i ≤ j)))
theorem rf_gt : Ref2 X.K (rI0 fun i j => .bl (decide (j < i))) gGt := ref_rI0 (f := fun i j => .bl (decide (j < i)))
theorem rf_ge : Ref2 X.K (rI0 fun i j => .bl (decide (j ≤ i))) gGe := ref_rI0 (f := fun i j => .bl (decide (j ≤ i)))
noncomputable def isNon : PV → Bool
  | .non => true
  | _ => false
end
end Pu
end
section
namespace Pu
open PySem PySem.Spec L2
section
variable {X : Cx} {e a b c : Expr} {pos : Pos} {te ta tb tc : PTE} {tA tB' : PTB} {rest : List Expr}
noncomputable def pNotV (ta : PTE) : PTE := fun ρ Q => ta ρ fun x => OkB x fun b => Q (.bl (!b))
noncomputable def pAndV (ta tb : PTE) : PTE := fun ρ Q => ta ρ fun x => OkB x fun b => if b = true then tb ρ Q else Q (.bl false)
noncomputable def pBAnd (t u : PTB) : PTB := fun ρ Q => t ρ fun b => if b = true then u ρ Q else Q false
noncomputable def pBOr (t u : PTB) : PTB := fun ρ Q => t ρ fun b => if b = true then Q true else u ρ Q
noncomputable def pBNot (t : PTB) : PTB := fun ρ Q => t ρ fun b => Q (!b)
theorem pu_not (ha : PuE X a ta) : PuE X (.UnaryOp .Not a pos) (pNotV ta) := PE.weak (pe_not ha) fun σ H Q hh_ => hh_.elim fun F ρ Qp er q k => ⟨F, ρ, _, er, q, fun p v F1 H1 h1 g1 r1 => by
  obtain ⟨b, rfl, rfl, h⟩ := h1.rd (H := H1) (.frz r1)
  exact ⟨b, rfl, k _ _ F1 H1 h g1 rfl⟩⟩
theorem pu_and (ha : PuE X a ta) (hb : PuE X (.BoolOp .And (b :: rest) pos) tb) : PuE X (.BoolOp .And (a :: b :: rest) pos) (pAndV ta tb) := PE.weak (pe_and ha hb) fun σ H Q hh_ => hh_.elim fun F ρ Qp er q k => ⟨F, ρ, _, er, q, fun p v F1 H1 h1 g1 r1 => by
  obtain ⟨b, rfl, rfl, h⟩ := h1.rd (H := H1) (.frz r1)
  refine ⟨b, rfl, ?_⟩
  cases b with
  | true => exact ⟨F1, ρ, Qp, er.grow g1, by simpa using h, fun p v F' H' hp g r => k p v F' H' hp (g1.trans g) r⟩
  | false => exact k (.bl false) _ F1 H1 (by simpa using h) g1 rfl⟩
theorem pu_one {op} (h : PuE X a te) : PuE X (.BoolOp op [a] pos) te := pe_one h
theorem pub_val (h : PT X e (tB (lE X.K te))) : PuB X e (pTest te) := PT.weak h fun σ H Q hh_ => hh_.elim fun F ρ Qp er q k => ⟨F, ρ, _, er, q, fun p v F1 H1 h1 g1 r1 => by
  obtain ⟨b, rfl, rfl, h⟩ := h1.rd (H := H1) (.frz r1)
  exact ⟨b, rfl, k _ F1 H1 h g1⟩⟩
theorem puw_and1 (ha : PuB X a tA) : PuW X (.BoolOp .And [a] pos) tA := pw_and1 ha
theorem puw_or1 (ha : PuB X a tA) : PuW X (.BoolOp .Or [a] pos) tA := pw_or1 ha
theorem puw_and (ha : PuB X a tA) (hb : PuW X (.BoolOp .And (b :: rest) pos) tB') : PuW X (.BoolOp .And (a :: b :: rest) pos) (pBAnd tA tB') := PW.weak (pw_and ha hb) fun σ H Q hh_ => hh_.elim fun F ρ Qp er q k => ⟨F, ρ, _, er, q, fun b F1 H1 h1 g1 => by
  cases b with
  | true => exact ⟨F1, ρ, Qp, er.grow g1, by simpa using h1, fun b F' H' hp g => k b F' H' hp (g1.trans g)⟩
  | false => exact k _ F1 H1 (by simpa using h1) g1⟩
theorem puw_or (ha : PuB X a tA) (hb : PuW X (.BoolOp .Or (b :: rest) pos) tB') : PuW X (.BoolOp .Or (a :: b :: rest) pos) (pBOr tA tB') := PW.weak (pw_or ha hb) fun σ H Q hh_ => hh_.elim fun F ρ Qp er q k => ⟨F, ρ, _, er, q, fun b F1 H1 h1 g1 => by
  cases b with
  | false => exact ⟨F1, ρ, Qp, er.grow g1, by simpa using h1, fun b F' H' hp g => k b F' H' hp (g1.trans g)⟩
  | true => exact k _ F1 H1 (by simpa using h1) g1⟩
theorem puw_b (h : PuW X e tA) : PuB X e tA := PW.pt h
theorem pub_not (ha : PuB X a tA) : PuB X (.UnaryOp .Not a pos) (pBNot tA) := PT.weak (pt_not ha) fun σ H Q hh_ => hh_.elim fun F ρ Qp er q k => ⟨F, ρ, _, er, q, fun b F1 H1 h1 g1 => k _ F1 H1 h1 g1⟩
noncomputable def pChain (g g' : PG2) (ta tb tc : PTE) : PTE := fun ρ Q => ta ρ fun x => tb ρ fun y => g x y fun z => OkB z fun k => if k = true then tc ρ fun w => g' y w Q else Q (.bl false)
theorem chain_lift {r r' : R2} {g g' : PG2} (hg : Ref2 X.K r g) (hg' : Ref2 X.K r' g') : ∀ σ H Q, lE X.K (pChain g g' ta tb tc) σ H Q → tChain r r' (lT X.K ta) (lT X.K tb) (lT X.K tc) σ H Q := fun σ H Q hh_ => hh_.elim fun F ρ Qp er q k =>
  ⟨F, ρ, _, er, q, fun p v F1 H1 q1 g1 r1 => ⟨F1, ρ, _, er.grow g1, q1, fun p2 v2 F2 H2 q2 g2 r2 =>
    hg F2 H2 v v2 p p2 _ _ g2.fh (r1.grow g2) r2 q2 fun z u F3 H3 qz g3 r3 => by
      obtain ⟨b, rfl, rfl, h⟩ := OkB.rd (H := H3) qz (.frz r3)
      refine ⟨b, rfl, ?_⟩
      have gg := (g1.trans g2).trans g3
      cases b with
      | true => exact ⟨F3, ρ, _, er.grow gg, by simpa using h, fun p4 v4 F4 H4 q4 g4 r4 => hg' F4 H4 v2 v4 p2 p4 Qp Q g4.fh (r2.grow (g3.trans g4)) r4 q4 fun z u F5 H5 qz g5 r5 => k z u F5 H5 qz ((gg.trans g4).trans g5) r5⟩
      | false => exact k (.bl false) _ F3 H3 (by simpa using h) gg rfl⟩⟩
theorem pu_chain {op op' : CmpOp} {r r' : R2} {g g' : PG2} (ho : OpR X (compareOp op) r) (hg : Ref2 X.K r g) (ho' : OpR X (compareOp op') r') (hg' : Ref2 X.K r' g') (ha : PuT X a ta) (hb : PuT X b tb) (hc : PuT X c tc)
    (hm : lastMarks [op, op'] [b, c] = false := by with_unfolding_all rfl) : PuE X (.Compare a [op, op'] [b, c] pos) (pChain g g' ta tb tc) := PE.weak (pe_chain ho ho' ha hb hc hm) (chain_lift hg hg')
noncomputable def pNeg (ta : PTE) : PTE := fun ρ Q => ta ρ fun x => OkI x fun i => Q (.int (-i))
theorem pu_neg (ha : PuE X a ta) : PuE X (.UnaryOp .USub a pos) (pNeg ta) := PE.weak (pe_un un_neg ha) fun σ H Q hh_ => hh_.elim fun F ρ Qp er q k => ⟨F, ρ, _, er, q, fun p v F1 H1 h1 g1 r1 => by
  obtain ⟨i, rfl, rfl, h⟩ := h1.rd (H := H1) (.frz r1)
  exact ⟨i, rfl, k _ _ F1 H1 h g1 rfl⟩⟩
inductive RdVs (K : PySem.W.Frag) (F H : Hp) : List PV → List V → Prop where
  | nil : RdVs K F H [] []
  | cons {p : PV} {v : V} {ps : List PV} {vs : List V} : RdV K F H p v → RdVs K F H ps vs → RdVs K F H (p :: ps) (v :: vs)
noncomputable def lAT (K : PySem.W.Frag) (te : PTA) : TA := fun σ H Q => ∃ F ρ, ∃ Qp : List PV → Prop, ER K F H σ ρ ∧ te ρ Qp ∧ ∀ ps vs F' H', Qp ps → Grow F H F' H' → RdVs K F' H' ps vs → Q vs H'
theorem lAT.elim {K : PySem.W.Frag} {te : PTA} {σ : St} {H : Hp} {Q : List V → Hp → Prop} {C : Prop} (h : lAT K te σ H Q) (k : ∀ F ρ (Qp : List PV → Prop), ER K F H σ ρ → te ρ Qp → (∀ ps vs F' H', Qp ps → Grow F H F' H' → RdVs K F' H' ps vs → Q vs H') → C) : C := by obtain ⟨F, ρ, Qp, a, b, c⟩ := h; exact k F ρ Qp a b c
noncomputable def PuAT (X : Cx) (es : List Expr) (te : PTA) : Prop := PA X es (lAT X.K te)
noncomputable def pNil : PTA := fun _ Q => Q []
noncomputable def pCons (te : PTE) (t : PTA) : PTA := fun ρ Q => te ρ fun p => t ρ fun ps => Q (p :: ps)
variable {es : List Expr} {t : PTA}
theorem pua_nil : PuA X [] pNil := PA.weak pa_nil fun σ H Q hh_ => hh_.elim fun F ρ Qp er q k => k _ _ F H q (.refl er.fz) rfl
theorem pua_cons (hn : NS e) (he : PuE X e te) (ht : PuA X es t) : PuA X (e :: es) (pCons te t) := PA.weak (pa_consN hn he ht) fun σ H Q hh_ => hh_.elim fun F ρ Qp er q k => ⟨F, ρ, _, er, q, fun p v F1 H1 h1 g1 r1 =>
  ⟨F1, ρ, _, er.grow g1, h1, fun ps vs F2 H2 h2 g2 r2 => k _ _ F2 H2 h2 (g1.trans g2) ⟨v, vs, rfl, r1.mono g2.ff, r2⟩⟩⟩
theorem puat_nil : PuAT X [] pNil := PA.weak pa_nil fun σ H Q hh_ => hh_.elim fun F ρ Qp er q k => k _ _ F H q (.refl er.fz) .nil
theorem puat_cons (hn : NS e) (he : PuT X e te) (ht : PuAT X es t) : PuAT X (e :: es) (pCons te t) := PA.weak (pa_consN hn he ht) fun σ H Q hh_ => hh_.elim fun F ρ Qp er q k => ⟨F, ρ, _, er, q, fun p v F1 H1 h1 g1 r1 =>
  ⟨F1, ρ, _, er.grow g1, h1, fun ps vs F2 H2 h2 g2 r2 => k _ _ F2 H2 h2 (g1.trans g2) (.cons (r1.grow g2) r2)⟩⟩
noncomputable def pTup (t : PTA) : PTE := fun ρ Q => t ρ fun ps => ps.length ≤ sizeLine ∧ Q (.tup ps)
noncomputable def pLst (t : PTA) : PTN := fun ρ Q => t ρ fun ps => ps.length ≤ sizeLine ∧ Q ps
theorem pu_tup {x1} (h : PuA X es t) : PuE X (.Tuple es x1 pos) (pTup t) := PE.weak (pe_tup h) fun σ H Q hh_ => hh_.elim fun F ρ Qp er q k => ⟨F, ρ, _, er, q, fun ps vs F1 H1 h1 g1 r1 => ⟨by rw [r1.length]; exact h1.1, fun p hp =>
  k (.tup ps) (.ref p) _ _ h1.2 (g1.trans (.new g1.fh hp _)) ⟨p, vs, rfl, upd_same, r1.mono (same_new (g1.fh.free hp) _)⟩⟩⟩
theorem pu_lst (h : PuA X es t) : PuN X (.List es pos) (pLst t) := PE.weak (pe_lst h) fun σ H Q hh_ => hh_.elim fun F ρ Qp er q k => ⟨F, ρ, _, er, q, fun ps vs F1 H1 h1 g1 r1 => ⟨by rw [r1.length]; exact h1.1, fun p hp =>
  k ps p vs F1 _ h1.2 (g1.trans (.newO g1.fh hp _)) (g1.hh.free hp) (g1.fh.free hp) upd_same r1⟩⟩
noncomputable def items : PV → Option (List PV)
  | .tup ps => some ps
  | .lst ps => some ps
  | .src ps => some ps
  | .ktu ps => some ps
  | _ => none
noncomputable def OkS (p : PV) (Q : List PV → Prop) : Prop := match items p with
  | some ps => Q ps
  | none => False
noncomputable def OkO {α : Type} (o : Option α) (Q : α → Prop) : Prop := match o with
  | some x => Q x
  | none => False
theorem OkO.ex {α : Type} {o : Option α} {Q : α → Prop} (h : OkO o Q) : ∃ x, o = some x ∧ Q x := by
  cases o with
  | none => exact h.elim
  | some x => exact ⟨x, rfl, h⟩
theorem OkS.rd {K : PySem.W.Frag} {F H : Hp} {p : PV} {v : V} {Q : List PV → Prop} (h : OkS p Q) (s : Same F H) (r : RdV K F H p v) : ∃ a vs ps, v = .ref a ∧ (SqL K H a vs ∨ SqT K H a vs) ∧ items p = some ps ∧ Reps K F ps vs ∧ Q ps := by
  unfold OkS at h
  cases r with
  | frz r =>
    cases p <;> first | exact h.elim | skip
    · obtain ⟨a, vs, rfl, e, r⟩ := r; exact ⟨a, vs, _, rfl, .inr (SqT.of (s _ _ e)), rfl, r, h⟩
    · obtain ⟨a, vs, rfl, e, r⟩ := r; exact ⟨a, vs, _, rfl, .inl (SqL.of (s _ _ e)), rfl, r, h⟩
    · obtain ⟨a, vs, rfl, e, r⟩ := r; exact ⟨a, vs, _, rfl, .inl (s.seq e), rfl, r, h⟩
    · obtain ⟨a, vs, rfl, e, r⟩ := r; exact ⟨a, vs, _, rfl, .inr (SqTm s e), rfl, r, h⟩
  | own h1 h2 h3 => exact ⟨_, _, _, rfl, .inl (SqL.of h1), rfl, h3, h⟩
  | dic => exact h.elim
theorem Reps.atI {K : PySem.W.Frag} {F : Hp} {ps : List PV} {vs : List V} {i : Int} {p : PV} (h : Reps K F ps vs) (e : L2.atI ps i = some p) : ∃ v, L2.atI vs i = some v ∧ Rep K F p v := by
  unfold L2.atI at e ⊢
  rw [h.length]
  cases q : ixN ps.length i with
  | none => rw [q] at e; cases e
  | some j => rw [q] at e; exact h.get e
noncomputable def gIx : PG2 := fun x y Q => OkI y fun i => match x with
  | .str z => z.length ≤ sizeLine ∧ OkO (L2.atI z.cps.toList i) fun c => Q (.str ⟨#[c]⟩)
  | p => OkS p fun ps => OkO (L2.atI ps i) Q
theorem rf_ix : Ref2 X.K (rIx X.K) gIx := fun F H x y p q Qp Q s rx ry h k => by
  obtain ⟨i, rfl, rfl, h⟩ := OkI.rd h ry
  by_cases hz : ∃ z, p = .str z
  · obtain ⟨z, rfl⟩ := hz
    obtain ⟨h1, h2⟩ := h
    obtain ⟨c, e, h2⟩ := h2.ex
    cases rx with
    | frz r => exact .inr (.inr ⟨z, i, c, r, rfl, h1, e, k _ _ F H h2 (.refl s) rfl⟩)
  · have h' : OkS p fun ps => OkO (L2.atI ps i) Qp := by
      cases p <;> first | exact h | exact absurd ⟨_, rfl⟩ hz
    obtain ⟨a, vs, ps, rfl, hs, _, r, h⟩ := h'.rd s rx
    obtain ⟨z, e, h⟩ := h.ex
    obtain ⟨v, e', r'⟩ := r.atI e
    rcases hs with hs | hs
    · exact .inl ⟨a, vs, i, v, rfl, rfl, hs, e', k z v F H h (.refl s) r'⟩
    · exact .inr (.inl ⟨a, vs, i, v, rfl, rfl, hs, e', k z v F H h (.refl s) r'⟩)
theorem pu_ix (ha : PuT X a ta) (hb : PuT X b tb) (hs : PlainIx b) : PuE X (.Subscript a b pos) (pOp gIx ta tb) := PE.weak (pe_ix ix_seq ha hb hs) (op_lift rf_ix)
noncomputable abbrev PTO := PSt → (Option Int → Prop) → Prop
noncomputable def lO (K : PySem.W.Frag) (te : PTO) : TO := fun σ H Q => ∃ F ρ, ∃ Qp : Option Int → Prop, ER K F H σ ρ ∧ te ρ Qp ∧ ∀ b F' H', Qp b → Grow F H F' H' → Q b H'
theorem lO.elim {K : PySem.W.Frag} {te : PTO} {σ : St} {H : Hp} {Q : Option Int → Hp → Prop} {C : Prop} (h : lO K te σ H Q) (k : ∀ F ρ (Qp : Option Int → Prop), ER K F H σ ρ → te ρ Qp → (∀ b F' H', Qp b → Grow F H F' H' → Q b H') → C) : C := by obtain ⟨F, ρ, Qp, a, b, c⟩ := h; exact k F ρ Qp a b c
noncomputable def PuO (X : Cx) (e : Option Expr) (te : PTO) : Prop := PO X e (lO X.K te)
theorem PO.weak {X : Cx} {e : Option Expr} {t t' : TO} (h : PO X e t) (w : ∀ σ H Q, t' σ H Q → t σ H Q) : PO X e t' := fun pins s σ H Q I q => h pins s σ H _ I (w σ H _ q)
noncomputable def pNoPart : PTO := fun _ Q => Q none
noncomputable def pPart (te : PTE) : PTO := fun ρ Q => te ρ fun x => OkI x fun i => Q (some i)
theorem puo_none : PuO X none pNoPart := PO.weak po_none fun σ H Q hh_ => hh_.elim fun F ρ Qp er q k => k _ F H q (.refl er.fz)
theorem puo_some (h : PuE X e te) : PuO X (some e) (pPart te) := PO.weak (po_some h) fun σ H Q hh_ => hh_.elim fun F ρ Qp er q k => ⟨F, ρ, _, er, q, fun p v F1 H1 h1 g1 r1 => by
  obtain ⟨i, rfl, rfl, h⟩ := h1.rd (H := H1) (.frz r1)
  exact ⟨i, rfl, k _ F1 H1 h g1⟩⟩
noncomputable def cut {α : Type} (xs : List α) (lo hi : Option Int) : List α := (xs.drop (HT.sIx xs.length 0 lo)).take (HT.sIx xs.length xs.length hi - HT.sIx xs.length 0 lo)
theorem Reps.cut {K : PySem.W.Frag} {F : Hp} {ps : List PV} {vs : List V} {lo hi : Option Int} (h : Reps K F ps vs) : Reps K F (cut ps lo hi) (cutV vs lo hi) := by
  unfold Pu.cut cutV
  rw [h.length]
  exact (h.drop _).take _
noncomputable def OkL : PV → (List PV → Prop) → Prop
  | .lst ps, Q => Q ps
  | .src ps, Q => Q ps
  | _, _ => False
theorem OkL.rd {K : PySem.W.Frag} {F H : Hp} {p : PV} {v : V} {Q : List PV → Prop} (h : OkL p Q) (s : Same F H) (r : RdV K F H p v) : ∃ a vs ps, v = .ref a ∧ SqL K H a vs ∧ Reps K F ps vs ∧ Q ps := by
  cases r with
  | frz r =>
    cases p <;> first | exact h.elim | skip
    · obtain ⟨a, vs, rfl, e, r⟩ := r; exact ⟨a, vs, _, rfl, SqL.of (s _ _ e), r, h⟩
    · obtain ⟨a, vs, rfl, e, r⟩ := r; exact ⟨a, vs, _, rfl, s.seq e, r, h⟩
  | own h1 h2 h3 => exact ⟨_, _, _, rfl, SqL.of h1, h3, h⟩
  | dic => exact h.elim
noncomputable def OkT : PV → (List PV → Prop) → Prop
  | .tup ps, Q => Q ps
  | _, _ => False
theorem OkT.rd {K : PySem.W.Frag} {F H : Hp} {p : PV} {v : V} {Q : List PV → Prop} (h : OkT p Q) (r : RdV K F H p v) : ∃ a vs ps, p = .tup ps ∧ v = .ref a ∧ F a = some (.tup vs) ∧ Reps K F ps vs ∧ Q ps := by
  cases p <;> first | exact h.elim | skip
  cases r with
  | frz r => obtain ⟨a, vs, rfl, e, r⟩ := r; exact ⟨a, vs, _, rfl, rfl, e, r, h⟩
noncomputable def pSlL (te : PTE) (tl th : PTO) : PTN := fun ρ Q => te ρ fun x => tl ρ fun l => th ρ fun h => OkL x fun ps => Q (cut ps l h)
theorem pu_slL {lo hi : Option Expr} {tl th : PTO} {p2 : Pos} (he : PuT X e te) (hl : PuO X lo tl) (hh : PuO X hi th) : PuN X (.Subscript e (.Slice lo hi none p2) pos) (pSlL te tl th) := PE.weak (pe_slice sl_list he hl hh) fun σ H Q hh_ => hh_.elim fun F ρ Qp er q k => ⟨F, ρ, _, er, q, fun p v F1 H1 h1 g1 r1 =>
  ⟨F1, ρ, _, er.grow g1, h1, fun l F2 H2 h2 g2 => ⟨F2, ρ, _, (er.grow g1).grow g2, h2, fun h F3 H3 h3 g3 => by
    have gg := (g1.trans g2).trans g3
    obtain ⟨a, vs, ps, rfl, hs, r, q⟩ := h3.rd gg.fh (r1.grow (g2.trans g3))
    refine ⟨a, vs, rfl, hs, fun p hp => k _ p _ F3 _ q (gg.trans (.newO gg.fh hp _)) (gg.hh.free hp) (gg.fh.free hp) upd_same r.cut⟩⟩⟩⟩
end
end Pu
end
section
namespace Pu
open PySem PySem.Spec L2 PySem.SeqAt
mutual
noncomputable def plain : PV → Bool
  | .non => true
  | .bl _ => true
  | .int _ => true
  | .str _ => true
  | .tup ps => plains ps
  | .lst ps => plains ps
  | _ => false
noncomputable def plains : List PV → Bool
  | [] => true
  | p :: ps => plain p && plains ps
end
mutual
noncomputable def dep : PV → Nat
  | .tup ps => deps ps + 1
  | .lst ps => deps ps + 1
  | _ => 0
noncomputable def deps : List PV → Nat
  | [] => 0
  | p :: ps => max (dep p) (deps ps)
end
mutual
noncomputable def peq : PV → PV → Bool
  | .tup ps, q => match q with
    | .tup qs => peqs ps qs
    | _ => false
  | .lst ps, q => match q with
    | .lst qs => peqs ps qs
    | _ => false
  | p, q => isFlat q && eqV (flat p) (flat q)
noncomputable def peqs : List PV → List PV → Bool
  | [], qs => match qs with
    | [] => true
    | _ :: _ => false
  | p :: ps, qs => match qs with
    | [] => false
    | q :: qs => peq p q && peqs ps qs
end
theorem peqs_range : ∀ (ps qs : List PV), ((List.range (min ps.length qs.length)).all (fun j => peq (ps.getD j .non) (qs.getD j .non)) && ps.length == qs.length) = peqs ps qs
  | [], [] => by simp [peqs]
  | [], _ :: _ => by simp [peqs]
  | _ :: _, [] => by simp [peqs]
  | p :: ps, q :: qs => by
    have ih := peqs_range ps qs
    rw [peqs, ← ih]
    rw [show min (p :: ps).length (q :: qs).length = min ps.length qs.length + 1 by simp only [List.length_cons]; omega, List.range_succ_eq_map, List.all_cons, List.all_map]
    simp [Bool.and_assoc, Function.comp_def]
theorem peqs_range' {ps qs : List PV} (h : ps.length = qs.length) : (List.range ps.length).all (fun j => peq (ps.getD j .non) (qs.getD j .non)) = peqs ps qs := by
  rw [← peqs_range, ← h, Nat.min_self]; simp
theorem peqs_len {ps qs : List PV} (h : ps.length ≠ qs.length) : peqs ps qs = false := by
  rw [← peqs_range, (show (ps.length == qs.length) = false by simpa using h), Bool.and_false]
mutual
noncomputable def Dv (s : Shared) : PV → Value → Prop
  | .tup ps, u => ∃ a its, u = .ref a ∧ s.heap.IsTuple a its.toArray ∧ Dvs s ps its
  | .lst ps, u => ∃ a its, u = .ref a ∧ s.heap.IsList a its.toArray ∧ Dvs s ps its
  | p, u => RelV (flat p) u
noncomputable def Dvs (s : Shared) : List PV → List Value → Prop
  | [], us => us = []
  | p :: ps, us => ∃ u r, us = u :: r ∧ Dv s p u ∧ Dvs s ps r
end
theorem Dvs.length {s : Shared} : ∀ {ps : List PV} {us : List Value}, Dvs s ps us → us.length = ps.length
  | [], _, h => by rw [show _ = [] from h]; rfl
  | _ :: _, _, ⟨u, r, e, _, t⟩ => by rw [e, List.length_cons, List.length_cons, t.length]
section
variable {X : Cx} {pins : List (Addr × Obj)} {σ : L2.St} {F H : Hp} {s : Shared}
mutual
theorem dv_of (I : L2.Inv X pins σ H s) (sf : Same F H) : ∀ {p : PV} {v : V} {u : Value}, plain p = true → Rep X.K F p v → RelV v u → Dv s p u
  | .non, _, _, _, h, r => by rw [show _ = _ from h] at r; exact r
  | .bl _, _, _, _, h, r => by rw [show _ = _ from h] at r; exact r
  | .int _, _, _, _, h, r => by rw [show _ = _ from h] at r; exact r
  | .str _, _, _, _, h, r => by rw [show _ = _ from h] at r; exact r
  | .tup ps, _, _, hp, ⟨a, vs, e, hF, rs⟩, r => by
    subst e
    obtain ⟨its, rv, pl, hz⟩ := I.tuple (SqT.of (sf _ _ hF))
    exact ⟨a, its, r, pl, dvs_of I sf hp rs rv⟩
  | .lst ps, _, _, hp, ⟨a, vs, e, hF, rs⟩, r => by
    subst e
    obtain ⟨its, rv, pl, hz⟩ := I.list (SqL.of (sf _ _ hF))
    exact ⟨a, its, r, pl.isList, dvs_of I sf hp rs rv⟩
  | .ty _, _, _, hp, _, _ => absurd hp Bool.false_ne_true
  | .fn _, _, _, hp, _, _ => absurd hp Bool.false_ne_true
  | .dct _ _, _, _, hp, _, _ => absurd hp Bool.false_ne_true
  | .src _, _, _, hp, _, _ => absurd hp Bool.false_ne_true
  | .ktu _, _, _, hp, _, _ => absurd hp Bool.false_ne_true
  | .rng _ _, _, _, hp, _, _ => absurd hp Bool.false_ne_true
theorem dvs_of (I : L2.Inv X pins σ H s) (sf : Same F H) : ∀ {ps : List PV} {vs : List V} {us : List Value}, plains ps = true → Reps X.K F ps vs → Vals vs us → Dvs s ps us
  | [], _, _, _, h, r => by rw [show _ = [] from h] at r; cases r; rfl
  | p :: ps, _, _, hp, ⟨v, t, e, h1, h2⟩, r => by
    subst e
    cases r with
    | cons r1 r2 =>
      rw [plains, Bool.and_eq_true] at hp
      exact ⟨_, _, rfl, dv_of I sf hp.1 h1 r1, dvs_of I sf hp.2 h2 r2⟩
end
theorem dv_rd (I : L2.Inv X pins σ H s) (sf : Same F H) {p : PV} {v : V} {u : Value} (hp : plain p = true) (h : RdV X.K F H p v) (r : RelV v u) : Dv s p u := by
  cases h with
  | frz h => exact dv_of I sf hp h r
  | own h1 h2 h3 =>
    obtain ⟨its, rv, pl, hz⟩ := I.list (SqL.of h1)
    exact ⟨_, its, r, pl.isList, dvs_of I sf hp h3 rv⟩
  | dic => exact absurd hp Bool.false_ne_true
end
theorem flatV_of {p : PV} (h1 : isFlat p = true) (h2 : plain p = true) : flatV (flat p) = true := by
  cases p <;> first | rfl | exact absurd h1 Bool.false_ne_true | exact absurd h2 Bool.false_ne_true
theorem rc_flat {A : Around} {s : Shared} {y x : V} {u v : Value} (ry : RelV y u) (rx : RelV x v) (fy : flatV y = true) (fx : flatV x = true) : RcAt A s u v (eqV y x) := by
  cases y with
  | non =>
    cases ry
    cases x with
    | non => cases rx; exact RcAt.none_none
    | bl b => cases rx; exact RcAt.none_bool b
    | int b => obtain ⟨t, rfl⟩ := rx; exact RcAt.none_int b t
    | str b => obtain ⟨t, rfl⟩ := rx; exact RcAt.none_str b t
    | _ => exact absurd (show false = true from fx) Bool.false_ne_true
  | bl a =>
    cases ry
    cases x with
    | non => cases rx; exact RcAt.bool_none a
    | bl b => cases rx; exact RcAt.bool_bool a b
    | int b => obtain ⟨t, rfl⟩ := rx; exact RcAt.bool_int a b t
    | str b => obtain ⟨t, rfl⟩ := rx; exact RcAt.bool_str a b t
    | _ => exact absurd (show false = true from fx) Bool.false_ne_true
  | int a =>
    obtain ⟨t', rfl⟩ := ry
    cases x with
    | non => cases rx; exact RcAt.int_none a t'
    | bl b => cases rx; exact RcAt.int_bool a t' b
    | int b => obtain ⟨t, rfl⟩ := rx; exact RcAt.int_int a t' b t
    | str b => obtain ⟨t, rfl⟩ := rx; exact RcAt.int_str a t' b t
    | _ => exact absurd (show false = true from fx) Bool.false_ne_true
  | str a =>
    obtain ⟨t', rfl⟩ := ry
    cases x with
    | non => cases rx; exact RcAt.str_none a t'
    | bl b => cases rx; exact RcAt.str_bool a t' b
    | int b => obtain ⟨t, rfl⟩ := rx; exact RcAt.str_int a t' b t
    | str b => obtain ⟨t, rfl⟩ := rx; exact RcAt.str_str a t' b t
    | _ => exact absurd (show false = true from fx) Bool.false_ne_true
  | _ => exact absurd (show false = true from fy) Bool.false_ne_true
theorem rn_flat {A : Around} {s : Shared} {y x : V} {u v : Value} (ry : RelV y u) (rx : RelV x v) (fy : flatV y = true) (fx : flatV x = true) : RcNeAt A s u v (!eqV y x) := by
  cases y with
  | non =>
    cases ry
    cases x with
    | non => cases rx; exact RcNeAt.none_none
    | bl b => cases rx; exact RcNeAt.none_bool b
    | int b => obtain ⟨t, rfl⟩ := rx; exact RcNeAt.none_int b t
    | str b => obtain ⟨t, rfl⟩ := rx; exact RcNeAt.none_str b t
    | _ => exact absurd (show false = true from fx) Bool.false_ne_true
  | bl a =>
    cases ry
    cases x with
    | non => cases rx; exact RcNeAt.bool_none a
    | bl b => cases rx; exact RcNeAt.bool_bool a b
    | int b => obtain ⟨t, rfl⟩ := rx; exact RcNeAt.bool_int a b t
    | str b => obtain ⟨t, rfl⟩ := rx; exact RcNeAt.bool_str a b t
    | _ => exact absurd (show false = true from fx) Bool.false_ne_true
  | int a =>
    obtain ⟨t', rfl⟩ := ry
    cases x with
    | non => cases rx; exact RcNeAt.int_none a t'
    | bl b => cases rx; exact RcNeAt.int_bool a t' b
    | int b => obtain ⟨t, rfl⟩ := rx; exact RcNeAt.int_int a t' b t
    | str b => obtain ⟨t, rfl⟩ := rx; exact RcNeAt.int_str a t' b t
    | _ => exact absurd (show false = true from fx) Bool.false_ne_true
  | str a =>
    obtain ⟨t', rfl⟩ := ry
    cases x with
    | non => cases rx; exact RcNeAt.str_none a t'
    | bl b => cases rx; exact RcNeAt.str_bool a t' b
    | int b => obtain ⟨t, rfl⟩ := rx; exact RcNeAt.str_int a t' b t
    | str b => obtain ⟨t, rfl⟩ := rx; exact RcNeAt.str_str a t' b t
    | _ => exact absurd (show false = true from fx) Bool.false_ne_true
  | _ => exact absurd (show false = true from fy) Bool.false_ne_true
theorem peq_flat {p q : PV} (hp : isFlat p = true) : peq p q = (isFlat q && eqV (flat p) (flat q)) := by
  cases p <;> first | rfl | exact absurd hp Bool.false_ne_true
mutual
theorem peq_self : ∀ {p : PV}, plain p = true → peq p p = true
  | .non, _ => rfl
  | .bl b, _ => by simp [peq, isFlat, flat, eqV]
  | .int b, _ => by simp [peq, isFlat, flat, eqV]
  | .str b, _ => by simp [peq, isFlat, flat, eqV]
  | .tup ps, h => peqs_self (ps := ps) h
  | .lst ps, h => peqs_self (ps := ps) h
  | .ty _, h => absurd h Bool.false_ne_true
  | .fn _, h => absurd h Bool.false_ne_true
  | .dct _ _, h => absurd h Bool.false_ne_true
  | .src _, h => absurd h Bool.false_ne_true
  | .ktu _, h => absurd h Bool.false_ne_true
  | .rng _ _, h => absurd h Bool.false_ne_true
theorem peqs_self : ∀ {ps : List PV}, plains ps = true → peqs ps ps = true
  | [], _ => rfl
  | p :: ps, h => by
    rw [plains, Bool.and_eq_true] at h
    rw [peqs, peq_self h.1, peqs_self h.2]; rfl
end
theorem tup_inj {h : Heap} {a : Addr} {x y : List Value} (h1 : h.IsTuple a x.toArray) (h2 : h.IsTuple a y.toArray) : x = y := by
  obtain ⟨o, e, _, n, d⟩ := h1
  obtain ⟨o', e', _, n', d'⟩ := h2
  rw [e] at e'; cases e'
  rw [d] at d'
  injection d' with d1 _
  simpa using congrArg Array.toList d1
theorem lst_inj {h : Heap} {a : Addr} {x y : List Value} (h1 : h.IsList a x.toArray) (h2 : h.IsList a y.toArray) : x = y := by
  obtain ⟨o, e, _, n, d⟩ := h1
  obtain ⟨o', e', _, n', d'⟩ := h2
  rw [e] at e'; cases e'
  rw [d] at d'
  injection d' with d1 _
  simpa using congrArg Array.toList d1
mutual
theorem Dv.inj {s : Shared} : ∀ {p q : PV} {u : Value}, plain p = true → plain q = true → Dv s p u → Dv s q u → p = q
  | .tup ps, q, _, hp, hq, ⟨a, its, e, h1, h2⟩, d => by
    subst e
    cases q with
    | tup qs =>
      obtain ⟨a', its', e', h1', h2'⟩ := d
      cases e'
      have := tup_inj h1 h1'
      subst this
      rw [Dvs.inj hp hq h2 h2']
    | lst qs =>
      obtain ⟨a', its', e', h1', h2'⟩ := d
      cases e'
      exact absurd rfl (ne_of_list_tuple h1' h1)
    | non => cases (show Value.ref a = _ from d)
    | bl b => cases (show Value.ref a = _ from d)
    | int b => obtain ⟨t, e⟩ := d; cases e
    | str b => obtain ⟨t, e⟩ := d; cases e
    | _ => exact absurd hq Bool.false_ne_true
  | .lst ps, q, _, hp, hq, ⟨a, its, e, h1, h2⟩, d => by
    subst e
    cases q with
    | lst qs =>
      obtain ⟨a', its', e', h1', h2'⟩ := d
      cases e'
      have := lst_inj h1 h1'
      subst this
      rw [Dvs.inj hp hq h2 h2']
    | tup qs =>
      obtain ⟨a', its', e', h1', h2'⟩ := d
      cases e'
      exact absurd rfl (ne_of_list_tuple h1 h1')
    | non => cases (show Value.ref a = _ from d)
    | bl b => cases (show Value.ref a = _ from d)
    | int b => obtain ⟨t, e⟩ := d; cases e
    | str b => obtain ⟨t, e⟩ := d; cases e
    | _ => exact absurd hq Bool.false_ne_true
  | .non, q, _, hp, hq, d, d' => by
    cases (show _ = Value.none from d)
    cases q with
    | non => rfl
    | bl b => cases (show Value.none = _ from d')
    | int b => obtain ⟨t, e⟩ := d'; cases e
    | str b => obtain ⟨t, e⟩ := d'; cases e
    | tup qs => obtain ⟨a, its, e, _⟩ := d'; cases e
    | lst qs => obtain ⟨a, its, e, _⟩ := d'; cases e
    | _ => exact absurd hq Bool.false_ne_true
  | .bl x, q, _, hp, hq, d, d' => by
    cases (show _ = Value.bool x from d)
    cases q with
    | non => cases (show Value.bool x = _ from d')
    | bl b => cases (show Value.bool x = Value.bool b from d'); rfl
    | int b => obtain ⟨t, e⟩ := d'; cases e
    | str b => obtain ⟨t, e⟩ := d'; cases e
    | tup qs => obtain ⟨a, its, e, _⟩ := d'; cases e
    | lst qs => obtain ⟨a, its, e, _⟩ := d'; cases e
    | _ => exact absurd hq Bool.false_ne_true
  | .int x, q, _, hp, hq, ⟨t, d⟩, d' => by
    subst d
    cases q with
    | non => cases (show Value.int x t = _ from d')
    | bl b => cases (show Value.int x t = Value.bool b from d')
    | int b => obtain ⟨t, e⟩ := d'; cases e; rfl
    | str b => obtain ⟨t, e⟩ := d'; cases e
    | tup qs => obtain ⟨a, its, e, _⟩ := d'; cases e
    | lst qs => obtain ⟨a, its, e, _⟩ := d'; cases e
    | _ => exact absurd hq Bool.false_ne_true
  | .str x, q, _, hp, hq, ⟨t, d⟩, d' => by
    subst d
    cases q with
    | non => cases (show Value.str x t = _ from d')
    | bl b => cases (show Value.str x t = Value.bool b from d')
    | int b => obtain ⟨t, e⟩ := d'; cases e
    | str b => obtain ⟨t, e⟩ := d'; cases e; rfl
    | tup qs => obtain ⟨a, its, e, _⟩ := d'; cases e
    | lst qs => obtain ⟨a, its, e, _⟩ := d'; cases e
    | _ => exact absurd hq Bool.false_ne_true
  | .ty _, _, _, h, _, _, _ => absurd h Bool.false_ne_true
  | .fn _, _, _, h, _, _, _ => absurd h Bool.false_ne_true
  | .dct _ _, _, _, h, _, _, _ => absurd h Bool.false_ne_true
  | .src _, _, _, h, _, _, _ => absurd h Bool.false_ne_true
  | .ktu _, _, _, h, _, _, _ => absurd h Bool.false_ne_true
  | .rng _ _, _, _, h, _, _, _ => absurd h Bool.false_ne_true
theorem Dvs.inj {s : Shared} : ∀ {ps qs : List PV} {us : List Value}, plains ps = true → plains qs = true → Dvs s ps us → Dvs s qs us → ps = qs
  | [], qs, _, _, _, h, h' => by
    cases (show _ = [] from h)
    cases qs with
    | nil => rfl
    | cons q qs => obtain ⟨u, r, e, _⟩ := h'; cases e
  | p :: ps, qs, _, hp, hq, ⟨u, r, e, d1, d2⟩, h' => by
    subst e
    cases qs with
    | nil => cases (show _ = [] from h')
    | cons q qs =>
      obtain ⟨u', r', e', d1', d2'⟩ := h'
      cases e'
      rw [plains, Bool.and_eq_true] at hp hq
      rw [Dv.inj hp.1 hq.1 d1 d1', Dvs.inj hp.2 hq.2 d2 d2']
end
theorem Dv.flat' {s : Shared} {p : PV} {u : Value} (hf : isFlat p = true) (h : Dv s p u) : RelV (flat p) u := by
  cases p <;> first | exact h | exact absurd hf Bool.false_ne_true
theorem rc_PF {s : Shared} {p q : PV} {A : Around} {u v : Value} (hf : isFlat p = true) (hp : plain p = true) (hq : plain q = true) (hd : A.units < cLine) (d : Dv s p u) (d' : Dv s q v) : RcAt A s u v (peq p q) := by
  rw [peq_flat hf]
  cases hfq : isFlat q with
  | true =>
    rw [Bool.true_and]
    exact rc_flat (d.flat' hf) (d'.flat' hfq) (flatV_of hf hp) (flatV_of hfq hq)
  | false =>
    rw [Bool.false_and]
    have dp := d.flat' hf
    cases q with
    | tup qs =>
      obtain ⟨b, its2, e', h1', h2'⟩ := d'
      subst e'
      cases p with
      | non => cases dp; exact RcAt.none_tuple h1' hd
      | bl x => cases dp; exact RcAt.bool_tuple x h1' hd
      | int x => obtain ⟨t, rfl⟩ := dp; exact RcAt.int_tuple x t h1' hd
      | str x => obtain ⟨t, rfl⟩ := dp; exact RcAt.str_tuple x t h1' hd
      | _ => first | exact absurd hf Bool.false_ne_true | exact absurd hp Bool.false_ne_true
    | lst qs =>
      obtain ⟨b, its2, e', h1', h2'⟩ := d'
      subst e'
      cases p with
      | non => cases dp; exact RcAt.none_list h1' hd
      | bl x => cases dp; exact RcAt.bool_list x h1' hd
      | int x => obtain ⟨t, rfl⟩ := dp; exact RcAt.int_list x t h1' hd
      | str x => obtain ⟨t, rfl⟩ := dp; exact RcAt.str_list x t h1' hd
      | _ => first | exact absurd hf Bool.false_ne_true | exact absurd hp Bool.false_ne_true
    | _ => first | exact absurd hfq.symm Bool.false_ne_true | exact absurd hq Bool.false_ne_true
theorem eq_of_rc {s : Shared} {p q : PV} {A : Around} {u v : Value} (hp : plain p = true) (hq : plain q = true) (d : Dv s p u) (d' : Dv s q v) (hd : A.units < cLine) (rc : RcAt A s u v (peq p q)) : EqAt A s u v (peq p q) := by
  by_cases h : u = v
  · subst h
    obtain rfl := Dv.inj hp hq d d'
    rw [peq_self hp]
    exact EqAt.same _
  · intro prog w E Q hQ
    unfold eqBool
    refine wpAny_holding ?_
    refine wpAny_ite_split (fun hab => absurd (eq_of_beq hab) h) (fun _ => ?_)
    have nf : ∀ b t, u ≠ Value.float b t := fun b t e => by
      subst e
      cases p with
      | tup ps => obtain ⟨_, _, e, _⟩ := d; cases e
      | lst ps => obtain ⟨_, _, e, _⟩ := d; cases e
      | non => cases (show _ = Value.none from d)
      | bl x => cases (show _ = Value.bool x from d)
      | int x => obtain ⟨_, e⟩ := d; cases e
      | str x => obtain ⟨_, e⟩ := d; cases e
      | _ => exact absurd hp Bool.false_ne_true
    cases u with
    | float b t => exact absurd rfl (nf b t)
    | _ => exact wpAny_bind (rc prog w E _ (wpAny_truthy_bool hQ))
mutual
theorem rc_P {s : Shared} : ∀ {p q : PV} {A : Around} {u v : Value}, plain p = true → plain q = true → A.units + dep p + 1 < cLine → Dv s p u → Dv s q v → RcAt A s u v (peq p q)
  | .tup ps, q, A, _, v, hp, hq, hd, ⟨a, its, e, h1, h2⟩, d => by
    subst e
    have l1 := h2.length
    cases q with
    | tup qs =>
      obtain ⟨b, its2, e', h1', h2'⟩ := d
      subst e'
      have l2 := h2'.length
      have := RcAt.tuples (A := A) (s := s) (e := fun j => peq (ps.getD j .non) (qs.getD j .non)) h1 h1' (by omega) (fun j k1 k2 => eqs_P (ps := ps) (qs := qs) hp hq (by rw [dep] at hd; show A.units + 1 + deps ps + 1 < cLine; omega) h2 h2' j (by simp at k1; omega) (by simp at k2; omega) (by simpa using k1) (by simpa using k2))
      rw [List.size_toArray, List.size_toArray, l1, l2, peqs_range] at this
      exact this
    | lst qs => obtain ⟨b, its2, e', h1', h2'⟩ := d; subst e'; exact RcAt.tuple_list h1 h1' (by omega)
    | non => cases (show _ = Value.none from d); exact RcAt.tuple_none h1 (by omega)
    | bl b => cases (show _ = Value.bool b from d); exact RcAt.tuple_bool b h1 (by omega)
    | int b => obtain ⟨t, rfl⟩ := d; exact RcAt.tuple_int b t h1 (by omega)
    | str b => obtain ⟨t, rfl⟩ := d; exact RcAt.tuple_str b t h1 (by omega)
    | _ => exact absurd hq Bool.false_ne_true
  | .lst ps, q, A, _, v, hp, hq, hd, ⟨a, its, e, h1, h2⟩, d => by
    subst e
    have l1 := h2.length
    cases q with
    | lst qs =>
      obtain ⟨b, its2, e', h1', h2'⟩ := d
      subst e'
      have l2 := h2'.length
      by_cases hl : ps.length = qs.length
      · have := RcAt.lists (A := A) (s := s) (e := fun j => peq (ps.getD j .non) (qs.getD j .non)) h1 h1' (by simp; omega) (by omega) (fun j k1 k2 => eqs_P (ps := ps) (qs := qs) hp hq (by rw [dep] at hd; show A.units + 1 + deps ps + 1 < cLine; omega) h2 h2' j (by simp at k1; omega) (by simp at k2; omega) (by simpa using k1) (by simpa using k2))
        rw [List.size_toArray, l1, peqs_range' hl] at this
        exact this
      · have := RcAt.lists_lengths (A := A) (s := s) h1 h1' (by simp; omega) (by omega)
        rw [← peqs_len hl] at this
        exact this
    | tup qs => obtain ⟨b, its2, e', h1', h2'⟩ := d; subst e'; exact RcAt.list_tuple h1 h1' (by omega)
    | non => cases (show _ = Value.none from d); exact RcAt.list_none h1 (by omega)
    | bl b => cases (show _ = Value.bool b from d); exact RcAt.list_bool b h1 (by omega)
    | int b => obtain ⟨t, rfl⟩ := d; exact RcAt.list_int b t h1 (by omega)
    | str b => obtain ⟨t, rfl⟩ := d; exact RcAt.list_str b t h1 (by omega)
    | _ => exact absurd hq Bool.false_ne_true
  | .non, q, A, u, v, hp, hq, hd, d, d' => rc_PF (p := .non) rfl hp hq (by omega) d d'
  | .bl x, q, A, u, v, hp, hq, hd, d, d' => rc_PF (p := .bl x) rfl hp hq (by omega) d d'
  | .int x, q, A, u, v, hp, hq, hd, d, d' => rc_PF (p := .int x) rfl hp hq (by omega) d d'
  | .str x, q, A, u, v, hp, hq, hd, d, d' => rc_PF (p := .str x) rfl hp hq (by omega) d d'
  | .ty _, _, _, _, _, h, _, _, _, _ => absurd h Bool.false_ne_true
  | .fn _, _, _, _, _, h, _, _, _, _ => absurd h Bool.false_ne_true
  | .dct _ _, _, _, _, _, h, _, _, _, _ => absurd h Bool.false_ne_true
  | .src _, _, _, _, _, h, _, _, _, _ => absurd h Bool.false_ne_true
  | .ktu _, _, _, _, _, h, _, _, _, _ => absurd h Bool.false_ne_true
  | .rng _ _, _, _, _, _, h, _, _, _, _ => absurd h Bool.false_ne_true
theorem eqs_P {s : Shared} : ∀ {ps qs : List PV} {A : Around} {us vs : List Value}, plains ps = true → plains qs = true → A.units + deps ps + 1 < cLine → Dvs s ps us → Dvs s qs vs →
    ∀ (j : Nat), j < ps.length → j < qs.length → (h1 : j < us.length) → (h2 : j < vs.length) → EqAt A s us[j] vs[j] (peq (ps.getD j .non) (qs.getD j .non))
  | [], _, _, _, _, _, _, _, _, _, _, h, _, _, _ => absurd h (Nat.not_lt_zero _)
  | p :: ps, qs, A, _, _, hp, hq, hd, ⟨u, r, e, d1, d2⟩, d', j, k1, k2, h1, h2 => by
    subst e
    cases qs with
    | nil => exact absurd k2 (Nat.not_lt_zero _)
    | cons q qs =>
      obtain ⟨v, r', e', d1', d2'⟩ := d'
      subst e'
      rw [plains, Bool.and_eq_true] at hp hq
      rw [deps] at hd
      cases j with
      | zero =>
        show EqAt A s u v (peq p q)
        have rc := rc_P (p := p) (q := q) (A := A) hp.1 hq.1 (by omega) d1 d1'
        exact eq_of_rc hp.1 hq.1 d1 d1' (by omega) rc
      | succ j =>
        simp only [List.length_cons] at k1 k2 h1 h2
        have := eqs_P (ps := ps) (qs := qs) (A := A) hp.2 hq.2 (by omega) d2 d2' j (by omega) (by omega) (by omega) (by omega)
        simpa using this
end
end Pu
end
section
namespace Pu
open PySem PySem.Spec L2 PySem.SeqAt
theorem rn_P {s : Shared} {p q : PV} {A : Around} {u v : Value} (hp : plain p = true) (hq : plain q = true) (hd : A.units + dep p + 1 < cLine) (d : Dv s p u) (d' : Dv s q v) : RcNeAt A s u v (!peq p q) := by
  have hu : A.units < cLine := by omega
  by_cases hf : isFlat p = true
  · rw [peq_flat hf]
    have dp := d.flat' hf
    cases hfq : isFlat q with
    | true => rw [Bool.true_and]; exact rn_flat dp (d'.flat' hfq) (flatV_of hf hp) (flatV_of hfq hq)
    | false =>
      rw [Bool.false_and]
      cases q with
      | tup qs =>
        obtain ⟨b, its2, e', h1', h2'⟩ := d'
        subst e'
        cases p with
        | non => cases dp; exact RcNeAt.none_tuple h1' hu
        | bl x => cases dp; exact RcNeAt.bool_tuple x h1' hu
        | int x => obtain ⟨t, rfl⟩ := dp; exact RcNeAt.int_tuple x t h1' hu
        | str x => obtain ⟨t, rfl⟩ := dp; exact RcNeAt.str_tuple x t h1' hu
        | _ => first | exact absurd hf Bool.false_ne_true | exact absurd hp Bool.false_ne_true
      | lst qs =>
        obtain ⟨b, its2, e', h1', h2'⟩ := d'
        subst e'
        cases p with
        | non => cases dp; exact RcNeAt.none_list h1' hu
        | bl x => cases dp; exact RcNeAt.bool_list x h1' hu
        | int x => obtain ⟨t, rfl⟩ := dp; exact RcNeAt.int_list x t h1' hu
        | str x => obtain ⟨t, rfl⟩ := dp; exact RcNeAt.str_list x t h1' hu
        | _ => first | exact absurd hf Bool.false_ne_true | exact absurd hp Bool.false_ne_true
      | _ => first | exact absurd hfq.symm Bool.false_ne_true | exact absurd hq Bool.false_ne_true
  · cases p with
    | tup ps =>
      obtain ⟨a, its, e, h1, h2⟩ := d
      subst e
      have l1 := h2.length
      cases q with
      | tup qs =>
        obtain ⟨b, its2, e', h1', h2'⟩ := d'
        subst e'
        have l2 := h2'.length
        have := RcNeAt.tuples (A := A) (s := s) (e := fun j => peq (ps.getD j .non) (qs.getD j .non)) h1 h1' (by omega) (fun j k1 k2 => eqs_P (ps := ps) (qs := qs) hp hq (by rw [dep] at hd; show A.units + 1 + deps ps + 1 < cLine; omega) h2 h2' j (by simp at k1; omega) (by simp at k2; omega) (by simpa using k1) (by simpa using k2))
        rw [List.size_toArray, List.size_toArray, l1, l2, peqs_range] at this
        exact this
      | lst qs => obtain ⟨b, its2, e', h1', h2'⟩ := d'; subst e'; exact RcNeAt.tuple_list h1 h1' hu
      | non => cases (show _ = Value.none from d'); exact RcNeAt.tuple_none h1 hu
      | bl b => cases (show _ = Value.bool b from d'); exact RcNeAt.tuple_bool b h1 hu
      | int b => obtain ⟨t, rfl⟩ := d'; exact RcNeAt.tuple_int b t h1 hu
      | str b => obtain ⟨t, rfl⟩ := d'; exact RcNeAt.tuple_str b t h1 hu
      | _ => exact absurd hq Bool.false_ne_true
    | lst ps =>
      obtain ⟨a, its, e, h1, h2⟩ := d
      subst e
      have l1 := h2.length
      cases q with
      | lst qs =>
        obtain ⟨b, its2, e', h1', h2'⟩ := d'
        subst e'
        have l2 := h2'.length
        by_cases hl : ps.length = qs.length
        · have := RcNeAt.lists (A := A) (s := s) (e := fun j => peq (ps.getD j .non) (qs.getD j .non)) h1 h1' (by simp; omega) (by omega) (fun j k1 k2 => eqs_P (ps := ps) (qs := qs) hp hq (by rw [dep] at hd; show A.units + 1 + deps ps + 1 < cLine; omega) h2 h2' j (by simp at k1; omega) (by simp at k2; omega) (by simpa using k1) (by simpa using k2))
          rw [List.size_toArray, l1, peqs_range' hl] at this
          exact this
        · have := RcNeAt.lists_lengths (A := A) (s := s) h1 h1' (by simp; omega) (by omega)
          rw [show true = !peqs ps qs by rw [peqs_len hl]; rfl] at this
          exact this
      | tup qs => obtain ⟨b, its2, e', h1', h2'⟩ := d'; subst e'; exact RcNeAt.list_tuple h1 h1' hu
      | non => cases (show _ = Value.none from d'); exact RcNeAt.list_none h1 hu
      | bl b => cases (show _ = Value.bool b from d'); exact RcNeAt.list_bool b h1 hu
      | int b => obtain ⟨t, rfl⟩ := d'; exact RcNeAt.list_int b t h1 hu
      | str b => obtain ⟨t, rfl⟩ := d'; exact RcNeAt.list_str b t h1 hu
      | _ => exact absurd hq Bool.false_ne_true
    | _ => first | exact absurd rfl hf | exact absurd hp Bool.false_ne_true
section
variable {X : Cx} {a b c e : Expr} {pos : Pos} {ta tb te : PTE}
noncomputable def rEqP (K : PySem.W.Frag) (f : Bool → Bool) : R2 := fun x y H Q => ∃ F p q, Same F H ∧ RdV K F H p x ∧ RdV K F H q y ∧ plain p = true ∧ plain q = true ∧ dep p ≤ 50 ∧ Q (.bl (f (peq p q))) H
theorem op_eqP (hu : X.A.units + 64 < cLine) : OpR X (compareOp .Eq) (rEqP X.K id) := by
  intro pins s σ H x y v u Q I rx ry ⟨F, p, q, sf, r1, r2, hp, hq, hd, k⟩
  exact rc_P (A := X.A) hp hq (by omega) (dv_rd I sf hp r1 rx) (dv_rd I sf hq r2 ry) _ _ _ _ ⟨.bl _, H, I, rfl, k⟩
theorem op_neP (hu : X.A.units + 64 < cLine) : OpR X (compareOp .NotEq) (rEqP X.K (!·)) := by
  intro pins s σ H x y v u Q I rx ry ⟨F, p, q, sf, r1, r2, hp, hq, hd, k⟩
  exact rn_P (A := X.A) hp hq (by omega) (dv_rd I sf hp r1 rx) (dv_rd I sf hq r2 ry) _ _ _ _ ⟨.bl _, H, I, rfl, k⟩
noncomputable def gEq : PG2 := fun x y Q => plain x = true ∧ plain y = true ∧ dep x ≤ 50 ∧ Q (.bl (peq x y))
noncomputable def gNe : PG2 := fun x y Q => plain x = true ∧ plain y = true ∧ dep x ≤ 50 ∧ Q (.bl (!peq x y))
theorem rf_eq : Ref2 X.K (rEqP X.K id) gEq := fun F H x y p q Qp Q s rx ry h k => ⟨F, p, q, s, rx, ry, h.1, h.2.1, h.2.2.1, k _ _ F H h.2.2.2 (.refl s) rfl⟩
theorem rf_ne : Ref2 X.K (rEqP X.K (!·)) gNe := fun F H x y p q Qp Q s rx ry h k => ⟨F, p, q, s, rx, ry, h.1, h.2.1, h.2.2.1, k _ _ F H h.2.2.2 (.refl s) rfl⟩
open Classical in
noncomputable def eAt (s : Shared) (q : PV) (u : Value) : Bool := if h : ∃ p, plain p = true ∧ Dv s p u then peq h.choose q else false
theorem eAt_of {s : Shared} {q p : PV} {u : Value} (hp : plain p = true) (d : Dv s p u) : eAt s q u = peq p q := by
  have h : ∃ p, plain p = true ∧ Dv s p u := ⟨p, hp, d⟩
  unfold eAt
  rw [dif_pos h, Dv.inj h.choose_spec.1 hp h.choose_spec.2 d]
theorem any_eAt {s : Shared} {q : PV} : ∀ {ps : List PV} {us : List Value}, plains ps = true → Dvs s ps us → us.any (eAt s q) = ps.any fun p => peq p q
  | [], _, _, h => by rw [show _ = [] from h]; rfl
  | p :: ps, _, hp, ⟨u, r, e, d1, d2⟩ => by
    subst e
    rw [plains, Bool.and_eq_true] at hp
    rw [List.any_cons, List.any_cons, eAt_of hp.1 d1, any_eAt hp.2 d2]
theorem mem_eAt {s : Shared} {A : Around} {q : PV} {v : Value} (hq : plain q = true) (dq : Dv s q v) : ∀ {ps : List PV} {us : List Value}, plains ps = true → A.units + deps ps + 1 < cLine → Dvs s ps us → ∀ u ∈ us, EqAt A s u v (eAt s q u)
  | [], _, _, _, h, u, hu => by rw [show _ = [] from h] at hu; cases hu
  | p :: ps, _, hp, hd, ⟨u', r, e, d1, d2⟩, u, hu => by
    subst e
    rw [plains, Bool.and_eq_true] at hp
    rw [deps] at hd
    rcases List.mem_cons.mp hu with rfl | hu
    · rw [eAt_of hp.1 d1]
      exact eq_of_rc hp.1 hq d1 dq (by omega) (rc_P hp.1 hq (by omega) d1 dq)
    · exact mem_eAt hq dq hp.2 (by omega) d2 u hu
noncomputable def pin (x : PV) (ps : List PV) : Bool := ps.any fun p => peq p x
noncomputable def rInP (K : PySem.W.Frag) (f : Bool → Bool) : R2 := fun x y H Q => ∃ F q a vs ps, y = .ref a ∧ Same F H ∧ RdV K F H q x ∧ (SqL K H a vs ∨ SqT K H a vs) ∧ Reps K F ps vs ∧ plain q = true ∧ plains ps = true ∧ deps ps ≤ 50 ∧ Q (.bl (f (pin q ps))) H
theorem op_inP (hu : X.A.units + 64 < cLine) : OpR X (compareOp .In) (rInP X.K id) := by
  intro pins s σ H x y v u Q I rx ry ⟨F, q, a, vs, ps, ey, sf, rq, hs, rs, hq, hp, hd, k⟩
  subst ey
  cases ry
  have dq := dv_rd I sf hq rq rx
  rcases hs with hs | hs
  · obtain ⟨its, rv, pl, hz⟩ := I.list hs
    have ds := dvs_of I sf hp rs rv
    refine in_listAt (eAt s q) pl.isList (fun y hy => mem_eAt hq dq hp (by show X.A.units + 1 + deps ps + 1 < cLine; omega) ds y (by simpa using hy)) ?_
    rw [List.any_toArray, any_eAt hp ds]
    exact ⟨.bl _, H, I, rfl, k⟩
  · obtain ⟨its, rv, pl, hz⟩ := I.tuple hs
    have ds := dvs_of I sf hp rs rv
    refine in_tupleAt (eAt s q) pl (fun y hy => mem_eAt hq dq hp (by show X.A.units + 1 + deps ps + 1 < cLine; omega) ds y (by simpa using hy)) ?_
    rw [List.any_toArray, any_eAt hp ds]
    exact ⟨.bl _, H, I, rfl, k⟩
theorem op_notInP (hu : X.A.units + 64 < cLine) : OpR X (compareOp .NotIn) (rInP X.K (!·)) := by
  intro pins s σ H x y v u Q I rx ry ⟨F, q, a, vs, ps, ey, sf, rq, hs, rs, hq, hp, hd, k⟩
  subst ey
  cases ry
  have dq := dv_rd I sf hq rq rx
  rcases hs with hs | hs
  · obtain ⟨its, rv, pl, hz⟩ := I.list hs
    have ds := dvs_of I sf hp rs rv
    refine notIn_listAt (eAt s q) pl.isList (fun y hy => mem_eAt hq dq hp (by show X.A.units + 1 + deps ps + 1 < cLine; omega) ds y (by simpa using hy)) ?_
    rw [List.any_toArray, any_eAt hp ds]
    exact ⟨.bl _, H, I, rfl, k⟩
  · obtain ⟨its, rv, pl, hz⟩ := I.tuple hs
    have ds := dvs_of I sf hp rs rv
    refine notIn_tupleAt (eAt s q) pl (fun y hy => mem_eAt hq dq hp (by show X.A.units + 1 + deps ps + 1 < cLine; omega) ds y (by simpa using hy)) ?_
    rw [List.any_toArray, any_eAt hp ds]
    exact ⟨.bl _, H, I, rfl, k⟩
noncomputable def gIn : PG2 := fun x y Q => OkS y fun ps => plain x = true ∧ plains ps = true ∧ deps ps ≤ 50 ∧ Q (.bl (pin x ps))
noncomputable def gNotIn : PG2 := fun x y Q => OkS y fun ps => plain x = true ∧ plains ps = true ∧ deps ps ≤ 50 ∧ Q (.bl (!pin x ps))
theorem rf_in : Ref2 X.K (rInP X.K id) gIn := fun F H x y p q Qp Q s rx ry h k => by
  obtain ⟨a, vs, ps, rfl, hs, _, rs, h⟩ := OkS.rd h s ry
  exact ⟨F, p, a, vs, ps, rfl, s, rx, hs, rs, h.1, h.2.1, h.2.2.1, k _ _ F H h.2.2.2 (.refl s) rfl⟩
theorem rf_notIn : Ref2 X.K (rInP X.K (!·)) gNotIn := fun F H x y p q Qp Q s rx ry h k => by
  obtain ⟨a, vs, ps, rfl, hs, _, rs, h⟩ := OkS.rd h s ry
  exact ⟨F, p, a, vs, ps, rfl, s, rx, hs, rs, h.1, h.2.1, h.2.2.1, k _ _ F H h.2.2.2 (.refl s) rfl⟩
end
end Pu
end
section
namespace Pu
open PySem PySem.Spec L2
section
variable {X : Cx} {a b c e : Expr} {pos : Pos} {ta tb te : PTE} {t : PTA}
noncomputable abbrev PGC := List PV → (PV → Prop) → Prop
noncomputable abbrev PGN := List PV → (List PV → Prop) → Prop
noncomputable def RefC (K : PySem.W.Frag) (r : List V → Hp → VK → Prop) (g : PGC) : Prop := ∀ F H xs ps (Qp : PV → Prop) (Q : VK), Same F H → RdVs K F H ps xs → g ps Qp → (∀ z v F' H', Qp z → Grow F H F' H' → Rep K F' z v → Q v H') → r xs H Q
noncomputable def RefN (K : PySem.W.Frag) (r : List V → Hp → VK → Prop) (g : PGN) : Prop := ∀ F H xs ps (Qp : List PV → Prop) (Q : VK), Same F H → RdVs K F H ps xs → g ps Qp → (∀ zs a vs F' H', Qp zs → Grow F H F' H' → H a = none → F' a = none → H' a = some (.lst vs) → Reps K F' zs vs → Q (.ref a) H') → r xs H Q
noncomputable def pCB (g : PGC) (t : PTA) : PTE := fun ρ Q => t ρ fun ps => g ps Q
noncomputable def pCN (g : PGN) (t : PTA) : PTN := fun ρ Q => t ρ fun ps => g ps Q
theorem pu_cb {r : List V → Hp → VK → Prop} {g : PGC} (hr : RefC X.K r g) (h : PE X e (tCB r (lAT X.K t))) : PuE X e (pCB g t) := PE.weak h fun σ H Q hh_ => hh_.elim fun F ρ Qp er q k => ⟨F, ρ, _, er, q, fun ps vs F1 H1 h1 g1 r1 =>
  hr F1 H1 vs ps Qp Q g1.fh r1 h1 fun z v F2 H2 h2 g2 r2 => k z v F2 H2 h2 (g1.trans g2) r2⟩
theorem pu_cn {r : List V → Hp → VK → Prop} {g : PGN} (hr : RefN X.K r g) (h : PE X e (tCB r (lAT X.K t))) : PuN X e (pCN g t) := PE.weak h fun σ H Q hh_ => hh_.elim fun F ρ Qp er q k => ⟨F, ρ, _, er, q, fun ps vs F1 H1 h1 g1 r1 =>
  hr F1 H1 vs ps Qp Q g1.fh r1 h1 fun zs a vs F2 H2 h2 g2 h0 hF hH r2 => k zs a vs F2 H2 h2 (g1.trans g2) (g1.hh.free h0) hF hH r2⟩
noncomputable def One (ps : List PV) (Q : PV → Prop) : Prop := match ps with
  | [p] => Q p
  | _ => False
noncomputable def Two (ps : List PV) (Q : PV → PV → Prop) : Prop := match ps with
  | [p, q] => Q p q
  | _ => False
theorem One.rd {K : PySem.W.Frag} {F H : Hp} {ps : List PV} {xs : List V} {Q : PV → Prop} (h : One ps Q) (r : RdVs K F H ps xs) : ∃ p v, ps = [p] ∧ xs = [v] ∧ RdV K F H p v ∧ Q p := by
  unfold One at h
  split at h
  · cases r with
    | cons r1 r2 => cases r2; exact ⟨_, _, rfl, rfl, r1, h⟩
  · exact h.elim
theorem Two.rd {K : PySem.W.Frag} {F H : Hp} {ps : List PV} {xs : List V} {Q : PV → PV → Prop} (h : Two ps Q) (r : RdVs K F H ps xs) : ∃ p v p2 v2, ps = [p, p2] ∧ xs = [v, v2] ∧ RdV K F H p v ∧ RdV K F H p2 v2 ∧ Q p p2 := by
  unfold Two at h
  split at h
  · cases r with
    | cons r1 r2 => cases r2 with
      | cons r2 r3 => cases r3; exact ⟨_, _, _, _, rfl, rfl, r1, r2, h⟩
  · exact h.elim
noncomputable def cLen : PGC := fun ps Q => One ps fun p => match p with
  | .str z => z.length ≤ sizeLine ∧ Q (.int z.length)
  | p => OkS p fun ps => Q (.int ps.length)
theorem rc_len : RefC X.K (fun xs H Q => ∃ x n, xs = [x] ∧ LenV X.K x H n ∧ Q (.int n) H) cLen := fun F H xs ps Qp Q s r h k => by
  obtain ⟨p, v, rfl, rfl, r, h⟩ := h.rd r
  by_cases hz : ∃ z, p = .str z
  · obtain ⟨z, rfl⟩ := hz
    cases r with
    | frz r => cases (show v = .str z from r); exact ⟨_, z.length, rfl, ⟨h.1, rfl⟩, k _ _ F H h.2 (.refl s) rfl⟩
  · have h' : OkS p fun ps => Qp (.int ps.length) := by
      cases p <;> first | exact h | exact absurd ⟨_, rfl⟩ hz
    obtain ⟨a, vs, ps, rfl, hs, _, rs, h⟩ := h'.rd s r
    refine ⟨_, vs.length, rfl, ?_, k _ _ F H h (.refl s) (by rw [rs.length]; rfl)⟩
    rcases hs with hs | hs
    · exact .inl ⟨vs, hs, rfl⟩
    · exact .inr ⟨vs, hs, rfl⟩
noncomputable def cAbs : PGC := fun ps Q => One ps fun p => OkI p fun i => Q (.int (if i < 0 then -i else i))
theorem rc_abs : RefC X.K (fun xs H Q => ∃ i, xs = [.int i] ∧ Q (.int (if i < 0 then -i else i)) H) cAbs := fun F H xs ps Qp Q s r h k => by
  obtain ⟨p, v, rfl, rfl, r, h⟩ := h.rd r
  obtain ⟨i, rfl, rfl, h⟩ := h.rd r
  exact ⟨i, rfl, k _ _ F H h (.refl s) rfl⟩
noncomputable def cMax2 : PGC := fun ps Q => Two ps fun p q => OkI p fun i => OkI q fun j => Q (.int (if j > i then j else i))
theorem rc_max2 : RefC X.K (fun xs H Q => ∃ i j, xs = [.int i, .int j] ∧ Q (.int (if j > i then j else i)) H) cMax2 := fun F H xs ps Qp Q s r h k => by
  obtain ⟨p, v, p2, v2, rfl, rfl, r, r2, h⟩ := h.rd r
  obtain ⟨i, rfl, rfl, h⟩ := h.rd r
  obtain ⟨j, rfl, rfl, h⟩ := h.rd r2
  exact ⟨i, j, rfl, k _ _ F H h (.refl s) rfl⟩
noncomputable def cMin2 : PGC := fun ps Q => Two ps fun p q => OkI p fun i => OkI q fun j => Q (.int (if j < i then j else i))
theorem rc_min2 : RefC X.K (fun xs H Q => ∃ i j, xs = [.int i, .int j] ∧ Q (.int (if j < i then j else i)) H) cMin2 := fun F H xs ps Qp Q s r h k => by
  obtain ⟨p, v, p2, v2, rfl, rfl, r, r2, h⟩ := h.rd r
  obtain ⟨i, rfl, rfl, h⟩ := h.rd r
  obtain ⟨j, rfl, rfl, h⟩ := h.rd r2
  exact ⟨i, j, rfl, k _ _ F H h (.refl s) rfl⟩
noncomputable def cInt : PGC := fun ps Q => One ps fun p => match p with
  | .bl k => Q (.int (if k then 1 else 0))
  | p => OkI p fun i => Q (.int i)
theorem rc_int : RefC X.K (fun xs H Q => (∃ i, xs = [.int i] ∧ Q (.int i) H) ∨ ∃ k, xs = [.bl k] ∧ Q (.int (if k then 1 else 0)) H) cInt := fun F H xs ps Qp Q s r h k => by
  obtain ⟨p, v, rfl, rfl, r, h⟩ := h.rd r
  by_cases hz : ∃ z, p = .bl z
  · obtain ⟨z, rfl⟩ := hz
    obtain ⟨b, e, rfl, h⟩ := OkB.rd (p := .bl z) (Q := fun z => Qp (.int (if z then 1 else 0))) h r
    exact .inr ⟨b, rfl, k _ _ F H h (.refl s) rfl⟩
  · have h' : OkI p fun i => Qp (.int i) := by
      cases p <;> first | exact h | exact absurd ⟨_, rfl⟩ hz
    obtain ⟨i, rfl, rfl, h⟩ := h'.rd r
    exact .inl ⟨i, rfl, k _ _ F H h (.refl s) rfl⟩
noncomputable def OkBs : List PV → (List Bool → Prop) → Prop
  | [], Q => Q []
  | p :: ps, Q => OkB p fun b => OkBs ps fun bs => Q (b :: bs)
theorem OkBs_map (bs : List Bool) (Q : List Bool → Prop) : OkBs (bs.map PV.bl) Q = Q bs := by
  induction bs generalizing Q with
  | nil => rfl
  | cons b r ih =>
    show OkBs (r.map PV.bl) (fun bs => Q (b :: bs)) = _
    rw [ih]
theorem OkBs.rd {K : PySem.W.Frag} {F : Hp} : ∀ {ps : List PV} {vs : List V} {Q : List Bool → Prop}, OkBs ps Q → Reps K F ps vs → ∃ bs, vs = bs.map V.bl ∧ ps = bs.map PV.bl ∧ Q bs
  | [], _, _, h, r => ⟨[], r, rfl, h⟩
  | p :: ps, _, Q, h, ⟨v, t, e, r1, r2⟩ => by
    subst e
    obtain ⟨b, rfl, rfl, h⟩ := OkB.rd (H := F) h (.frz r1)
    obtain ⟨bs, rfl, rfl, h'⟩ := OkBs.rd h r2
    exact ⟨b :: bs, rfl, rfl, h'⟩
noncomputable def cAll : PGC := fun ps Q => One ps fun p => OkL p fun ps => OkBs ps fun bs => Q (.bl (bs.all id))
theorem rc_all : RefC X.K (fun xs H Q => ∃ (p : Addr) (bs : List Bool), xs = [.ref p] ∧ SqL X.K H p (bs.map V.bl) ∧ Q (.bl (bs.all id)) H) cAll := fun F H xs ps Qp Q s r h k => by
  obtain ⟨p, v, rfl, rfl, r, h⟩ := h.rd r
  obtain ⟨a, vs, ps, rfl, hs, rs, h⟩ := h.rd s r
  obtain ⟨bs, rfl, rfl, h'⟩ := h.rd rs
  exact ⟨a, bs, rfl, hs, k (.bl _) _ F H h' (.refl s) rfl⟩
noncomputable def cTup : PGC := fun ps Q => One ps fun p => match p with
  | .tup ps => Q (.tup ps)
  | p => OkL p fun ps => Q (.tup ps)
theorem rc_tup : RefC X.K (fun xs H Q => ∃ p ys, xs = [.ref p] ∧ ((SqL X.K H p ys ∧ ∀ l, H l = none → Q (.ref l) (upd H l (.tup ys))) ∨ (SqT X.K H p ys ∧ Q (.ref p) H))) cTup := fun F H xs ps Qp Q s r h k => by
  obtain ⟨p, v, rfl, rfl, r, h⟩ := h.rd r
  by_cases hz : ∃ z, p = .tup z
  · obtain ⟨z, rfl⟩ := hz
    cases r with
    | frz r =>
      obtain ⟨a, vs, rfl, e, rs⟩ := r
      exact ⟨a, vs, rfl, .inr ⟨SqT.of (s _ _ e), k _ _ F H h (.refl s) ⟨a, vs, rfl, e, rs⟩⟩⟩
  · have h' : OkL p fun ps => Qp (.tup ps) := by
      cases p <;> first | exact h | exact absurd ⟨_, rfl⟩ hz
    obtain ⟨a, vs, ps, rfl, hs, rs, h⟩ := h'.rd s r
    exact ⟨a, vs, rfl, .inl ⟨hs, fun l hl => k _ _ _ _ h (.new s hl _) ⟨l, vs, rfl, upd_same, rs.mono (same_new (s.free hl) _)⟩⟩⟩
noncomputable def cLst : PGN := fun ps Q => One ps fun p => OkS p Q
theorem rc_lst : RefN X.K (fun xs H Q => ∃ p ys, xs = [.ref p] ∧ (SqL X.K H p ys ∨ SqT X.K H p ys) ∧ ∀ l, H l = none → Q (.ref l) (upd H l (.lst ys))) cLst := fun F H xs ps Qp Q s r h k => by
  obtain ⟨p, v, rfl, rfl, r, h⟩ := h.rd r
  obtain ⟨a, vs, ps, rfl, hs, _, rs, h⟩ := h.rd s r
  exact ⟨a, vs, rfl, hs, fun l hl => k ps l vs F _ h (.newO s hl _) hl (s.free hl) upd_same rs⟩
noncomputable def ups (lo : Int) (n : Nat) : List PV := (List.range n).map fun i : Nat => PV.int (lo + i)
theorem reps_upTo {K : PySem.W.Frag} {F : Hp} : ∀ (l : List Nat), Reps K F (l.map fun i : Nat => PV.int (0 + i)) (l.map fun i : Nat => V.int (i : Int))
  | [] => rfl
  | x :: l => ⟨_, _, rfl, by show Rep K F (PV.int (0 + (x : Int))) (V.int x); rw [Int.zero_add]; rfl, reps_upTo l⟩
noncomputable def cRng : PGC := fun ps Q => One ps fun p => OkI p fun j => -(2 ^ 62) ≤ j ∧ j < 2 ^ 62 ∧ Q (.rng 0 j)
theorem rc_rng : RefC X.K rRng1 cRng := fun F H xs ps Qp Q s r h k => by
  obtain ⟨p, v, rfl, rfl, r, h⟩ := h.rd r
  obtain ⟨j, rfl, rfl, h1, h2, h⟩ := h.rd r
  exact ⟨j, rfl, h1, h2, fun p hp => k _ _ _ _ h (.new s hp _) ⟨p, rfl, upd_same⟩⟩
noncomputable def OkR : PV → (Int → Prop) → Prop
  | .rng lo j, Q => lo = 0 ∧ Q j
  | _, _ => False
noncomputable def cLstR : PGN := fun ps Q => One ps fun p => OkR p fun j => 0 ≤ j ∧ j ≤ 1000000 ∧ Q (ups 0 j.toNat)
theorem rc_lstR : RefN X.K (fun xs H Q => ∃ p j, xs = [.ref p] ∧ H p = some (.rng 0 j) ∧ 0 ≤ j ∧ j ≤ 1000000 ∧ ∀ l, H l = none → Q (.ref l) (upd H l (.lst (upTo j.toNat)))) cLstR := fun F H xs ps Qp Q s r h k => by
  obtain ⟨p, v, rfl, rfl, r, h⟩ := h.rd r
  cases p <;> first | exact h.elim | skip
  obtain ⟨rfl, h1, h2, h⟩ := h
  cases r with
  | frz r =>
    obtain ⟨a, rfl, e⟩ := r
    exact ⟨a, _, rfl, s _ _ e, h1, h2, fun l hl => k _ l _ F _ h (.newO s hl _) hl (s.free hl) upd_same (reps_upTo _)⟩
noncomputable def isI (n : String) : PV → Option Bool
  | .non => some false
  | .bl _ => some (n == "bool" || n == "int")
  | .int _ => some (n == "int")
  | .str _ => some (n == "str")
  | .tup _ => some (n == "tuple")
  | .lst _ => some (n == "list")
  | .dct _ _ => some (n == "dict")
  | _ => none
noncomputable def OkTy : PV → (String → Prop) → Prop
  | .ty n, Q => Q n
  | _, _ => False
noncomputable def cIsI : PGC := fun ps Q => Two ps fun p q => OkTy q fun n => (n = "int" ∨ n = "bool" ∨ n = "str" ∨ n = "tuple" ∨ n = "list" ∨ n = "dict") ∧ OkO (isI n p) fun b => Q (.bl b)
theorem rc_isI : RefC X.K (fun xs H Q => ∃ x n t b, xs = [x, .ty n] ∧ TyOf X.K H x t ∧ PySem.W.kitOne X.K t (.type n) = some b ∧ Q (.bl b) H) cIsI := fun F H xs ps Qp Q s r h k => by
  obtain ⟨p, v, p2, v2, rfl, rfl, r1, r2, h⟩ := h.rd r
  clear r
  obtain ⟨n, rfl, hn, h⟩ : ∃ n, p2 = .ty n ∧ (n = "int" ∨ n = "bool" ∨ n = "str" ∨ n = "tuple" ∨ n = "list" ∨ n = "dict") ∧ OkO (isI n p) fun b => Qp (.bl b) := by
    cases p2 with
    | ty n => exact ⟨n, rfl, h⟩
    | _ => exact h.elim
  obtain ⟨b, e, h⟩ := h.ex
  cases r2 with
  | frz r2 =>
    cases (show v2 = .ty n from r2)
    have fin : ∀ t, TyOf X.K H v t → PySem.W.kitOne X.K t (.type n) = some b → ∃ x n' t b, [v, V.ty n] = [x, .ty n'] ∧ TyOf X.K H x t ∧ PySem.W.kitOne X.K t (.type n') = some b ∧ Q (.bl b) H := fun t h1 h2 => ⟨v, n, t, b, rfl, h1, h2, k _ _ F H h (.refl s) rfl⟩
    cases r1 with
    | frz r =>
      cases p with
      | non => cases (show v = _ from r); refine fin _ .non ?_; rcases hn with rfl | rfl | rfl | rfl | rfl | rfl <;> exact e
      | bl x => cases (show v = _ from r); refine fin _ (.bl x) ?_; rcases hn with rfl | rfl | rfl | rfl | rfl | rfl <;> exact e
      | int x => cases (show v = _ from r); refine fin _ (.int x) ?_; rcases hn with rfl | rfl | rfl | rfl | rfl | rfl <;> exact e
      | str x => cases (show v = _ from r); refine fin _ (.str x) ?_; rcases hn with rfl | rfl | rfl | rfl | rfl | rfl <;> exact e
      | tup x => obtain ⟨a, vs, rfl, e', _⟩ := r; refine fin _ (.tup (s _ _ e')) ?_; rcases hn with rfl | rfl | rfl | rfl | rfl | rfl <;> exact e
      | lst x => obtain ⟨a, vs, rfl, e', _⟩ := r; refine fin _ (.lst (s _ _ e')) ?_; rcases hn with rfl | rfl | rfl | rfl | rfl | rfl <;> exact e
      | dct x y => obtain ⟨a, vs, rfl, e', _⟩ := r; refine fin _ (.dK (s _ _ e')) ?_; rcases hn with rfl | rfl | rfl | rfl | rfl | rfl <;> exact e
      | _ => cases e
    | own h1 h2 h3 => refine fin _ (.lst h1) ?_; rcases hn with rfl | rfl | rfl | rfl | rfl | rfl <;> exact e
    | dic h1 h2 h3 h4 => refine fin _ (.dK h1) ?_; rcases hn with rfl | rfl | rfl | rfl | rfl | rfl <;> exact e
end
end Pu
end
section
namespace Pu
open PySem PySem.Spec L2
noncomputable abbrev PTG := PV → PSt → (PSt → Prop) → Prop
noncomputable abbrev PTGs := List PV → PSt → (PSt → Prop) → Prop
inductive VUpd (K : PySem.W.Frag) (F : Hp) : L2.St → PSt → L2.St → PSt → Prop where
  | refl {σ : L2.St} {ρ : PSt} : VUpd K F σ ρ σ ρ
  | step {σ σ1 : L2.St} {ρ ρ1 : PSt} {i : Nat} {p : PV} {v : V} : VUpd K F σ ρ σ1 ρ1 → Rep K F p v → VUpd K F σ ρ (σ1.set i (some v)) (ρ1.set i (some (.val p)))
theorem VUpd.trans {K : PySem.W.Frag} {F : Hp} {σ σ1 σ2 : L2.St} {ρ ρ1 ρ2 : PSt} (a : VUpd K F σ ρ σ1 ρ1) (b : VUpd K F σ1 ρ1 σ2 ρ2) : VUpd K F σ ρ σ2 ρ2 := by
  induction b with
  | refl => exact a
  | step _ r ih => exact .step (ih a) r
theorem ER.set {K : PySem.W.Frag} {F H : Hp} {σ : L2.St} {ρ : PSt} (h : ER K F H σ ρ) {i : Nat} {v : V} {s : Sl} (r : SlR K F H (some v) (some s)) : ER K F H (σ.set i (some v)) (ρ.set i (some s)) := by
  refine ⟨h.fz, by rw [List.length_set, List.length_set]; exact h.len, fun j s' e => ?_⟩
  by_cases hij : i = j
  · subst hij
    have hi : i < ρ.length := by
      have := (List.getElem?_eq_some_iff.mp e).1
      rwa [List.length_set] at this
    rw [List.getElem?_set_self hi] at e
    rw [List.getElem?_set_self (by rw [h.len]; exact hi)]
    cases e
    exact r
  · rw [List.getElem?_set_ne hij] at e ⊢
    exact h.sl j s' e
theorem ER.upd {K : PySem.W.Frag} {F H : Hp} {σ σ' : L2.St} {ρ ρ' : PSt} (h : ER K F H σ ρ) (u : VUpd K F σ ρ σ' ρ') : ER K F H σ' ρ' := by
  induction u with
  | refl => exact h
  | step _ r ih => exact (ih h).set r
noncomputable def GRef (K : PySem.W.Frag) (g0 : TG) (g : PTG) : Prop := ∀ F H σ ρ p v (Qp : PSt → Prop) (Q : L2.St → Hp → Prop), Same F H → Rep K F p v → g p ρ Qp → (∀ σ' ρ', Qp ρ' → VUpd K F σ ρ σ' ρ' → Q σ' H) → g0 v σ H Q
noncomputable def GRefs (K : PySem.W.Frag) (g0 : TGs) (g : PTGs) : Prop := ∀ F H σ ρ ps vs (Qp : PSt → Prop) (Q : L2.St → Hp → Prop), Same F H → Reps K F ps vs → g ps ρ Qp → (∀ σ' ρ', Qp ρ' → VUpd K F σ ρ σ' ρ' → Q σ' H) → g0 vs σ H Q
noncomputable def qName (i : Nat) : PTG := fun p ρ Q => Q (ρ.set i (some (.val p)))
noncomputable def qNil : PTGs := fun ps ρ Q => match ps with
  | [] => Q ρ
  | _ => False
noncomputable def qCons (g : PTG) (gs : PTGs) : PTGs := fun ps ρ Q => match ps with
  | p :: ps => g p ρ fun ρ' => gs ps ρ' Q
  | [] => False
noncomputable def qTup (n : Nat) (gs : PTGs) : PTG := fun p ρ Q => OkT p fun ps => ps.length = n ∧ gs ps ρ Q
theorem gr_name {K : PySem.W.Frag} {i : Nat} : GRef K (gName i) (qName i) := fun F H σ ρ p v Qp Q s r h k => k _ _ h (.step .refl r)
theorem gr_nil {K : PySem.W.Frag} : GRefs K gNil qNil := fun F H σ ρ ps vs Qp Q s r h k => by
  cases ps with
  | nil => exact ⟨r, k _ _ h .refl⟩
  | cons p ps => exact h.elim
theorem gr_cons {K : PySem.W.Frag} {g0 : TG} {g : PTG} {gs0 : TGs} {gs : PTGs} (h1 : GRef K g0 g) (h2 : GRefs K gs0 gs) : GRefs K (gCons g0 gs0) (qCons g gs) := fun F H σ ρ ps vs Qp Q s r h k => by
  cases ps with
  | nil => exact h.elim
  | cons p ps =>
    obtain ⟨v, t, rfl, r1, r2⟩ := r
    exact ⟨v, t, rfl, h1 F H σ ρ p v _ _ s r1 h fun σ' ρ' q u => h2 F H σ' ρ' ps t Qp Q s r2 q fun σ2 ρ2 q2 u2 => k σ2 ρ2 q2 (u.trans u2)⟩
theorem gr_tup {K : PySem.W.Frag} {n : Nat} {gs0 : TGs} {gs : PTGs} (h : GRefs K gs0 gs) : GRef K (gTup K n gs0) (qTup n gs) := fun F H σ ρ p v Qp Q s r hq k => by
  obtain ⟨a, vs, ps, rfl, rfl, e, rs, hn, hq⟩ := OkT.rd (H := H) hq (.frz r)
  exact ⟨a, vs, rfl, SqT.of (s _ _ e), by rw [rs.length]; exact hn, h F H σ ρ ps vs Qp Q s rs hq k⟩
noncomputable abbrev PTI := PSt → (List PV → Prop) → Prop
noncomputable def ItOk (K : PySem.W.Frag) (F : Hp) (J : It) (its : List PV) : Prop := ∀ F1 H1 (i : Nat), Same F F1 → Same F1 H1 →
  (∀ p, its[i]? = some p → J.go i H1 ∧ ∀ x H2, J.yld i H1 x H2 → ∃ F2, Grow F1 H1 F2 H2 ∧ Rep K F2 p x) ∧ (its.length ≤ i → J.stop i H1)
noncomputable def lI (K : PySem.W.Frag) (ti : PTI) : TI := fun σ H R => ∃ F ρ, ∃ Qp : List PV → Prop, ER K F H σ ρ ∧ ti ρ Qp ∧ ∀ its J F' H', Qp its → Grow F H F' H' → ItOk K F' J its → R J H'
theorem lI.elim {K : PySem.W.Frag} {ti : PTI} {σ : St} {H : Hp} {R} {C : Prop} (h : lI K ti σ H R) (k : ∀ F ρ (Qp : List PV → Prop), ER K F H σ ρ → ti ρ Qp → (∀ its J F' H', Qp its → Grow F H F' H' → ItOk K F' J its → R J H') → C) : C := by obtain ⟨F, ρ, Qp, a, b, c⟩ := h; exact k F ρ Qp a b c
noncomputable def PuI (X : Cx) (tg iter : Expr) (ti : PTI) : Prop := PI X tg iter (lI X.K ti)
section
variable {X : Cx} {a b c e l tg iter elt : Expr} {pos : Pos} {ta tb te tl : PTE} {t : PTA}
noncomputable def pItL (tl : PTE) : PTI := fun ρ Q => tl ρ fun p => OkL p Q
noncomputable def OkTK (p : PV) (Q : List PV → Prop) : Prop := match p with
  | .tup ps => Q ps
  | .ktu ps => Q ps
  | _ => False
noncomputable def pItT (tl : PTE) : PTI := fun ρ Q => tl ρ fun p => OkTK p Q
theorem pui_list (hl : PuE X l tl) : PuI X tg l (pItL tl) := PI.weak (pi_list hl) fun σ H R hh_ => hh_.elim fun F ρ Qp er q k => ⟨F, ρ, _, er, q, fun p v F1 H1 h1 g1 r1 => by
  obtain ⟨a, vs, ps, rfl, hs, rs, h⟩ : ∃ a vs ps, v = .ref a ∧ SqL X.K F1 a vs ∧ Reps X.K F1 ps vs ∧ Qp ps := by
    cases p with
    | lst ps => obtain ⟨a, vs, rfl, e, rs⟩ := r1; exact ⟨a, vs, ps, rfl, SqL.of e, rs, h1⟩
    | src ps => obtain ⟨a, vs, rfl, e, rs⟩ := r1; exact ⟨a, vs, ps, rfl, e, rs, h1⟩
    | _ => exact h1.elim
  refine ⟨a, rfl, ⟨vs, g1.fh.seq hs⟩, k ps _ F1 H1 h g1 fun F2 H2 i s1 s2 => ?_⟩
  have h2 := (s1.trans s2).seq hs
  refine ⟨fun p e => ?_, fun hl => ⟨vs, h2, by rw [rs.length]; exact hl⟩⟩
  obtain ⟨v, ev, rv⟩ := rs.get e
  refine ⟨⟨vs, v, h2, ev⟩, fun x H3 ⟨e2, y⟩ => ?_⟩
  subst e2
  have := y vs h2
  rw [ev] at this
  cases this
  exact ⟨F2, .refl s2, rv.mono s1⟩⟩
theorem pui_tup (hl : PuE X l tl) : PuI X tg l (pItT tl) := PI.weak (pi_tup hl) fun σ H R hh_ => hh_.elim fun F ρ Qp er q k => ⟨F, ρ, _, er, q, fun p v F1 H1 h1 g1 r1 => by
  obtain ⟨a, vs, ps, rfl, hs, rs, h⟩ : ∃ a vs ps, v = .ref a ∧ SqT X.K F1 a vs ∧ Reps X.K F1 ps vs ∧ Qp ps := by
    cases p with
    | tup ps => obtain ⟨a, vs, rfl, e, rs⟩ := r1; exact ⟨a, vs, ps, rfl, SqT.of e, rs, h1⟩
    | ktu ps => obtain ⟨a, vs, rfl, e, rs⟩ := r1; exact ⟨a, vs, ps, rfl, e, rs, h1⟩
    | _ => exact h1.elim
  refine ⟨a, rfl, ⟨vs, SqTm g1.fh hs⟩, k ps _ F1 H1 h g1 fun F2 H2 i s1 s2 => ?_⟩
  have h2 := SqTm (s1.trans s2) hs
  refine ⟨fun p e => ?_, fun hl => ⟨vs, h2, by rw [rs.length]; exact hl⟩⟩
  obtain ⟨v, ev, rv⟩ := rs.get e
  refine ⟨⟨vs, v, h2, ev⟩, fun x H3 ⟨e2, y⟩ => ?_⟩
  subst e2
  have := y vs h2
  rw [ev] at this
  cases this
  exact ⟨F2, .refl s2, rv.mono s1⟩⟩
theorem itok_rng {K : PySem.W.Frag} {F : Hp} {lo : Int} {n : Nat} : ItOk K F (Itr lo n) (ups lo n) := fun F1 H1 i s1 s2 => by
  refine ⟨fun p e => ?_, fun hl => by show n ≤ i; simpa [ups] using hl⟩
  unfold ups at e
  rw [List.getElem?_map] at e
  obtain ⟨k, ek, rfl⟩ := Option.map_eq_some_iff.mp e
  obtain ⟨hk, rfl⟩ := List.getElem?_eq_some_iff.mp ek
  refine ⟨by show i < n; simpa using hk, fun x H2 ⟨e2, y⟩ => ?_⟩
  subst e2 y
  exact ⟨F1, .refl s2, by rw [List.getElem_range]; rfl⟩
noncomputable def pRng1 (t : PTA) : PTI := fun ρ Q => t ρ fun ps => One ps fun p => OkI p fun j => -(2 ^ 62) ≤ j ∧ j < 2 ^ 62 ∧ Q (ups 0 j.toNat)
noncomputable def pRng2 (t : PTA) : PTI := fun ρ Q => t ρ fun ps => Two ps fun p q => OkI p fun i => OkI q fun j => (-(2 ^ 62) ≤ i ∧ i < 2 ^ 62 ∧ -(2 ^ 62) ≤ j ∧ j < 2 ^ 62) ∧ Q (ups i (j - i).toNat)
theorem pui_rng1 (h : PI X tg iter (iRng1 (lAT X.K t))) : PuI X tg iter (pRng1 t) := PI.weak h fun σ H R hh_ => hh_.elim fun F ρ Qp er q k => ⟨F, ρ, _, er, q, fun ps vs F1 H1 h1 g1 r1 => by
  obtain ⟨p, v, rfl, rfl, r, h⟩ := h1.rd r1
  obtain ⟨j, rfl, rfl, h1, h2, h⟩ := h.rd r
  exact ⟨j, rfl, h1, h2, k _ _ F1 H1 h g1 itok_rng⟩⟩
theorem pui_rng2 (h : PI X tg iter (iRng2 (lAT X.K t))) : PuI X tg iter (pRng2 t) := PI.weak h fun σ H R hh_ => hh_.elim fun F ρ Qp er q k => ⟨F, ρ, _, er, q, fun ps vs F1 H1 h1 g1 r1 => by
  obtain ⟨p, v, p2, v2, rfl, rfl, r, r2, h⟩ := h1.rd r1
  obtain ⟨i, rfl, rfl, h⟩ := h.rd r
  obtain ⟨j, rfl, rfl, h1, h⟩ := h.rd r2
  exact ⟨i, j, rfl, h1, k _ _ F1 H1 h g1 itok_rng⟩⟩
noncomputable def subρ (fm : List (Option Nat)) (ρ : PSt) : PSt := fm.map fun o => o.bind fun j => (ρ[j]?).join
theorem ER.sub {K : PySem.W.Frag} {F H : Hp} {σ : L2.St} {ρ : PSt} (h : ER K F H σ ρ) (fm : List (Option Nat)) : ER K F H (subσ fm σ) (subρ fm ρ) := by
  refine ⟨h.fz, by unfold subσ subρ; rw [List.length_map, List.length_map], fun i s e => ?_⟩
  unfold subρ at e
  rw [List.getElem?_map] at e
  obtain ⟨o, eo, e⟩ := Option.map_eq_some_iff.mp e
  cases o with
  | none => cases e
  | some j =>
    have e' : (ρ[j]?).join = some s := e
    have e2 : ρ[j]? = some (some s) := by
      cases q : ρ[j]? with
      | none => rw [q] at e'; cases e'
      | some z => rw [q] at e'; rw [show z = some s from e']
    have := h.sl j s e2
    unfold subσ
    rw [List.getElem?_map, eo]
    exact this
noncomputable def pGo (g : PTG) (tc : PTB) (te : PTE) (ρ : PSt) : List PV → List PV → (List PV → Prop) → Prop
  | [], acc, Q => Q acc
  | v :: vs, acc, Q => g v ρ fun ρ2 => tc ρ2 fun b => if b = true then te ρ2 fun y => pGo g tc te ρ vs (acc ++ [y]) Q else pGo g tc te ρ vs acc Q
noncomputable def pComp (fm : List (Option Nat)) (ti : PTI) (g : PTG) (tc : PTB) (te : PTE) : PTN := fun ρ Q => ti ρ fun its => its.length < 1000 ∧ pGo g tc te (subρ fm ρ) its [] Q
noncomputable def pYes : PTB := fun _ Q => Q true
theorem yes_lift {K : PySem.W.Frag} : ∀ σ H Q, lB K pYes σ H Q → tYes σ H Q := fun σ H Q hh_ => hh_.elim fun F ρ Qp er q k => k _ F H q (.refl er.fz)
theorem PIf.weak {X : Cx} {ifs : List Expr} {t t' : TT} (h : PIf X ifs t) (w : ∀ σ H Q, t' σ H Q → t σ H Q) : PIf X ifs t' := fun pins s σ H Q I q => h pins s σ H Q I (w σ H Q q)
noncomputable def PuIf (X : Cx) (ifs : List Expr) (tc : PTB) : Prop := PIf X ifs (lB X.K tc)
theorem puif_nil : PuIf X [] pYes := PIf.weak pif_nil yes_lift
theorem puif_one {tc : PTB} (h : PuB X c tc) : PuIf X [c] tc := pif_one h
theorem comp_lift {K : PySem.W.Frag} {fm : List (Option Nat)} {ti : PTI} {g0 : TG} {g : PTG} {tc : PTB} (hg : GRef K g0 g) : ∀ σ H Q, lN K (pComp fm ti g tc te) σ H Q → tComp fm (lI K ti) g0 (lB K tc) (lE K te) σ H Q := fun σ H Q hh_ => hh_.elim fun F ρ Qp er q k =>
  ⟨F, ρ, _, er, q, fun its J F1 H1 ⟨hlen, h1⟩ g1 it => by
    refine ⟨fun i ys H' => ∃ F' acc, Grow F1 H1 F' H' ∧ Reps K F' acc ys ∧ i ≤ its.length ∧ acc.length ≤ i ∧ pGo g tc te (subρ fm ρ) (its.drop i) acc Qp, its.length, ⟨F1, [], .refl g1.fh, rfl, Nat.zero_le _, Nat.le_refl _, h1⟩, ?_, ?_⟩
    · rintro i ys H' ⟨F', acc, g2, rs, hi, ha, _⟩
      refine ⟨hi, small1000 ?_⟩
      rw [rs.length]; omega
    · rintro i ys H' ⟨F', acc, g2, rs, hi, ha, h2⟩
      obtain ⟨it1, it2⟩ := it F' H' i g2.ff g2.fh
      by_cases hl : i < its.length
      · obtain ⟨go, yl⟩ := it1 _ (List.getElem?_eq_getElem hl)
        refine .inr ⟨go, fun x H2 hy => ?_⟩
        obtain ⟨F2, g3, rx⟩ := yl x H2 hy
        rw [List.drop_eq_getElem_cons hl] at h2
        have er2 : ER K F2 H2 (subσ fm σ) (subρ fm ρ) := (er.grow ((g1.trans g2).trans g3)).sub fm
        refine hg F2 H2 (subσ fm σ) (subρ fm ρ) _ x _ _ g3.fh rx h2 fun σ2 ρ2 h3 u => ?_
        refine ⟨F2, ρ2, _, er2.upd u, h3, fun b F3 H3 h4 g4 => ?_⟩
        cases b with
        | true =>
          rw [if_pos rfl] at h4 ⊢
          refine ⟨F3, ρ2, _, (er2.upd u).grow g4, h4, fun y v F4 H4 h5 g5 ry => ?_⟩
          have gg := ((g2.trans g3).trans g4).trans g5
          exact ⟨F4, acc ++ [y], gg, (rs.mono ((g3.ff.trans g4.ff).trans g5.ff)).app (.one ry), hl, by rw [List.length_append]; simp; omega, h5⟩
        | false =>
          rw [if_neg Bool.false_ne_true] at h4 ⊢
          exact ⟨F3, acc, (g2.trans g3).trans g4, rs.mono (g3.ff.trans g4.ff), hl, by omega, h4⟩
      · have e : its.drop i = [] := List.drop_eq_nil_of_le (by omega)
        rw [e] at h2
        exact .inl ⟨it2 (by omega), fun l hl => k acc l ys F' _ h2 ((g1.trans g2).trans (.newO g2.fh hl _)) ((g1.trans g2).hh.free hl) (g2.fh.free hl) upd_same rs⟩⟩
theorem pu_comp {K : PySem.W.Frag} {fm : List (Option Nat)} {ti : PTI} {g0 : TG} {g : PTG} {tc : PTB} (hg : GRef X.K g0 g) (h : PE X e (tComp fm (lI X.K ti) g0 (lB X.K tc) (lE X.K te))) : PuN X e (pComp fm ti g tc te) := PE.weak h (comp_lift hg)
end
end Pu
end
section
namespace Pu
open PySem PySem.Spec L2
noncomputable def isOwn : Sl → Bool
  | .val _ => false
  | _ => true
noncomputable def OwnAt (σ : L2.St) (ρ : PSt) (i : Nat) (a : Addr) : Prop := (∃ s, ρ[i]? = some (some s) ∧ isOwn s = true) ∧ σ[i]? = some (some (.ref a))
structure BR (K : PySem.W.Frag) (F0 H0 F H : Hp) (σ : L2.St) (ρ : PSt) : Prop where
  er : ER K F H σ ρ
  gr : Grow F0 H0 F H
  ow : ∀ i a, OwnAt σ ρ i a → H0 a = none
  dj : ∀ i j a, OwnAt σ ρ i a → OwnAt σ ρ j a → i = j
section
variable {K : PySem.W.Frag} {F0 H0 F H F' H' : Hp} {σ σ' : L2.St} {ρ ρ' : PSt}
theorem BR.grow (h : BR K F0 H0 F H σ ρ) (g : Grow F H F' H') : BR K F0 H0 F' H' σ ρ := ⟨h.er.grow g, h.gr.trans g, h.ow, h.dj⟩
theorem own_set {i j : Nat} {v : V} {s : Sl} {a : Addr} (h : OwnAt (σ.set i (some v)) (ρ.set i (some s)) j a) : (i = j ∧ isOwn s = true ∧ v = .ref a) ∨ (i ≠ j ∧ OwnAt σ ρ j a) := by
  obtain ⟨⟨s', e, hs⟩, e2⟩ := h
  by_cases hij : i = j
  · subst hij
    have hi : i < ρ.length := by
      have := (List.getElem?_eq_some_iff.mp e).1
      rwa [List.length_set] at this
    have hi2 : i < σ.length := by
      have := (List.getElem?_eq_some_iff.mp e2).1
      rwa [List.length_set] at this
    rw [List.getElem?_set_self hi] at e
    rw [List.getElem?_set_self hi2] at e2
    cases e
    cases e2
    exact .inl ⟨rfl, hs, rfl⟩
  · rw [List.getElem?_set_ne hij] at e e2
    exact .inr ⟨hij, ⟨s', e, hs⟩, e2⟩
theorem BR.setV (h : BR K F0 H0 F H σ ρ) {i : Nat} {p : PV} {v : V} (r : Rep K F p v) : BR K F0 H0 F H (σ.set i (some v)) (ρ.set i (some (.val p))) := by
  refine ⟨h.er.set r, h.gr, fun j a o => ?_, fun j k a o o' => ?_⟩
  · rcases own_set o with ⟨_, z, _⟩ | ⟨_, o⟩
    · exact absurd z Bool.false_ne_true
    · exact h.ow j a o
  · rcases own_set o with ⟨_, z, _⟩ | ⟨_, o⟩
    · exact absurd z Bool.false_ne_true
    · rcases own_set o' with ⟨_, z, _⟩ | ⟨_, o'⟩
      · exact absurd z Bool.false_ne_true
      · exact h.dj j k a o o'
theorem BR.upd (h : BR K F0 H0 F H σ ρ) (u : VUpd K F σ ρ σ' ρ') : BR K F0 H0 F H σ' ρ' := by
  induction u with
  | refl => exact h
  | step _ r ih => exact (ih h).setV r
theorem ER.live (h : ER K F H σ ρ) {i : Nat} {a : Addr} (o : OwnAt σ ρ i a) : F a = none ∧ ∃ u, H a = some u := by
  obtain ⟨⟨s, e, hs⟩, e2⟩ := o
  have := h.sl i s e
  rw [e2] at this
  cases s with
  | val p => exact absurd hs Bool.false_ne_true
  | own ps => obtain ⟨a', vs, e', h1, h2, _⟩ := this; cases e'; exact ⟨h2, _, h1⟩
  | dic ks ps => obtain ⟨a', vs, e', h1, h2, _⟩ := this; cases e'; exact ⟨h2, _, h1⟩
theorem BR.setN (h : BR K F0 H0 F H σ ρ) (g : Grow F H F' H') {i : Nat} {a : Addr} {vs : List V} {ps : List PV} (h0 : H a = none) (hF : F' a = none) (hH : H' a = some (.lst vs)) (r : Reps K F' ps vs) :
    BR K F0 H0 F' H' (σ.set i (some (.ref a))) (ρ.set i (some (.own ps))) := by
  have h' := h.grow g
  refine ⟨h'.er.set ⟨a, vs, rfl, hH, hF, r⟩, h'.gr, fun j b o => ?_, fun j k b o o' => ?_⟩
  · rcases own_set o with ⟨_, _, z⟩ | ⟨_, o⟩
    · cases z; exact h.gr.hh.free h0
    · exact h.ow j b o
  · have ne : ∀ {m : Nat}, OwnAt σ ρ m b → b ≠ a := fun {m} o e => by
      obtain ⟨_, u, hu⟩ := h.er.live o
      subst e
      rw [h0] at hu; cases hu
    rcases own_set o with ⟨e1, _, z⟩ | ⟨_, o⟩
    · rcases own_set o' with ⟨e2, _, _⟩ | ⟨_, o'⟩
      · exact e1.symm.trans e2
      · cases z; exact absurd rfl (ne o')
    · rcases own_set o' with ⟨e2, _, z⟩ | ⟨_, o'⟩
      · cases z; exact absurd rfl (ne o)
      · exact h.dj j k b o o'
theorem set_id {i : Nat} {v : V} (e : σ[i]? = some (some v)) : σ.set i (some v) = σ := by
  apply List.ext_getElem?
  intro j
  by_cases hij : i = j
  · subst hij
    rw [List.getElem?_set_self (List.getElem?_eq_some_iff.mp e).1, e]
  · rw [List.getElem?_set_ne hij]
theorem BR.mut (h : BR K F0 H0 F H σ ρ) {i : Nat} {a : Addr} {u : HO} {s : Sl} (o : OwnAt σ ρ i a) (hs : isOwn s = true) (r : SlR K F (L2.upd H a u) (some (.ref a)) (some s)) : BR K F0 H0 F (L2.upd H a u) σ (ρ.set i (some s)) := by
  obtain ⟨hF, u0, hu⟩ := h.er.live o
  have h0 : H0 a = none := h.ow i a o
  have e2 := o.2
  refine ⟨⟨fun b w e => ?_, by rw [List.length_set]; exact h.er.len, fun j s' e => ?_⟩, ⟨fun b w e => ?_, h.gr.ff, fun b w e => ?_, h.gr.nw⟩, fun j b o' => ?_, fun j k b o' o'' => ?_⟩
  · have : b ≠ a := fun z => by subst z; rw [hF] at e; cases e
    rw [upd_ne this]; exact h.er.fz b w e
  · by_cases hij : i = j
    · subst hij
      have hi : i < ρ.length := by
        have := (List.getElem?_eq_some_iff.mp e).1
        rwa [List.length_set] at this
      rw [List.getElem?_set_self hi] at e
      cases e
      rw [e2]
      exact r
    · rw [List.getElem?_set_ne hij] at e
      have old := h.er.sl j s' e
      obtain ⟨v, ev, _⟩ := h.er.rd e
      rw [ev] at old ⊢
      have ne : ∀ b, isOwn s' = true → v = .ref b → b ≠ a := fun b hb hv z => by
        subst hv z
        exact hij (h.dj i j b o ⟨⟨s', e, hb⟩, ev⟩)
      cases s' with
      | val p => exact old
      | own ps => obtain ⟨b, vs, e', h1, h2, h3⟩ := old; cases e'; exact ⟨b, vs, rfl, by rw [upd_ne (ne b rfl rfl)]; exact h1, h2, h3⟩
      | dic ks ps => obtain ⟨b, vs, e', h1, h2, h3, h4⟩ := old; cases e'; exact ⟨b, vs, rfl, by rw [upd_ne (ne b rfl rfl)]; exact h1, h2, h3, h4⟩
  · have : b ≠ a := fun z => by subst z; rw [h0] at e; cases e
    rw [upd_ne this]; exact h.gr.hh b w e
  · have : b ≠ a := fun z => by subst z; rw [hF] at e; cases e
    rw [upd_ne this]; exact h.gr.fh b w e
  · rw [← set_id e2] at o'
    rcases own_set o' with ⟨_, _, z⟩ | ⟨_, o'⟩
    · cases z; exact h0
    · exact h.ow j b o'
  · rw [← set_id e2] at o' o''
    rcases own_set o' with ⟨e1, _, z⟩ | ⟨_, o'⟩
    · rcases own_set o'' with ⟨e3, _, _⟩ | ⟨n, o''⟩
      · exact e1.symm.trans e3
      · cases z; exact absurd (h.dj i k a o o'') n
    · rcases own_set o'' with ⟨e3, _, z⟩ | ⟨_, o''⟩
      · cases z; rw [← e3]; exact h.dj j i a o' o
      · exact h.dj j k b o' o''
theorem BR.fz (h : BR K F0 H0 F H σ ρ) {i : Nat} {ps : List PV} (e : ρ[i]? = some (some (.own ps))) : ∃ F', BR K F0 H0 F' H σ (ρ.set i (some (.val (.lst ps)))) := by
  obtain ⟨v, ev, _⟩ := h.er.rd e
  have sl := h.er.sl i _ e
  rw [ev] at sl
  obtain ⟨a, vs, e', h1, h2, h3⟩ := sl
  cases e'
  have o : OwnAt σ ρ i a := ⟨⟨_, e, rfl⟩, ev⟩
  have h0 := h.ow i a o
  have gr := h.gr.freeze h0 h2 h1
  have mono : Same F (L2.upd F a (.lst vs)) := same_new h2 _
  refine ⟨L2.upd F a (.lst vs), ⟨gr.fh, by rw [List.length_set]; exact h.er.len, fun j s' e' => ?_⟩, gr, fun j b o' => ?_, fun j k b o' o'' => ?_⟩
  · by_cases hij : i = j
    · subst hij
      have hi : i < ρ.length := (List.getElem?_eq_some_iff.mp e).1
      rw [List.getElem?_set_self hi] at e'
      cases e'
      rw [ev]
      exact ⟨a, vs, rfl, upd_same, h3.mono mono⟩
    · rw [List.getElem?_set_ne hij] at e'
      have old := h.er.sl j s' e'
      obtain ⟨v, ev', _⟩ := h.er.rd e'
      rw [ev'] at old ⊢
      have ne : ∀ b, isOwn s' = true → v = .ref b → b ≠ a := fun b hb hv z => by
        subst hv z
        exact hij (h.dj i j b o ⟨⟨s', e', hb⟩, ev'⟩)
      cases s' with
      | val p => exact Rep.mono mono old
      | own qs => obtain ⟨b, us, e', k1, k2, k3⟩ := old; cases e'; exact ⟨b, us, rfl, k1, by rw [upd_ne (ne b rfl rfl)]; exact k2, k3.mono mono⟩
      | dic ks qs => obtain ⟨b, us, e', k1, k2, k3, k4⟩ := old; cases e'; exact ⟨b, us, rfl, k1, by rw [upd_ne (ne b rfl rfl)]; exact k2, k3, k4.mono mono⟩
  · rw [← set_id ev] at o'
    rcases own_set o' with ⟨_, z, _⟩ | ⟨_, o'⟩
    · exact absurd z Bool.false_ne_true
    · exact h.ow j b o'
  · rw [← set_id ev] at o' o''
    rcases own_set o' with ⟨_, z, _⟩ | ⟨_, o'⟩
    · exact absurd z Bool.false_ne_true
    · rcases own_set o'' with ⟨_, z, _⟩ | ⟨_, o''⟩
      · exact absurd z Bool.false_ne_true
      · exact h.dj j k b o' o''
end
noncomputable def mix (F H0 : Hp) : Hp := fun b => match F b with
  | some o => some o
  | none => H0 b
section
variable {K : PySem.W.Frag} {F0 H0 F H F' H' : Hp} {σ σ' : L2.St} {ρ ρ' : PSt}
theorem mix_none {b : Addr} (h : mix F H0 b = none) : F b = none ∧ H0 b = none := by
  unfold mix at h
  split at h
  · cases h
  · exact ⟨by assumption, h⟩
theorem mix_of {b : Addr} (hF : F b = none) (h0 : H0 b = none) : mix F H0 b = none := by unfold mix; rw [hF]; exact h0
theorem BR.base (h : BR K F0 H0 F H σ ρ) : BR K F (mix F H0) F H σ ρ := by
  refine ⟨h.er, ⟨fun b o e => ?_, Same.refl _, h.er.fz, fun b o e => .inl e⟩, fun i a o => mix_of (h.er.live o).1 (h.ow i a o), h.dj⟩
  unfold mix at e
  split at e
  · next q => cases e; exact h.er.fz b _ q
  · exact h.gr.hh b o e
theorem Grow.unbase (g : Grow F0 H0 F H) (g' : Grow F (mix F H0) F' H') : Grow F0 H0 F' H' := by
  refine ⟨fun b o e => ?_, g.ff.trans g'.ff, g'.fh, fun b o e => ?_⟩
  · refine g'.hh b o ?_
    unfold mix
    split
    · next u q => rw [← g.fh b u q]; exact g.hh b o e
    · exact e
  · rcases g'.nw b o e with z | z | z
    · exact g.nw b o z
    · exact .inr (.inl (mix_none z).2)
    · exact .inr (.inr z)
theorem BR.unbase (h : BR K F (mix F H0) F' H' σ' ρ') (g : Grow F0 H0 F H) : BR K F0 H0 F' H' σ' ρ' := ⟨h.er, g.unbase h.gr, fun i a o => (mix_none (h.ow i a o)).2, h.dj⟩
end
structure PEnds where
  nx : PSt → Prop
  rt : PV → Prop
  rn : List PV → Prop
  bk : PSt → Prop := fun _ => False
  ct : PSt → Prop := fun _ => False
noncomputable abbrev PTS := PEnds → PSt → Prop
structure Fit (K : PySem.W.Frag) (F0 H0 : Hp) (Dp : PEnds) (D : Ends) : Prop where
  nx : ∀ F H σ ρ, Dp.nx ρ → BR K F0 H0 F H σ ρ → D.nx σ H
  bk : ∀ F H σ ρ, Dp.bk ρ → BR K F0 H0 F H σ ρ → D.bk σ H
  ct : ∀ F H σ ρ, Dp.ct ρ → BR K F0 H0 F H σ ρ → D.ct σ H
  rt : ∀ p v F H, Dp.rt p → Grow F0 H0 F H → Rep K F p v → D.rt v H
  rn : ∀ ps a vs F H, Dp.rn ps → Grow F0 H0 F H → H0 a = none → F a = none → H a = some (.lst vs) → Reps K F ps vs → D.rt (.ref a) H
noncomputable def lS (K : PySem.W.Frag) (ts : PTS) : TS := fun D σ H => ∃ F0 H0 F ρ Dp, BR K F0 H0 F H σ ρ ∧ ts Dp ρ ∧ Fit K F0 H0 Dp D
theorem lS.elim {K : PySem.W.Frag} {ts : PTS} {D : Ends} {σ : St} {H : Hp} {C : Prop} (h : lS K ts D σ H) (k : ∀ F0 H0 F ρ Dp, BR K F0 H0 F H σ ρ → ts Dp ρ → Fit K F0 H0 Dp D → C) : C := by obtain ⟨F0, H0, F, ρ, Dp, a, b, c⟩ := h; exact k F0 H0 F ρ Dp a b c
noncomputable def PuS (X : Cx) (st : Stmt) (ts : PTS) : Prop := PS X st (lS X.K ts)
noncomputable def PuSs (X : Cx) (st : List Stmt) (ts : PTS) : Prop := PSs X st (lS X.K ts)
noncomputable def pNext : PTS := fun D ρ => D.nx ρ
noncomputable def pSeq (t u : PTS) : PTS := fun D ρ => t { D with nx := u D } ρ
noncomputable def pNever : PTS := fun _ _ => False
noncomputable def pDrop (te : PTE) : PTS := fun D ρ => te ρ fun _ => D.nx ρ
noncomputable def pRet (te : PTE) : PTS := fun D ρ => te ρ D.rt
noncomputable def pRetN (tn : PTN) : PTS := fun D ρ => tn ρ D.rn
noncomputable def go (ρ : PSt) (i : Nat) (Q : List PV → Prop) : Prop := match ρ[i]? with
  | some (some (.own ps)) => Q ps
  | _ => False
theorem go.ex {ρ : PSt} {i : Nat} {Q : List PV → Prop} (h : go ρ i Q) : ∃ ps, ρ[i]? = some (some (.own ps)) ∧ Q ps := by
  unfold go at h
  split at h
  · exact ⟨_, by assumption, h⟩
  · exact h.elim
noncomputable def pRetO (i : Nat) : PTS := fun D ρ => go ρ i D.rn
noncomputable def pIf (c : PTB) (t u : PTS) : PTS := fun D ρ => c ρ fun b => if b = true then t D ρ else u D ρ
noncomputable def pSet (i : Nat) (te : PTE) : PTS := fun D ρ => te ρ fun p => D.nx (ρ.set i (some (.val p)))
noncomputable def pSetN (i : Nat) (tn : PTN) : PTS := fun D ρ => tn ρ fun ps => D.nx (ρ.set i (some (.own ps)))
noncomputable def frz (i : Nat) (ρ : PSt) : PSt := match ρ[i]? with
  | some (some (.own ps)) => ρ.set i (some (.val (.lst ps)))
  | _ => ρ
section
variable {X : Cx} {st : Stmt} {rest : List Stmt} {t u : PTS} {te : PTE} {tn : PTN} {e : Expr} {pos : Pos} {i : Nat}
theorem puss_nil : PuSs X [] pNext := PSs.weak pss_nil fun D σ H hh_ => hh_.elim fun F0 H0 F ρ Dp br h ft => ft.nx F H σ ρ h br
theorem puss_cons (h1 : PuS X st t) (h2 : PuSs X rest u) : PuSs X (st :: rest) (pSeq t u) := PSs.weak (pss_cons h1 h2) fun D σ H hh_ => hh_.elim fun F0 H0 F ρ Dp br h ft =>
  ⟨F0, H0, F, ρ, _, br, h, ⟨fun F' H' σ' ρ' h' br' => ⟨F0, H0, F', ρ', Dp, br', h', ft⟩, ft.bk, ft.ct, ft.rt, ft.rn⟩⟩
theorem puss_one (h1 : PuS X st t) : PuSs X [st] t := pss_one h1
theorem pus_never : PuS X st pNever := PS.weak ps_never fun D σ H hh_ => hh_.elim fun F0 H0 F ρ Dp br h ft => h
theorem pus_expr (h : PS X st (tDrop (lE X.K te))) : PuS X st (pDrop te) := PS.weak h fun D σ H hh_ => hh_.elim fun F0 H0 F ρ Dp br h ft => ⟨F, ρ, _, br.er, h, fun p v F1 H1 h1 g1 r1 => ft.nx F1 H1 σ ρ h1 (br.grow g1)⟩
theorem pus_ret (he : PuE X e te) : PuS X (.Return (some e) pos) (pRet te) := PS.weak (ps_ret he) fun D σ H hh_ => hh_.elim fun F0 H0 F ρ Dp br h ft => ⟨F, ρ, _, br.er, h, fun p v F1 H1 h1 g1 r1 => ft.rt p v F1 H1 h1 (br.gr.trans g1) r1⟩
theorem pus_retN (he : PuN X e tn) : PuS X (.Return (some e) pos) (pRetN tn) := PS.weak (ps_ret he) fun D σ H hh_ => hh_.elim fun F0 H0 F ρ Dp br h ft => ⟨F, ρ, _, br.er, h, fun ps a vs F1 H1 h1 g1 h0 hF hH r1 => ft.rn ps a vs F1 H1 h1 (br.gr.trans g1) (br.gr.hh.free h0) hF hH r1⟩
theorem pus_retO (he : PE X e (tVar i)) : PuS X (.Return (some e) pos) (pRetO i) := PS.weak (ps_ret he) fun D σ H hh_ => hh_.elim fun F0 H0 F ρ Dp br h ft => by
  obtain ⟨ps, e, h⟩ := h.ex
  obtain ⟨v, ev, _⟩ := br.er.rd e
  have sl := br.er.sl i _ e
  rw [ev] at sl
  obtain ⟨a, vs, e', h1, h2, h3⟩ := sl
  cases e'
  exact ⟨_, ev, ft.rn ps a vs F H h br.gr (br.ow i a ⟨⟨_, e, rfl⟩, ev⟩) h2 h1 h3⟩
theorem pus_if {c : Expr} {a b : List Stmt} {tc : PTB} (hc : PuB X c tc) (ha : PuSs X a t) (hb : PuSs X b u) : PuS X (.If c a b pos) (pIf tc t u) := PS.weak (ps_if hc ha hb) fun D σ H hh_ => hh_.elim fun F0 H0 F ρ Dp br h ft => ⟨F, ρ, _, br.er, h, fun b F1 H1 h1 g1 => by
  cases b with
  | true => exact ⟨F0, H0, F1, ρ, Dp, br.grow g1, by simpa using h1, ft⟩
  | false => exact ⟨F0, H0, F1, ρ, Dp, br.grow g1, by simpa using h1, ft⟩⟩
theorem pus_set (h : PS X st (tAsg (lE X.K te) (gName i))) : PuS X st (pSet i te) := PS.weak h fun D σ H hh_ => hh_.elim fun F0 H0 F ρ Dp br h ft => ⟨F, ρ, _, br.er, h, fun p v F1 H1 h1 g1 r1 => ft.nx F1 H1 _ _ h1 ((br.grow g1).setV r1)⟩
theorem pus_setN (h : PS X st (tAsg (lN X.K tn) (gName i))) : PuS X st (pSetN i tn) := PS.weak h fun D σ H hh_ => hh_.elim fun F0 H0 F ρ Dp br h ft => ⟨F, ρ, _, br.er, h, fun ps a vs F1 H1 h1 g1 h0 hF hH r1 => ft.nx F1 H1 _ _ h1 (br.setN g1 h0 hF hH r1)⟩
theorem pus_setCompV {fm : List (Option Nat)} {ti : PTI} {g0 : TG} {g : PTG} {tc : PTB} (hg : GRef X.K g0 g) (h : PS X st (tAsg (tComp fm (lI X.K ti) g0 (lB X.K tc) (lE X.K te)) (gName i))) : PuS X st (pSet i (pNew (pComp fm ti g tc te))) := PS.weak h fun D σ H hh_ => hh_.elim fun F0 H0 F ρ Dp br h ft => comp_lift hg σ H _ ⟨F, ρ, _, br.er, h, fun ps a vs F1 H1 h1 g1 h0 hF hH r1 =>
  ft.nx _ H1 _ _ h1 ((br.grow (g1.freeze h0 hF hH)).setV ⟨a, vs, rfl, upd_same, r1.mono (same_new hF _)⟩)⟩
theorem BR.ownAt {K : PySem.W.Frag} {F0 H0 F H : Hp} {σ : L2.St} {ρ : PSt} (br : BR K F0 H0 F H σ ρ) {ps : List PV} (e : ρ[i]? = some (some (.own ps))) : ∃ a vs, σ[i]? = some (some (.ref a)) ∧ OwnAt σ ρ i a ∧ H a = some (.lst vs) ∧ F a = none ∧ Reps K F ps vs := by
  obtain ⟨v, ev, _⟩ := br.er.rd e
  have sl := br.er.sl i _ e
  rw [ev] at sl
  obtain ⟨a, vs, e', h1, h2, h3⟩ := sl
  cases e'
  exact ⟨a, vs, ev, ⟨⟨_, e, rfl⟩, ev⟩, h1, h2, h3⟩
noncomputable def pApp (i : Nat) (t : PTA) : PTS := fun D ρ => go ρ i fun ps => t ρ fun qs => One qs fun q => ps.length < sizeLine ∧ D.nx (ρ.set i (some (.own (ps ++ [q]))))
theorem pus_app {t : PTA} (h : PS X st (tDrop (tBM X.K "list" rAppend (tVar i) (lA X.K t)))) : PuS X st (pApp i t) := PS.weak h fun D σ H hh_ => hh_.elim fun F0 H0 F ρ Dp br h ft => by
  obtain ⟨ps, e, h⟩ := h.ex
  obtain ⟨a, vs, ev, o, h1, h2, h3⟩ := br.ownAt e
  refine ⟨_, ev, .inl ⟨rfl, vs, SqL.of h1⟩, F, ρ, _, br.er, h, fun qs us F1 H1 k1 g1 r1 => ?_⟩
  unfold One at k1
  split at k1
  · next q =>
    obtain ⟨v, r, rfl, r1, er⟩ := r1
    cases (show r = [] from er)
    have k := g1.keep h2 h1
    exact ⟨a, vs, v, rfl, rfl, k.2, by rw [h3.length]; exact k1.1, ft.nx F1 _ σ _ k1.2 ((br.grow g1).mut (s := .own _) o rfl ⟨a, _, rfl, upd_same, k.1, (h3.mono g1.ff).app (.one r1)⟩)⟩
  · exact k1.elim
noncomputable def pSetIx (j : Nat) (ti te : PTE) : PTS := fun D ρ => te ρ fun v => go ρ j fun ps => ti ρ fun k => OkI k fun k => OkO (ixN ps.length k) fun n => D.nx (ρ.set j (some (.own (ps.set n v))))
theorem pus_setIx {j : Nat} {ti : PTE} (h : PS X st (tAsg (lE X.K te) (L2.gSub (tVar j) (lE X.K ti) rSetL))) : PuS X st (pSetIx j ti te) := PS.weak h fun D σ H hh_ => hh_.elim fun F0 H0 F ρ Dp br h ft => ⟨F, ρ, _, br.er, h, fun p v F1 H1 h1 g1 r1 => by
  obtain ⟨ps, e, h⟩ := h1.ex
  have br1 := br.grow g1
  obtain ⟨a, vs, ev, o, k1, k2, k3⟩ := br1.ownAt e
  refine ⟨_, ev, F1, ρ, _, br1.er, h, fun q w F2 H2 h2 g2 r2 => ?_⟩
  obtain ⟨k, rfl, rfl, h2⟩ := OkI.rd (H := H2) h2 (.frz r2)
  obtain ⟨n, en, h2⟩ := h2.ex
  have kk := g2.keep k2 k1
  exact ⟨a, vs, k, n, rfl, rfl, kk.2, by rw [k3.length]; exact en, ft.nx F2 _ σ _ h2 ((br1.grow g2).mut (s := .own _) o rfl ⟨a, _, rfl, upd_same, kk.1, (k3.mono g2.ff).set (r1.mono g2.ff) n⟩)⟩⟩
noncomputable def pLoop (g : PTG) (tb : PTS) (D : PEnds) : List PV → PSt → Prop
  | [], ρ => D.nx ρ
  | v :: vs, ρ => g v ρ fun ρ2 => tb { D with nx := pLoop g tb D vs, ct := pLoop g tb D vs, bk := D.nx } ρ2
noncomputable def pFor (ti : PTI) (g : PTG) (tb : PTS) : PTS := fun D ρ => ti ρ fun its => pLoop g tb D its ρ
theorem pus_for {ti : PTI} {g0 : TG} {g : PTG} {tb : PTS} (hg : GRef X.K g0 g) (h : PS X st (tFor (lI X.K ti) g0 (lS X.K tb))) : PuS X st (pFor ti g tb) := PS.weak h fun D σ H hh_ => hh_.elim fun F0 H0 F ρ Dp br h ft => ⟨F, ρ, _, br.er, h, fun its J F1 H1 h1 g1 it => by
  refine ⟨fun i m σ' H' => ∃ F' ρ', BR X.K F0 H0 F' H' σ' ρ' ∧ Same F1 F' ∧ i ≤ its.length ∧ m = its.length - i ∧ pLoop g tb Dp (its.drop i) ρ', ⟨its.length, F1, ρ, br.grow g1, Same.refl _, Nat.zero_le _, rfl, h1⟩, ?_⟩
  rintro i m σ' H' ⟨F', ρ', br', s1, hi, rfl, h2⟩
  obtain ⟨it1, it2⟩ := it F' H' i s1 br'.er.fz
  by_cases hl : i < its.length
  · obtain ⟨go, yl⟩ := it1 _ (List.getElem?_eq_getElem hl)
    rw [List.drop_eq_getElem_cons hl] at h2
    refine .inr ⟨go, fun σ2 H2 => ∃ F2 ρ2, BR X.K F0 H0 F2 H2 σ2 ρ2 ∧ Same F1 F2 ∧ pLoop g tb Dp (its.drop (i + 1)) ρ2, fun σ2 H2 ⟨F2, ρ2, b2, s2, q2⟩ => ⟨its.length - (i + 1), by omega, F2, ρ2, b2, s2, hl, rfl, q2⟩, fun x H2 hy => ?_⟩
    obtain ⟨F2, g2, rx⟩ := yl x H2 hy
    refine hg F2 H2 σ' ρ' _ x _ _ g2.fh rx h2 fun σ3 ρ3 h3 u => ?_
    have br3 := (br'.grow g2).upd u
    refine ⟨F2, mix F2 H0, F2, ρ3, _, br3.base, h3, ⟨fun F4 H4 σ4 ρ4 h4 b4 => ?_, fun F4 H4 σ4 ρ4 h4 b4 => ?_, fun F4 H4 σ4 ρ4 h4 b4 => ?_, fun p v F4 H4 h4 g4 r4 => ft.rt p v F4 H4 h4 (br3.gr.unbase g4) r4, fun ps a vs F4 H4 h4 g4 h0 hF hH r4 => ft.rn ps a vs F4 H4 h4 (br3.gr.unbase g4) (mix_none h0).2 hF hH r4⟩⟩
    · exact ⟨F4, ρ4, b4.unbase br3.gr, (s1.trans g2.ff).trans b4.gr.ff, h4⟩
    · exact ft.nx F4 H4 σ4 ρ4 h4 (b4.unbase br3.gr)
    · exact ⟨F4, ρ4, b4.unbase br3.gr, (s1.trans g2.ff).trans b4.gr.ff, h4⟩
  · have e : its.drop i = [] := List.drop_eq_nil_of_le (by omega)
    rw [e] at h2
    exact .inl ⟨it2 (by omega), ft.nx F' H' σ' ρ' h2 br'⟩⟩
noncomputable def pWhileN (tc : PTB) (tb : PTS) (D : PEnds) : Nat → PSt → Prop
  | 0, _ => False
  | n + 1, ρ => tc ρ fun b => if b = true then tb { D with nx := pWhileN tc tb D n, ct := pWhileN tc tb D n, bk := D.nx } ρ else D.nx ρ
noncomputable def pWhile (tc : PTB) (tb : PTS) : PTS := fun D ρ => ∃ n, pWhileN tc tb D n ρ
theorem pus_while {tc : PTB} {tb : PTS} (h : PS X st (tWhile (lB X.K tc) (lS X.K tb))) : PuS X st (pWhile tc tb) := PS.weak h fun D σ H hh_ => hh_.elim fun F0 H0 F ρ Dp br ⟨n, h⟩ ft => by
  refine ⟨fun m σ' H' => ∃ F' ρ', BR X.K F0 H0 F' H' σ' ρ' ∧ pWhileN tc tb Dp m ρ', ⟨n, F, ρ, br, h⟩, ?_⟩
  rintro m σ' H' ⟨F', ρ', br', h'⟩
  cases m with
  | zero => exact h'.elim
  | succ m =>
    refine ⟨F', ρ', _, br'.er, h', fun b F1 H1 h1 g1 => ?_⟩
    cases b with
    | true =>
      rw [if_pos rfl] at h1 ⊢
      refine ⟨fun σ2 H2 => ∃ F2 ρ2, BR X.K F0 H0 F2 H2 σ2 ρ2 ∧ pWhileN tc tb Dp m ρ2, fun σ2 H2 q => ⟨m, Nat.lt_succ_self _, q⟩, F0, H0, F1, ρ', _, br'.grow g1, h1, ⟨fun F4 H4 σ4 ρ4 h4 b4 => ⟨F4, ρ4, b4, h4⟩, fun F4 H4 σ4 ρ4 h4 b4 => ft.nx F4 H4 σ4 ρ4 h4 b4, fun F4 H4 σ4 ρ4 h4 b4 => ⟨F4, ρ4, b4, h4⟩, ft.rt, ft.rn⟩⟩
    | false =>
      rw [if_neg Bool.false_ne_true] at h1 ⊢
      exact ft.nx F1 H1 σ' ρ' h1 (br'.grow g1)
inductive PR where
  | v (p : PV) | n (ps : List PV)
noncomputable def PR.pv : PR → PV
  | .v p => p
  | .n ps => .lst ps
noncomputable abbrev PSp := List PV → (PR → Prop) → Prop
noncomputable def ResR (K : PySem.W.Frag) (H F' H' : Hp) (v : V) : PR → Prop
  | .v p => Rep K F' p v
  | .n ps => ∃ a vs, v = .ref a ∧ H a = none ∧ F' a = none ∧ H' a = some (.lst vs) ∧ Reps K F' ps vs
noncomputable def spP (K : PySem.W.Frag) (φ : PSp) : Sp := fun vs H Q _ => ∃ F ps, ∃ Qp : PR → Prop, Same F H ∧ Reps K F ps vs ∧ φ ps Qp ∧ ∀ r v F' H', Qp r → Grow F H F' H' → ResR K H F' H' v r → Q v H'
noncomputable def PEnds.of (Q : PR → Prop) : PEnds := { nx := fun _ => Q (.v .non), rt := fun p => Q (.v p), rn := fun ps => Q (.n ps) }
noncomputable def pstart (N : List Str) (ps : List PV) : PSt := ps.map (fun p => some (Sl.val p)) ++ List.replicate (N.length - ps.length) none
theorem er_start {K : PySem.W.Frag} {F H : Hp} (s : Same F H) (N : List Str) : ∀ {ps : List PV} {vs : List V}, Reps K F ps vs → ER K F H (L2.start N vs) (pstart N ps) := fun {ps vs} r => by
  have hl := r.length
  refine ⟨s, by unfold L2.start pstart; simp [hl], fun i s' e => ?_⟩
  unfold pstart at e
  unfold L2.start
  rw [List.getElem?_append] at e ⊢
  rw [List.length_map] at e ⊢
  by_cases hi : i < ps.length
  · rw [if_pos hi, List.getElem?_map] at e
    rw [if_pos (by omega), List.getElem?_map]
    obtain ⟨p, ep, e⟩ := Option.map_eq_some_iff.mp e
    obtain ⟨v, ev, rv⟩ := r.get ep
    cases e
    rw [ev]
    exact rv
  · rw [if_neg hi, List.getElem?_replicate] at e
    split at e <;> cases e
theorem own_start {N : List Str} {ps : List PV} {σ : L2.St} {i : Nat} {a : Addr} (o : OwnAt σ (pstart N ps) i a) : False := by
  obtain ⟨⟨s, e, hs⟩, _⟩ := o
  unfold pstart at e
  rw [List.getElem?_append] at e
  split at e
  · rw [List.getElem?_map] at e
    obtain ⟨p, ep, e⟩ := Option.map_eq_some_iff.mp e
    cases e
    exact absurd hs Bool.false_ne_true
  · rw [List.getElem?_replicate] at e
    split at e <;> cases e
noncomputable def pCall (φ : PSp) (t : PTA) : PTE := fun ρ Q => t ρ fun ps => φ ps fun r => Q r.pv
noncomputable def OkN : PR → (List PV → Prop) → Prop
  | .n ps, Q => Q ps
  | _, _ => False
noncomputable def pCallN (φ : PSp) (t : PTA) : PTN := fun ρ Q => t ρ fun ps => φ ps fun r => OkN r Q
theorem pu_call {φ : PSp} {t : PTA} (h : PE X e (tCall (spP X.K φ) [] E0 (lA X.K t))) : PuE X e (pCall φ t) := PE.weak h fun σ H Q hh_ => hh_.elim fun F ρ Qp er q k => ⟨F, ρ, _, er, q, fun ps vs F1 H1 h1 g1 r1 => by
  show spP X.K φ (vs ++ []) H1 Q E0
  rw [List.append_nil]
  refine ⟨F1, ps, _, g1.fh, r1, h1, fun r v F2 H2 h2 g2 rr => ?_⟩
  cases r with
  | v p => exact k p v F2 H2 h2 (g1.trans g2) rr
  | n ps =>
    obtain ⟨a, vs, rfl, h0, hF, hH, rs⟩ := rr
    exact k (.lst ps) _ _ H2 h2 ((g1.trans g2).freeze (g1.hh.free h0) hF hH) ⟨a, vs, rfl, upd_same, rs.mono (same_new hF _)⟩⟩
theorem pu_callN {φ : PSp} {t : PTA} (h : PE X e (tCall (spP X.K φ) [] E0 (lA X.K t))) : PuN X e (pCallN φ t) := PE.weak h fun σ H Q hh_ => hh_.elim fun F ρ Qp er q k => ⟨F, ρ, _, er, q, fun ps vs F1 H1 h1 g1 r1 => by
  show spP X.K φ (vs ++ []) H1 Q E0
  rw [List.append_nil]
  refine ⟨F1, ps, _, g1.fh, r1, h1, fun r v F2 H2 h2 g2 rr => ?_⟩
  cases r with
  | v p => exact h2.elim
  | n ps =>
    obtain ⟨a, vs, rfl, h0, hF, hH, rs⟩ := rr
    exact k ps a vs F2 H2 h2 (g1.trans g2) (g1.hh.free h0) hF hH rs⟩
end
theorem defP {P : Program} {w : World} {K : PySem.W.Frag} {mg : Str → Option Value} {base : Heap} {x : Str} {st : Stmt} {N ps : List Str} {k : Nat} {φ : PSp} {ts : PTS} (F : FunD K mg x st ps) (S : FnScope N ps (defScope st))
    (hl : ∀ qs Q, φ qs Q → qs.length = ps.length)
    (hb : ∀ (f : Addr) (cdv : Value) (A : Around) (outer : List Env) (s : Shared) (H : Hp) (E : XK), Room k (A.deeper (PyProof.Rows.envOfC x (defScope st) s.heap.objs.size f cdv)) → PuSs (cxOf CX0 P w K mg base N x (defScope st) f cdv A outer s H E).nox (defBody st) ts)
    (hφ : ∀ qs Q, φ qs Q → ts (PEnds.of Q) (pstart N qs)) : Def P w K mg base (k + 1) x ps (spP K φ) := by
  refine F.ok S (fun vs H Q E ⟨F, qs, Qp, s, r, h, _⟩ => by rw [r.length]; exact hl qs Qp h) (fun f cdv A outer s H vs Q E hr ⟨F, qs, Qp, sm, r, h, kk⟩ => ?_)
  refine ⟨_, hb f cdv A outer s H E hr, F, H, F, pstart N qs, PEnds.of Qp, ?_, hφ qs Qp h, ?_⟩
  · exact ⟨er_start sm N r, .refl sm, fun i a o => (own_start o).elim, fun i j a o _ => (own_start o).elim⟩
  · exact ⟨fun F' H' σ' ρ' q b => kk (.v .non) .non F' H' q b.gr rfl, fun F' H' σ' ρ' q b => q.elim, fun F' H' σ' ρ' q b => q.elim, fun p v F' H' q g rr => kk (.v p) v F' H' q g rr, fun ps a vs F' H' q g h0 hF hH rs => kk (.n ps) (.ref a) F' H' q g ⟨a, vs, rfl, h0, hF, hH, rs⟩⟩
end Pu
end
section
namespace Pu
open PySem PySem.Spec L2
theorem Def.imp {P : Program} {w : World} {K : PySem.W.Frag} {mg : Str → Option Value} {base : Heap} {k : Nat} {x : Str} {ps : List Str} {sp sp' : Sp} (d : Def P w K mg base k x ps sp) (h : ∀ vs H Q E, sp' vs H Q E → sp vs H Q E) : Def P w K mg base k x ps sp' := by
  obtain ⟨f, fd, F, r⟩ := d
  exact ⟨f, fd, F.imp h, r⟩
section
variable {X : Cx} {e a b c l tg iter : Expr} {pos : Pos} {te ta tb : PTE} {t : PTA} {st : Stmt} {i j : Nat}
theorem RdV.all {K : PySem.W.Frag} {F H : Hp} {p : PV} {v : V} (s : Same F H) (r : RdV K F H p v) : Rep K H p v := by
  cases r with
  | frz r => exact r.mono s
  | own h1 h2 h3 => exact ⟨_, _, rfl, h1, h3.mono s⟩
  | dic h1 h2 h3 h4 => exact ⟨_, _, rfl, h1, h3, h4.mono s⟩
theorem RdVs.all {K : PySem.W.Frag} {F H : Hp} {ps : List PV} {vs : List V} (s : Same F H) (r : RdVs K F H ps vs) : Reps K H ps vs := by
  induction r with
  | nil => rfl
  | cons r _ ih => exact ⟨_, _, rfl, r.all s, ih⟩
noncomputable def OkLo : PV → (List PV → Prop) → Prop
  | .lst ps, Q => Q ps
  | _, _ => False
theorem OkLo.rd {K : PySem.W.Frag} {F H : Hp} {p : PV} {v : V} {Q : List PV → Prop} (h : OkLo p Q) (s : Same F H) (r : RdV K F H p v) : ∃ a vs ps, p = .lst ps ∧ v = .ref a ∧ H a = some (.lst vs) ∧ Reps K F ps vs ∧ Q ps := by
  cases r with
  | frz r =>
    cases p <;> first | exact h.elim | skip
    obtain ⟨a, vs, rfl, e, r⟩ := r; exact ⟨a, vs, _, rfl, rfl, s _ _ e, r, h⟩
  | own h1 h2 h3 => exact ⟨_, _, _, rfl, rfl, h1, h3, h⟩
  | dic => exact h.elim
noncomputable def pCat (ta tb : PTE) : PTN := fun ρ Q => ta ρ fun x => tb ρ fun y => OkLo x fun ps => OkLo y fun qs => ps.length + qs.length ≤ sizeLine ∧ Q (ps ++ qs)
theorem pu_cat (ha : PuT X a ta) (hb : PuT X b tb) : PuN X (.BinOp a .Add b pos) (pCat ta tb) := PE.weak (pe_op op_cat ha hb) fun σ H Q hh_ => hh_.elim fun F ρ Qp er q k =>
  ⟨F, ρ, _, er, q, fun p v F1 H1 q1 g1 r1 => ⟨F1, ρ, _, er.grow g1, q1, fun p2 v2 F2 H2 q2 g2 r2 => by
    obtain ⟨a, vs, ps, rfl, rfl, h1, rs, q2⟩ := q2.rd g2.fh (r1.grow g2)
    obtain ⟨b, us, qs, rfl, rfl, h2, rs2, q2⟩ := q2.rd g2.fh r2
    exact ⟨a, b, vs, us, rfl, rfl, h1, h2, by rw [rs.length, rs2.length]; exact q2.1, fun p hp => k _ p _ F2 _ q2.2 ((g1.trans g2).trans (.newO g2.fh hp _)) ((g1.trans g2).hh.free hp) (g2.fh.free hp) upd_same (rs.app rs2)⟩⟩⟩
noncomputable def pRep (ta tb : PTE) : PTN := fun ρ Q => ta ρ fun x => tb ρ fun y => OkLo x fun ps => OkI y fun k => -(2 ^ 63) ≤ k ∧ k < 2 ^ 63 ∧ ps.length * k.toNat ≤ sizeLine ∧ Q (List.replicate k.toNat ps).flatten
theorem Reps.repF {K : PySem.W.Frag} {F : Hp} {ps : List PV} {vs : List V} (h : Reps K F ps vs) : ∀ n, Reps K F (List.replicate n ps).flatten (List.replicate n vs).flatten
  | 0 => rfl
  | n + 1 => by rw [List.replicate_succ, List.replicate_succ, List.flatten_cons, List.flatten_cons]; exact h.app (Reps.repF h n)
theorem pu_rep (ha : PuT X a ta) (hb : PuT X b tb) : PuN X (.BinOp a .Mult b pos) (pRep ta tb) := PE.weak (pe_op op_rep ha hb) fun σ H Q hh_ => hh_.elim fun F ρ Qp er q k =>
  ⟨F, ρ, _, er, q, fun p v F1 H1 q1 g1 r1 => ⟨F1, ρ, _, er.grow g1, q1, fun p2 v2 F2 H2 q2 g2 r2 => by
    obtain ⟨a, vs, ps, rfl, rfl, h1, rs, q2⟩ := q2.rd g2.fh (r1.grow g2)
    obtain ⟨n, rfl, rfl, q2⟩ := q2.rd r2
    exact ⟨a, n, vs, rfl, rfl, h1, q2.1, q2.2.1, by rw [rs.length]; exact q2.2.2.1, fun p hp => k _ p _ F2 _ q2.2.2.2 ((g1.trans g2).trans (.newO g2.fh hp _)) ((g1.trans g2).hh.free hp) (g2.fh.free hp) upd_same (rs.repF _)⟩⟩⟩
noncomputable def enumP : Nat → List PV → List PV
  | _, [] => []
  | k, p :: ps => .tup [.int k, p] :: enumP (k + 1) ps
end
end Pu
end
section
namespace L2
open PySem PySem.Spec PyProof.Rows
noncomputable def rRepU : R2 := fun x y H Q => ∃ l k xs, x = .ref l ∧ y = .int k ∧ H l = some (.tup xs) ∧ xs ≠ [] ∧ 1 ≤ k ∧ k ≤ 1000 ∧ xs.length ≤ 1000 ∧ (k = 1 → Q (.ref l) H) ∧ (k ≠ 1 → ∀ p, H p = none → Q (.ref p) (upd H p (.tup (List.replicate k.toNat xs).flatten)))
theorem op_repU {X : Cx} : OpR X (binaryOp .Mult) rRepU := by
  intro pins s σ H x y v u Q I rx ry h
  obtain ⟨l, k, xs, rfl, rfl, hH, hx, k1, k2, k3, q⟩ := h
  cases rx
  obtain ⟨t, rfl⟩ := ry
  obtain ⟨its, r, p1, z⟩ := I.tuple (SqT.of' hH)
  obtain ⟨⟨cls, dd, data, sl⟩, e, hc, n, hd⟩ := id p1
  simp only at hc hd
  subst hc hd
  have hl := r.length
  have z1 : sizeLine ≥ 1000000 := by decide
  have hne : its ≠ [] := fun w => hx (r.nil_iff.mp w)
  have len1 : its.length * k.toNat ≤ 1000 * 1000 := Nat.mul_le_mul (by omega) (by omega)
  refine wpAny_binaryOp_repeat_ref (T := "tuple") (U := "int") (by decide) ⟨_, e, rfl⟩ (fun s' => typeIs_int s' k t) noFill_tuple_mul PySem.F.fills_int_mul PySem.F.slot_int_rmul repeat_tuple PySem.F.slot_int_index.lookup
    (call_meets PySem.F.slot_int_rmul (typeIs_int s k t) PySem.F.entry_int_rmul (PySem.F.args_int_rmul_2 _ _) (int_rmul_tuple k t l its.toArray n dd sl) ⟨e, rfl, ⟨_, e, rfl⟩, ?_⟩)
  by_cases hk : k = 1
  · subst hk
    refine call_meets PySem.F.slot_tuple_mul ⟨_, e, rfl⟩ PySem.F.entry_tuple_mul (PySem.F.args_tuple_mul_2 _ _) (tuple_mul_same l its.toArray n dd sl t) ⟨e, ?_⟩
    exact ⟨.ref l, H, I, rfl, q.1 rfl⟩
  · have hsz : ((its.toArray.size : Nat) : Int) * k = ((its.length * k.toNat : Nat) : Int) := by
      rw [List.size_toArray, Int.natCast_mul, Int.toNat_of_nonneg (by omega)]
    refine call_meets PySem.F.slot_tuple_mul ⟨_, e, rfl⟩ PySem.F.entry_tuple_mul (PySem.F.args_tuple_mul_2 _ _) (tuple_mul_new l its.toArray n dd sl k t ?a1 ?a2 ?a3 ?a4 ?a5 ?a6) ⟨e, ?_⟩
    case a1 => simp; omega
    case a2 => simp [hne]; exact hk
    case a3 => simp [hne]; omega
    case a4 => rw [hsz]; omega
    case a5 =>
      rw [hsz]
      intro hh
      have h2 := of_decide_eq_true hh
      omega
    case a6 =>
      rw [foldl_rep0, List.size_toArray, len_rep, Nat.mul_comm]
      omega
    rw [foldl_rep0]
    refine ⟨.ref s.heap.objs.size, _, I.laid (t' := s.toks) (o := .tup (List.replicate k.toNat xs).flatten) (fun b ob q => Heap.get?_push_of_some _ q) (Nat.le_refl _) ?_, rfl, q.2 hk _ (I.hok.fresh (Nat.le_refl _))⟩
    exact ⟨by rw [len_rep, Nat.mul_comm, hl]; omega, _, r.rep k.toNat, IsTup.new _ _⟩
end L2
namespace Pu
open PySem PySem.Spec L2
section
variable {X : Cx} {e a b c l tg iter : Expr} {pos : Pos} {te ta tb : PTE} {t : PTA} {st : Stmt} {i j : Nat}
noncomputable def gRep : PG2 := fun x y Q => OkT x fun ps => OkI y fun k => ps ≠ [] ∧ 1 ≤ k ∧ k ≤ 1000 ∧ ps.length ≤ 1000 ∧ Q (.tup (List.replicate k.toNat ps).flatten)
theorem rf_repT : Ref2 X.K rRepU gRep := fun F H x y p q Qp Q s rx ry h k => by
  obtain ⟨a, vs, ps, rfl, rfl, hF, rs, h⟩ := h.rd rx
  obtain ⟨n, rfl, rfl, h1, h2, h3, h4, h⟩ := h.rd ry
  have hl := rs.length
  refine ⟨a, n, vs, rfl, rfl, s _ _ hF, fun e => ?_, h2, h3, by omega, fun e => ?_, fun e p hp => ?_⟩
  · subst e
    exact h1 (List.length_eq_zero_iff.mp hl.symm)
  · subst e
    refine k _ _ F H h (.refl s) ⟨a, vs, rfl, hF, ?_⟩
    simpa using rs
  · exact k _ _ _ _ h (.new s hp _) ⟨p, _, rfl, upd_same, (rs.repF _).mono (same_new (s.free hp) _)⟩
theorem pu_repT (ha : PuT X a ta) (hb : PuT X b tb) : PuE X (.BinOp a .Mult b pos) (pOp gRep ta tb) := pu_op op_repU rf_repT ha hb
noncomputable def gCat2 : PG2 := fun x y Q => OkT x fun ps => OkT y fun qs => ps ≠ [] ∧ ps.length + qs.length ≤ sizeLine ∧ Q (.tup (ps ++ qs))
theorem rf_catT : Ref2 X.K (rCatT X.K) gCat2 := fun F H x y p q Qp Q s rx ry h k => by
  obtain ⟨a, vs, ps, rfl, rfl, hF, rs, h⟩ := h.rd rx
  obtain ⟨b, us, qs, rfl, rfl, hF2, rs2, h1, h2, h⟩ := h.rd ry
  have hl := rs.length
  have hl2 := rs2.length
  refine ⟨a, b, vs, us, rfl, rfl, SqT.of (s _ _ hF), SqT.of (s _ _ hF2), fun e => ?_, by omega, fun e => ?_, fun e p hp => ?_⟩
  · subst e
    exact h1 (List.length_eq_zero_iff.mp hl.symm)
  · subst e
    have : qs = [] := List.length_eq_zero_iff.mp hl2.symm
    subst this
    rw [List.append_nil] at h
    exact k _ _ F H h (.refl s) ⟨a, vs, rfl, hF, rs⟩
  · exact k _ _ _ _ h (.new s hp _) ⟨p, _, rfl, upd_same, (rs.app rs2).mono (same_new (s.free hp) _)⟩
theorem pu_catT (ha : PuT X a ta) (hb : PuT X b tb) : PuE X (.BinOp a .Add b pos) (pOp gCat2 ta tb) := pu_op op_catT rf_catT ha hb
noncomputable def pSl2 (te : PTE) (tl th : PTO) : PTE := fun ρ Q => te ρ fun x => tl ρ fun l => th ρ fun h => OkT x fun ps => ¬ (HT.sIx ps.length 0 l = 0 ∧ HT.sIx ps.length ps.length h = ps.length) ∧ Q (.tup (cut ps l h))
theorem pu_slT {lo hi : Option Expr} {tl th : PTO} {p2 : Pos} (he : PuT X e te) (hl : PuO X lo tl) (hh : PuO X hi th) : PuE X (.Subscript e (.Slice lo hi none p2) pos) (pSl2 te tl th) := PE.weak (pe_slice sl_tup he hl hh) fun σ H Q hh_ => hh_.elim fun F ρ Qp er q k => ⟨F, ρ, _, er, q, fun p v F1 H1 h1 g1 r1 =>
  ⟨F1, ρ, _, er.grow g1, h1, fun l F2 H2 h2 g2 => ⟨F2, ρ, _, (er.grow g1).grow g2, h2, fun h F3 H3 h3 g3 => by
    have gg := (g1.trans g2).trans g3
    obtain ⟨a, vs, ps, rfl, rfl, hF, rs, hn, q⟩ := h3.rd (r1.grow (g2.trans g3))
    refine ⟨a, vs, rfl, SqT.of (gg.fh _ _ hF), by rw [rs.length]; exact hn, fun p hp => k _ _ _ _ q (gg.trans (.new gg.fh hp _)) ⟨p, _, rfl, upd_same, rs.cut.mono (same_new (gg.fh.free hp) _)⟩⟩⟩⟩⟩
noncomputable def isPair : PV → Bool
  | .tup ps => match ps with
    | [.int _, .int _] => true
    | _ => false
  | _ => false
theorem isPair.ex {p : PV} (h : isPair p = true) : ∃ i j, p = .tup [.int i, .int j] := by
  unfold isPair at h
  split at h
  · split at h
    · exact ⟨_, _, rfl⟩
    · cases h
  · cases h
theorem Reps.mem {K : PySem.W.Frag} {F : Hp} : ∀ {ps : List PV} {vs : List V}, Reps K F ps vs → ∀ v ∈ vs, ∃ p ∈ ps, Rep K F p v
  | [], _, h, v, hv => by rw [show _ = [] from h] at hv; cases hv
  | p :: ps, _, ⟨u, r, e, h, t⟩, v, hv => by
    subst e
    rcases List.mem_cons.mp hv with z | z
    · subst z; exact ⟨p, List.mem_cons_self, h⟩
    · obtain ⟨q, hq, hr⟩ := t.mem v z
      exact ⟨q, List.mem_cons_of_mem _ hq, hr⟩
end
end Pu
end
section
namespace Pu
open PySem PySem.Spec L2
noncomputable def pst (n : Nat) (ps : List PV) : PSt := ps.map (fun p => some (Sl.val p)) ++ List.replicate (n - ps.length) none
noncomputable def spLaw (K : PySem.W.Frag) : Sp := fun vs H Q _ => ∃ (a : Addr) (ns : List Int), vs = [.ref a] ∧ SqL K H a (ns.map V.int) ∧ ns.length ≤ 63 ∧ ∀ H', Q (.bl true) H'
theorem reps_ints {K : PySem.W.Frag} {F : Hp} : ∀ (ns : List Int), Reps K F (ns.map PV.int) (ns.map V.int)
  | [] => rfl
  | n :: ns => ⟨_, _, rfl, rfl, reps_ints ns⟩
theorem law_start {X : Cx} {body : List Stmt} {ts : PTS} {N : List Str} {H : Hp} {vs : List V} {Q : VK} {E : XK} (hb : PuSs X body ts) (h : spLaw X.K vs H Q E)
    (hp : ∀ ns : List Int, ns.length ≤ 63 → ts (PEnds.of (fun r => r = .v (.bl true))) (pst N.length [.src (ns.map PV.int)])) : ∃ t, PSs X body t ∧ t { nx := fun _ H' => Q .non H', rt := Q } (L2.start N vs) H := by
  obtain ⟨a, ns, rfl, hS, hl, q⟩ := h
  refine ⟨_, hb, H, H, H, pst N.length [.src (ns.map PV.int)], _, ?_, hp ns hl, ?_⟩
  · have er := er_start (K := X.K) (Same.refl H) N (ps := [.src (ns.map PV.int)]) (vs := [.ref a]) ⟨_, _, rfl, ⟨a, _, rfl, hS, reps_ints ns⟩, rfl⟩
    exact ⟨er, .refl (Same.refl H), fun i a o => (own_start o).elim, fun i j a o _ => (own_start o).elim⟩
  · refine ⟨fun F' H' σ' ρ' q b => ?_, fun F' H' σ' ρ' q b => q.elim, fun F' H' σ' ρ' q b => q.elim, fun p v F' H' e g rr => ?_, fun ps a vs F' H' e g h0 hF hH rs => ?_⟩
    · have e : PR.v .non = PR.v (.bl true) := q
      cases e
    · have e' : PR.v p = PR.v (.bl true) := e
      cases e'
      cases (show v = .bl true from rr)
      exact q H'
    · have e' : PR.n ps = PR.v (.bl true) := e
      cases e'
theorem walk {l : PySem.W.OpenLaw} {q : Program} {loose : List Str} {XP : (Str → Option Value) → Heap → Prop} {YP : World → Heap → Prop} {d : DefRec} {K : Params → PySem.W.Frag} {k : Nat} (hk : k ≤ 40) (hn : l.most = some 63) (hdf : d.params.defaults = [])
    (hY : ∀ (w : World) (h : Heap), YP w h → (K w.params).In h)
    (F : ∀ (w : World) (mg : Str → Option Value) (fa : Addr) (h : Heap), (K w.params).In h → h.Ns mainGlobals mg → mg d.name = some (.ref fa) →
      ∃ fd : FuncData, (∀ (s : Shared) (u : Value), BindsTo s fd ⟨[u], []⟩ [("_law_script", u)]) ∧ ∀ base : Heap, (K w.params).In base ∧ base.Ns mainGlobals mg → FnOk l.prog w (K w.params) mg base CX0 k fa fd ["_law_script"] (spLaw (K w.params))) :
    PySem.W.WalkO q loose XP YP l.row.toRowW d [] (fun f vs => PySem.call f vs) := by
  have R : Room 40 callerA := ⟨rfl, by decide, by decide⟩
  exact L2.walk_of (n := 63) (k := k) (x := "_law_script") (CX := fun _ => CX0) (sp := fun w => spLaw (K w.params)) hn (by first | decide | omega) hdf (R.mono hk) hY (fun w mg fa h a b c => let ⟨fd, x, y⟩ := F w mg fa h a b c; ⟨fd, x, fun base p1 p2 => y base ⟨p1, p2⟩⟩)
    (fun _ _ a ns hl _ hS => ⟨a, ns, rfl, hS, hl, fun _ => rfl⟩) fun _ _ _ _ _ z => z
end Pu
end
section
namespace Fo
noncomputable abbrev up (us : List Nat) (x : Nat) : Nat := us.getD x 0
theorem up_set {us : List Nat} {x v t : Nat} (hx : x < us.length) : up (us.set x v) t = if t = x then v else up us t := by
  simp only [up, List.getD_eq_getElem?_getD, List.getElem?_set]
  by_cases h : x = t
  · subst h; simp [hx]
  · simp [h, Ne.symm h]
structure Fst (us : List Nat) : Prop where
  bnd : ∀ x, x < us.length → up us x < us.length
  rk : ∃ r : Nat → Nat, (∀ x, x < us.length → r x < us.length) ∧ ∀ x, x < us.length → up us x ≠ x → r (up us x) < r x
inductive Way (us : List Nat) : Nat → List Nat → Prop where
  | head {x : Nat} : up us x = x → Way us x [x]
  | step {x : Nat} {l : List Nat} : up us x ≠ x → Way us (up us x) l → Way us x (x :: l)
theorem Way.det {us : List Nat} {x : Nat} {l l' : List Nat} (h : Way us x l) (h' : Way us x l') : l = l' := by
  induction h generalizing l' with
  | head e => cases h' with
    | head _ => rfl
    | step n _ => exact absurd e n
  | step n _ ih => cases h' with
    | head e => exact absurd e n
    | step _ q => rw [ih q]
theorem Way.ne {us : List Nat} {x : Nat} {l : List Nat} (h : Way us x l) : l ≠ [] := by cases h <;> simp
theorem Way.pos {us : List Nat} {x : Nat} {l : List Nat} (h : Way us x l) : 1 ≤ l.length := by cases h <;> simp
theorem Way.cons {us : List Nat} {x : Nat} {l : List Nat} (h : Way us x l) : ∃ t, l = x :: t := by cases h <;> simp
theorem Way.mem_self {us : List Nat} {x : Nat} {l : List Nat} (h : Way us x l) : x ∈ l := by cases h <;> simp
noncomputable def last (l : List Nat) : Nat := l.getLastD 0
theorem last_cons {x : Nat} {l : List Nat} (h : l ≠ []) : last (x :: l) = last l := by
  cases l with
  | nil => exact absurd rfl h
  | cons y t => simp [last, List.getLastD_cons]
theorem Way.lt {us : List Nat} {x : Nat} {l : List Nat} (h : Way us x l) (b : ∀ x, x < us.length → up us x < us.length) (hx : x < us.length) : ∀ y ∈ l, y < us.length := by
  induction h with
  | head e => intro y hy; rw [List.mem_singleton] at hy; subst hy; exact hx
  | step n w ih =>
    intro y hy
    rcases List.mem_cons.mp hy with rfl | hy
    · exact hx
    · exact ih (b _ hx) y hy
theorem Way.rank {us : List Nat} {x : Nat} {l : List Nat} (h : Way us x l) (b : ∀ x, x < us.length → up us x < us.length) {r : Nat → Nat} (hr : ∀ x, x < us.length → up us x ≠ x → r (up us x) < r x) (hx : x < us.length) : ∀ y ∈ l, r y ≤ r x := by
  induction h with
  | head e => intro y hy; rw [List.mem_singleton] at hy; subst hy; exact Nat.le_refl _
  | @step x l n w ih =>
    intro y hy
    rcases List.mem_cons.mp hy with rfl | hy
    · exact Nat.le_refl _
    · exact Nat.le_trans (ih (b _ hx) y hy) (Nat.le_of_lt (hr x hx n))
theorem Fst.way {us : List Nat} (f : Fst us) {x : Nat} (hx : x < us.length) : ∃ l, Way us x l ∧ l.length ≤ us.length := by
  obtain ⟨b, r, hb, hr⟩ := f
  suffices h : ∀ k x, x < us.length → r x ≤ k → ∃ l, Way us x l ∧ l.length ≤ k + 1 by
    obtain ⟨l, w, hl⟩ := h (r x) x hx (Nat.le_refl _)
    exact ⟨l, w, by have := hb x hx; omega⟩
  intro k
  induction k with
  | zero =>
    intro x hx h0
    by_cases e : up us x = x
    · exact ⟨_, .head e, by simp⟩
    · exact absurd (hr x hx e) (by omega)
  | succ k ih =>
    intro x hx h0
    by_cases e : up us x = x
    · exact ⟨_, .head e, by simp⟩
    · obtain ⟨l, w, hl⟩ := ih (up us x) (b x hx) (by have := hr x hx e; omega)
      exact ⟨_, .step e w, by simp; omega⟩
theorem Way.congr {us us' : List Nat} {x : Nat} {l : List Nat} (h : Way us x l) (e : ∀ y ∈ l, up us' y = up us y) : Way us' x l := by
  induction h with
  | @head x q => exact .head (by rw [e x (by simp), q])
  | @step x l n w ih =>
    have q : up us' x = up us x := e x (by simp)
    exact .step (by rw [q]; exact n) (by rw [q]; exact ih fun y hy => e y (List.mem_cons_of_mem _ hy))
theorem Way.later {us : List Nat} {x : Nat} {l : List Nat} (h : Way us x l) : ∀ y ∈ l, ∃ l2, Way us y l2 ∧ last l2 = last l ∧ l2.length ≤ l.length ∧ ∀ z ∈ l2, z ∈ l := by
  induction h with
  | @head x q => intro y hy; rw [List.mem_singleton] at hy; subst hy; exact ⟨_, .head q, rfl, Nat.le_refl _, fun _ h => h⟩
  | @step x l n w ih =>
    intro y hy
    rcases List.mem_cons.mp hy with rfl | hy
    · exact ⟨_, .step n w, rfl, Nat.le_refl _, fun _ h => h⟩
    · obtain ⟨l2, a, b, c, d⟩ := ih y hy
      exact ⟨l2, a, by rw [b, last_cons w.ne], by simp; omega, fun z hz => List.mem_cons_of_mem _ (d z hz)⟩
structure Shorter (us us' : List Nat) : Prop where
  len : us'.length = us.length
  up : ∀ t, t < us.length → (up us t = t ∧ Fo.up us' t = t) ∨ (Fo.up us t ≠ t ∧ ∃ l, Way us (Fo.up us t) l ∧ Fo.up us' t ∈ l)
theorem Shorter.refl {us : List Nat} (f : Fst us) : Shorter us us := ⟨rfl, fun t ht => by
  by_cases e : Fo.up us t = t
  · exact .inl ⟨e, e⟩
  · obtain ⟨l, w, _⟩ := f.way (f.bnd t ht)
    exact .inr ⟨e, l, w, w.mem_self⟩⟩
theorem Shorter.fst {us us' : List Nat} (s : Shorter us us') (f : Fst us) : Fst us' := by
  obtain ⟨b, r, hb, hr⟩ := f
  refine ⟨fun x hx => ?_, r, fun x hx => ?_, fun x hx hn => ?_⟩
  · rw [s.len] at hx ⊢
    rcases s.up x hx with ⟨_, e⟩ | ⟨_, l, w, m⟩
    · rw [e]; exact hx
    · exact w.lt b (b x hx) _ m
  · rw [s.len] at hx ⊢; exact hb x hx
  · rw [s.len] at hx
    rcases s.up x hx with ⟨_, e⟩ | ⟨n, l, w, m⟩
    · exact absurd e hn
    · exact Nat.lt_of_le_of_lt (w.rank b hr (b x hx) _ m) (hr x hx n)
theorem Shorter.way {us us' : List Nat} (s : Shorter us us') (f : Fst us) {t : Nat} (ht : t < us.length) {l : List Nat} (w : Way us t l) : ∃ l', Way us' t l' ∧ last l' = last l ∧ l'.length ≤ l.length := by
  obtain ⟨b, r, hb, hr⟩ := f
  suffices h : ∀ k t, t < us.length → r t ≤ k → ∀ l, Way us t l → ∃ l', Way us' t l' ∧ last l' = last l ∧ l'.length ≤ l.length from h (r t) t ht (Nat.le_refl _) l w
  intro k
  induction k with
  | zero =>
    intro t ht h0 l w
    rcases s.up t ht with ⟨e, e'⟩ | ⟨n, _⟩
    · cases w with
      | head _ => exact ⟨_, .head e', rfl, Nat.le_refl _⟩
      | step n _ => exact absurd e n
    · exact absurd (hr t ht n) (by omega)
  | succ k ih =>
    intro t ht h0 l w
    rcases s.up t ht with ⟨e, e'⟩ | ⟨n, l1, w1, m⟩
    · cases w with
      | head _ => exact ⟨_, .head e', rfl, Nat.le_refl _⟩
      | step n _ => exact absurd e n
    · cases w with
      | head e => exact absurd e n
      | @step _ l0 _ w0 =>
        obtain rfl := w0.det w1
        obtain ⟨l2, w2, e2, c2, _⟩ := w0.later _ m
        have hy : Fo.up us' t < us.length := w0.lt b (b t ht) _ m
        have hry : r (Fo.up us' t) < r t := Nat.lt_of_le_of_lt (w0.rank b hr (b t ht) _ m) (hr t ht n)
        obtain ⟨l3, w3, e3, c3⟩ := ih _ hy (by omega) l2 w2
        refine ⟨t :: l3, .step (fun e => ?_) w3, ?_, ?_⟩
        · rw [e] at hry; omega
        · rw [last_cons w3.ne, e3, e2, last_cons w0.ne]
        · simp; omega
inductive Halv : List Nat → Nat → Nat → List Nat → Nat → Prop where
  | stop {us : List Nat} {x : Nat} : up us x = x → Halv us x x us 0
  | step {us : List Nat} {x h n : Nat} {us' : List Nat} : up us x ≠ x → Halv (us.set x (up us (up us x))) (up us (up us x)) h us' n → Halv us x h us' (n + 1)
inductive Splt : List Nat → Nat → Nat → List Nat → Nat → Prop where
  | stop {us : List Nat} {x : Nat} : up us x = x → Splt us x x us 0
  | step {us : List Nat} {x h n : Nat} {us' : List Nat} : up us x ≠ x → Splt (us.set x (up us (up us x))) (up us x) h us' n → Splt us x h us' (n + 1)
theorem Way.set {us : List Nat} {x y v : Nat} {l : List Nat} (w : Way us y l) (hx : x < us.length) (h : x ∉ l) : Way (us.set x v) y l :=
  w.congr fun z hz => by rw [up_set hx, if_neg (fun e : z = x => h (e ▸ hz))]
noncomputable def evens : List Nat → List Nat
  | [] => []
  | [x] => [x]
  | x :: _ :: l => x :: evens l
end Fo
end
section
namespace Fo
open PySem
noncomputable def RNone (us : List Nat) (x h : Nat) (us' : List Nat) (n : Nat) : Prop := us' = us ∧ ∃ l, Way us x l ∧ h = last l ∧ n + 1 = l.length
noncomputable def RHalves (us : List Nat) (x h : Nat) (us' : List Nat) (n : Nat) : Prop := ∃ l, Way us x l ∧ h = last l ∧ n = l.length / 2 ∧ us'.length = us.length ∧ ∀ t, up us' t = if t ∈ evens l then up us (up us t) else up us t
noncomputable def RSplits (us : List Nat) (x h : Nat) (us' : List Nat) (n : Nat) : Prop := ∃ l, Way us x l ∧ h = last l ∧ n + 1 = l.length ∧ us'.length = us.length ∧ ∀ t, up us' t = if t ∈ l then up us (up us t) else up us t
noncomputable def ROne (us : List Nat) (x h : Nat) (us' : List Nat) (n : Nat) : Prop := us' = us.set x (up us (up us x)) ∧ ∃ l, Way us x l ∧ h = last l ∧ n + 1 = l.length
noncomputable def RWhole (us : List Nat) (x h : Nat) (us' : List Nat) (n : Nat) : Prop := ∃ l, Way us x l ∧ h = last l ∧ n + 1 = l.length ∧ us'.length = us.length ∧ ∀ t, up us' t = if t ∈ l then h else up us t
inductive RM : Str → List Nat → Nat → Nat → List Nat → Nat → Prop where
  | none {us x h us' n} : RNone us x h us' n → RM "none" us x h us' n
  | whole {us x h us' n} : RWhole us x h us' n → RM "whole" us x h us' n
  | halves {us x h us' n} : RHalves us x h us' n → RM "halves" us x h us' n
  | splits {us x h us' n} : RSplits us x h us' n → RM "splits" us x h us' n
  | one {us x h us' n} : ROne us x h us' n → RM "one" us x h us' n
noncomputable def manners : List Str := ["none", "whole", "halves", "splits", "one"]
structure Frst (us : List Nat) : Prop where
  one : 1 ≤ us.length
  most : us.length ≤ 40
  fst : Fst us
end Fo
namespace Pu
open PySem PySem.Spec L2 Fo
noncomputable def nI (n : Nat) : PV := .int n
noncomputable def nums (us : List Nat) : List PV := us.map nI
theorem Grow.tup {F H F' H' : Hp} (g : Grow F H F' H') {p : Addr} {vs : List V} (h : H' p = some (.tup vs)) : Grow F H (L2.upd F' p (.tup vs)) H' ∧ Same F' (L2.upd F' p (.tup vs)) := by
  have sm : Same F' (L2.upd F' p (.tup vs)) := fun b o e => by
    by_cases hb : b = p
    · subst hb; rw [upd_same, ← h]; exact (g.fh b o e)
    · rw [upd_ne hb]; exact e
  refine ⟨⟨g.hh, g.ff.trans sm, fun b o e => ?_, fun b o e => ?_⟩, sm⟩
  · by_cases hb : b = p
    · subst hb; rw [upd_same] at e; rw [h]; exact e
    · rw [upd_ne hb] at e; exact g.fh b o e
  · by_cases hb : b = p
    · subst hb; rw [upd_same] at e; cases e; exact .inr (.inr ⟨_, rfl⟩)
    · rw [upd_ne hb] at e; exact g.nw b o e
theorem reps_nums_eq {K : PySem.W.Frag} {F : Hp} : ∀ {us : List Nat} {vs : List V}, Reps K F (nums us) vs → vs = us.map fun n : Nat => V.int (n : Int)
  | [], _, h => h
  | n :: us, _, ⟨v, r, e, h1, h2⟩ => by
    subst e
    cases (show v = _ from h1)
    rw [reps_nums_eq h2]; rfl
end Pu
end
section
namespace Dp
open PySem PySem.Spec L2 Pu
inductive RV where
  | fz (p : PV) | nw (ps : List PV) | ln (p : PV)
noncomputable def RV.pv : RV → PV
  | .fz p => p
  | .nw ps => .lst ps
  | .ln p => p
noncomputable def RV.fr : RV → Option PV
  | .fz p => some p
  | .nw ps => some (.lst ps)
  | .ln _ => none
noncomputable abbrev FE := PSt → Option RV
noncomputable abbrev FB := PSt → Option Bool
noncomputable abbrev FA := PSt → Option (List RV)
noncomputable abbrev FI := PSt → Option (List PV)
noncomputable def RvOk (K : PySem.W.Frag) (H F' H' : Hp) (v : V) : RV → Prop
  | .fz p => Rep K F' p v
  | .nw ps => ∃ a vs, v = .ref a ∧ H a = none ∧ F' a = none ∧ H' a = some (.lst vs) ∧ Reps K F' ps vs
  | .ln p => RdV K F' H' p v
noncomputable def lR (K : PySem.W.Frag) (f : FE) : TE := fun σ H Q => ∃ F ρ r, ER K F H σ ρ ∧ f ρ = some r ∧ ∀ v F' H', Grow F H F' H' → RvOk K H F' H' v r → Q v H'
theorem lR.elim {K : PySem.W.Frag} {f : FE} {σ : St} {H : Hp} {Q : VK} {C : Prop} (h : lR K f σ H Q) (k : ∀ F ρ r, ER K F H σ ρ → f ρ = some r → (∀ v F' H', Grow F H F' H' → RvOk K H F' H' v r → Q v H') → C) : C := by obtain ⟨F, ρ, r, a, b, c⟩ := h; exact k F ρ r a b c
noncomputable def DE (X : Cx) (e : Expr) (f : FE) : Prop := PE X e (lR X.K f)
noncomputable def tT (f : FE) : PTE := fun ρ Q => ∃ r, f ρ = some r ∧ Q r.pv
noncomputable def tF (f : FE) : PTE := fun ρ Q => ∃ r p, f ρ = some r ∧ r.fr = some p ∧ Q p
noncomputable def tN (f : FE) : PTN := fun ρ Q => ∃ ps, f ρ = some (.nw ps) ∧ Q ps
noncomputable def tBo (f : FB) : PTB := fun ρ Q => ∃ b, f ρ = some b ∧ Q b
noncomputable def tFs (f : FA) : PTA := fun ρ Q => ∃ rs ps, f ρ = some rs ∧ rs.mapM RV.fr = some ps ∧ Q ps
noncomputable def tTs (f : FA) : PTA := fun ρ Q => ∃ rs, f ρ = some rs ∧ Q (rs.map RV.pv)
noncomputable def tIt (f : FI) : PTI := fun ρ Q => ∃ its, f ρ = some its ∧ Q its
section
variable {X : Cx} {e a b c : Expr} {pos : Pos} {f fa fb fc : FE} {te t1 t2 : PTE} {tn n1 n2 : PTN} {i : Nat}
theorem RvOk.rd {K : PySem.W.Frag} {H F' H' : Hp} {v : V} : ∀ {r : RV}, RvOk K H F' H' v r → RdV K F' H' r.pv v
  | .fz _, h => .frz h
  | .nw _, ⟨_, _, e, _, h1, h2, h3⟩ => by subst e; exact .own h2 h1 h3
  | .ln _, h => h
theorem DE.tt (h : DE X e f) : PuT X e (tT f) := PE.weak h fun σ H Q hh_ => hh_.elim fun F ρ Qp er ⟨r, e, q⟩ k => ⟨F, ρ, r, er, e, fun v F' H' g ro => k _ v F' H' q g ro.rd⟩
theorem DE.ee (h : DE X e f) : PuE X e (tF f) := PE.weak h fun σ H Q hh_ => hh_.elim fun F ρ Qp er ⟨r, p, e, ef, q⟩ k => ⟨F, ρ, r, er, e, fun v F' H' g ro => by
  cases r with
  | fz p' => cases ef; exact k _ v F' H' q g ro
  | nw ps =>
    cases ef
    obtain ⟨a, vs, rfl, h0, hF, hH, rs⟩ := ro
    exact k _ _ _ H' q (g.freeze h0 hF hH) ⟨a, vs, rfl, upd_same, rs.mono (same_new hF _)⟩
  | ln p' => cases ef⟩
theorem DE.nn (h : DE X e f) : PuN X e (tN f) := PE.weak h fun σ H Q hh_ => hh_.elim fun F ρ Qp er ⟨ps, e, q⟩ k => ⟨F, ρ, _, er, e, fun v F' H' g ro => by
  obtain ⟨a, vs, rfl, h0, hF, hH, rs⟩ := ro
  exact k ps a vs F' H' q g h0 hF hH rs⟩
theorem DE.ofE (h : PuE X e te) (w : ∀ ρ r, f ρ = some r → ∃ p, r = .fz p ∧ te ρ (fun x => x = p)) : DE X e f := PE.weak h fun σ H Q hh_ => hh_.elim fun F ρ r er e k => by
  obtain ⟨p, rfl, t⟩ := w ρ r e
  exact ⟨F, ρ, _, er, t, fun q v F' H' hq g rr => by subst hq; exact k v F' H' g rr⟩
theorem DE.ofN (h : PuN X e tn) (w : ∀ ρ r, f ρ = some r → ∃ ps, r = .nw ps ∧ tn ρ (fun x => x = ps)) : DE X e f := PE.weak h fun σ H Q hh_ => hh_.elim fun F ρ r er e k => by
  obtain ⟨p, rfl, t⟩ := w ρ r e
  exact ⟨F, ρ, _, er, t, fun q a vs F' H' hq g h0 hF hH rr => by subst hq; exact k _ F' H' g ⟨a, vs, rfl, h0, hF, hH, rr⟩⟩
theorem PE.or {t u : TE} (h : PE X e t) (h' : PE X e u) : PE X e (fun σ H Q => t σ H Q ∨ u σ H Q) := fun pins s σ H Q I q => q.elim (h pins s σ H Q I) (h' pins s σ H Q I)
theorem DE.of2 (hE : PuE X e te) (hN : PuN X e tn) (w : ∀ ρ r, f ρ = some r → (∃ p, r = .fz p ∧ te ρ (fun x => x = p)) ∨ ∃ ps, r = .nw ps ∧ tn ρ (fun x => x = ps)) : DE X e f := PE.weak (PE.or hE hN) fun σ H Q hh_ => hh_.elim fun F ρ r er e k => by
  rcases w ρ r e with ⟨p, rfl, t⟩ | ⟨p, rfl, t⟩
  · exact .inl ⟨F, ρ, _, er, t, fun q v F' H' hq g rr => by subst hq; exact k v F' H' g rr⟩
  · exact .inr ⟨F, ρ, _, er, t, fun q a vs F' H' hq g h0 hF hH rr => by subst hq; exact k _ F' H' g ⟨a, vs, rfl, h0, hF, hH, rr⟩⟩
theorem PuE_or (h : PuE X e t1) (h' : PuE X e t2) : PuE X e (fun ρ Q => t1 ρ Q ∨ t2 ρ Q) := PE.weak (PE.or h h') fun σ H Q hh_ => hh_.elim fun F ρ Qp er q k => q.elim (fun q => .inl ⟨F, ρ, Qp, er, q, k⟩) fun q => .inr ⟨F, ρ, Qp, er, q, k⟩
theorem PuN_or (h : PuN X e n1) (h' : PuN X e n2) : PuN X e (fun ρ Q => n1 ρ Q ∨ n2 ρ Q) := PE.weak (PE.or h h') fun σ H Q hh_ => hh_.elim fun F ρ Qp er q k => q.elim (fun q => .inl ⟨F, ρ, Qp, er, q, k⟩) fun q => .inr ⟨F, ρ, Qp, er, q, k⟩
noncomputable def sl (ρ : PSt) (i : Nat) : Option Sl := (ρ[i]?).join
noncomputable def slRV : Sl → RV
  | .val p => .fz p
  | .own ps => .ln (.lst ps)
  | .dic ks ps => .ln (.dct ks ps)
noncomputable def fV (i : Nat) : FE := fun ρ => (sl ρ i).map slRV
theorem sl_some {ρ : PSt} {s : Sl} (h : sl ρ i = some s) : ρ[i]? = some (some s) := by
  unfold sl at h
  cases q : ρ[i]? with
  | none => rw [q] at h; cases h
  | some o => rw [q] at h; rw [show o = some s from h]
theorem d_v (h : PE X e (tVar i)) : DE X e (fV i) := PE.weak h fun σ H Q hh_ => hh_.elim fun F ρ r er e k => by
  unfold fV at e
  obtain ⟨s, es, rfl⟩ := Option.map_eq_some_iff.mp e
  have e1 := sl_some es
  obtain ⟨v, ev, rd⟩ := er.rd e1
  refine ⟨v, ev, k v F H (.refl er.fz) ?_⟩
  cases s with
  | val p =>
    have := er.sl i _ e1
    rw [ev] at this
    exact this
  | own ps => exact rd
  | dic ks ps => exact rd
noncomputable def fC (p : PV) : FE := fun _ => some (.fz p)
theorem d_c {p : PV} (h : PuE X e (pC p)) : DE X e (fC p) := .ofE h fun ρ r e => by cases e; exact ⟨p, rfl, rfl⟩
theorem d_int {i : Int} {j} : DE X (.Constant (.int i) j pos) (fC (.int i)) := d_c pu_int
theorem d_bl {i : Bool} {j} : DE X (.Constant (.bool i) j pos) (fC (.bl i)) := d_c pu_bl
noncomputable def fOp (g : PV → PV → Option RV) (a b : FE) : FE := fun ρ => (a ρ).bind fun x => (b ρ).bind fun y => g x.pv y.pv
theorem bind2 {α β γ : Type} {a : Option α} {b : Option β} {g : α → β → Option γ} {r : γ} (h : (a.bind fun x => b.bind fun y => g x y) = some r) : ∃ x y, a = some x ∧ b = some y ∧ g x y = some r := by
  obtain ⟨x, e1, h⟩ := Option.bind_eq_some_iff.mp h
  obtain ⟨y, e2, h⟩ := Option.bind_eq_some_iff.mp h
  exact ⟨x, y, e1, e2, h⟩
theorem d_op {g : PV → PV → Option RV} {gE : PG2} (h : PuE X e (pOp gE (tT fa) (tT fb))) (w : ∀ x y r, g x y = some r → ∃ p, r = .fz p ∧ gE x y (fun z => z = p)) : DE X e (fOp g fa fb) := .ofE h fun ρ r e => by
  obtain ⟨x, y, e1, e2, e3⟩ := bind2 e
  obtain ⟨p, rfl, q⟩ := w _ _ r e3
  exact ⟨p, rfl, x, e1, y, e2, q⟩
noncomputable def rI (f : Int → Int → PV) : PV → PV → Option RV
  | .int i, .int j => some (.fz (f i j))
  | _, _ => none
theorem rI_ok {f : Int → Int → PV} : ∀ x y r, rI f x y = some r → ∃ p, r = .fz p ∧ gI0 f x y (fun z => z = p) := fun x y r h => by
  unfold rI at h
  split at h
  · cases h; exact ⟨_, rfl, rfl⟩
  · cases h
noncomputable def rIc (C : Int → Int → Prop) [∀ i j, Decidable (C i j)] (f : Int → Int → PV) : PV → PV → Option RV
  | .int i, .int j => if C i j then some (.fz (f i j)) else none
  | _, _ => none
theorem rIc_ok {C D : Int → Int → Prop} [∀ i j, Decidable (C i j)] {f : Int → Int → PV} (hc : ∀ i j, C i j → D i j) : ∀ x y r, rIc C f x y = some r → ∃ p, r = .fz p ∧ Pu.gI D f x y (fun z => z = p) := fun x y r h => by
  unfold rIc at h
  split at h
  · split at h
    · cases h; exact ⟨_, rfl, hc _ _ (by assumption), rfl⟩
    · cases h
  · cases h
end
end Dp
end
section
namespace Dp
open PySem PySem.Spec L2 Pu
theorem big {n : Nat} (h : n ≤ 100000) : n ≤ sizeLine := Nat.le_trans h (by decide)
theorem bigl {n : Nat} (h : n ≤ 100000) : n < sizeLine := Nat.lt_of_le_of_lt h (by decide)
section
variable {X : Cx} {e a b c : Expr} {es rest : List Expr} {pos : Pos} {f fa fb fc : FE} {fs : FA} {i : Nat} {ba bb : FB}
noncomputable def rAdd : PV → PV → Option RV
  | .int i, .int j => some (.fz (.int (i + j)))
  | .lst ps, .lst qs => if ps.length + qs.length ≤ 100000 then some (.nw (ps ++ qs)) else none
  | .tup ps, .tup qs => if ps.isEmpty = false ∧ ps.length + qs.length ≤ 100000 then some (.fz (.tup (ps ++ qs))) else none
  | .str x, .str y => if x.length + y.length ≤ 100000 then some (.fz (.str (x ++ y))) else none
  | _, _ => none
noncomputable def gCatS : PG2 := fun x y Q => match x, y with
  | .str x, .str y => x.length + y.length ≤ sizeLine ∧ Q (.str (x ++ y))
  | _, _ => False
theorem rf_catS : Ref2 X.K (fun x y H Q => ∃ i j, x = .str i ∧ y = .str j ∧ i.length + j.length ≤ sizeLine ∧ Q (.str (i ++ j)) H) gCatS := fun F H x y p q Qp Q s rx ry h k => by
  unfold gCatS at h
  split at h
  · cases rx with
    | frz rx => cases ry with
      | frz ry => exact ⟨_, _, rx, ry, h.1, k _ _ F H h.2 (.refl s) rfl⟩
  · exact h.elim
theorem d_add (ha : DE X a fa) (hb : DE X b fb) : DE X (.BinOp a .Add b pos) (fOp rAdd fa fb) :=
  .of2 (PuE_or (pu_add ha.tt hb.tt) (PuE_or (pu_catT ha.tt hb.tt) (pu_op op_add_str rf_catS ha.tt hb.tt))) (pu_cat ha.tt hb.tt) fun ρ r e => by
    obtain ⟨x, y, e1, e2, e3⟩ := bind2 e
    unfold rAdd at e3
    split at e3
    · next p q => cases e3; exact .inl ⟨_, rfl, .inl ⟨x, e1, y, e2, by rw [p, q]; rfl⟩⟩
    · next ps qs p q =>
      split at e3
      · cases e3; exact .inr ⟨_, rfl, x, e1, y, e2, by rw [p, q]; exact ⟨big (by assumption), rfl⟩⟩
      · cases e3
    · next ps qs p q =>
      split at e3
      · next h => cases e3; exact .inl ⟨_, rfl, .inr (.inl ⟨x, e1, y, e2, by rw [p, q]; exact ⟨by intro z; subst z; exact absurd h.1 (by decide), big h.2, rfl⟩⟩)⟩
      · cases e3
    · next u v p q =>
      split at e3
      · cases e3; exact .inl ⟨_, rfl, .inr (.inr ⟨x, e1, y, e2, by rw [p, q]; exact ⟨big (by assumption), rfl⟩⟩)⟩
      · cases e3
    · cases e3
noncomputable def rSub : PV → PV → Option RV := rI fun i j => .int (i - j)
theorem d_sub (ha : DE X a fa) (hb : DE X b fb) : DE X (.BinOp a .Sub b pos) (fOp rSub fa fb) := d_op (pu_sub ha.tt hb.tt) rI_ok
noncomputable def rMul : PV → PV → Option RV
  | .int i, .int j => if (i.natAbs < 2 ^ 64) ∨ (j.natAbs < 2 ^ 64) then some (.fz (.int (i * j))) else none
  | .lst ps, .int j => if j ≤ 1000 ∧ -1000 ≤ j ∧ ps.length ≤ 100 then some (.nw (List.replicate j.toNat ps).flatten) else none
  | .tup ps, .int j => if ps.isEmpty = false ∧ 1 ≤ j ∧ j ≤ 1000 ∧ ps.length ≤ 1000 then some (.fz (.tup (List.replicate j.toNat ps).flatten)) else none
  | _, _ => none
theorem d_mul (ha : DE X a fa) (hb : DE X b fb) : DE X (.BinOp a .Mult b pos) (fOp rMul fa fb) :=
  .of2 (PuE_or (pu_mul ha.tt hb.tt) (pu_repT ha.tt hb.tt)) (pu_rep ha.tt hb.tt) fun ρ r e => by
    obtain ⟨x, y, e1, e2, e3⟩ := bind2 e
    unfold rMul at e3
    split at e3
    · next i j p q =>
      split at e3
      · next h =>
        cases e3
        refine .inl ⟨_, rfl, .inl ⟨x, e1, y, e2, ?_⟩⟩
        rw [p, q]
        refine ⟨?_, rfl⟩
        show CMul i j
        unfold CMul
        rcases h with h | h
        · exact .inl (by omega)
        · exact .inr (by omega)
      · cases e3
    · next ps j p q =>
      split at e3
      · next h =>
        cases e3
        refine .inr ⟨_, rfl, x, e1, y, e2, ?_⟩
        rw [p, q]
        refine ⟨by omega, by omega, ?_, rfl⟩
        refine big ?_
        have h1 : j.toNat ≤ 1000 := by omega
        exact Nat.le_trans (Nat.mul_le_mul h.2.2 h1) (by decide)
      · cases e3
    · next ps j p q =>
      split at e3
      · next h => cases e3; exact .inl ⟨_, rfl, .inr ⟨x, e1, y, e2, by rw [p, q]; exact ⟨by intro z; subst z; exact absurd h.1 (by decide), h.2.1, h.2.2.1, h.2.2.2, rfl⟩⟩⟩
      · cases e3
    · cases e3
noncomputable def rDiv : PV → PV → Option RV := rIc (fun _ j => 0 < j ∧ j < 1073741824) fun i j => .int (i / j)
theorem d_div (ha : DE X a fa) (hb : DE X b fb) : DE X (.BinOp a .FloorDiv b pos) (fOp rDiv fa fb) := d_op (pu_div ha.tt hb.tt) (rIc_ok fun _ _ h => h)
noncomputable def rMod : PV → PV → Option RV := rIc (fun _ j => 0 < j) fun i j => .int (i % j)
theorem d_mod (ha : DE X a fa) (hb : DE X b fb) : DE X (.BinOp a .Mod b pos) (fOp rMod fa fb) := d_op (pu_mod ha.tt hb.tt) (rIc_ok fun _ _ h => h)
noncomputable def rPow : PV → PV → Option RV := rIc (fun i j => 0 ≤ j ∧ j ≤ 1000000 ∧ i.natAbs < 2 ^ 64) fun i j => .int (i ^ j.toNat)
theorem d_pow (ha : DE X a fa) (hb : DE X b fb) : DE X (.BinOp a .Pow b pos) (fOp rPow fa fb) := d_op (pu_pow ha.tt hb.tt) (rIc_ok fun _ _ h => h)
noncomputable def rBand : PV → PV → Option RV := rI fun i j => .int (Builtin.bitAnd i j)
theorem d_band (ha : DE X a fa) (hb : DE X b fb) : DE X (.BinOp a .BitAnd b pos) (fOp rBand fa fb) := d_op (pu_and_ ha.tt hb.tt) rI_ok
structure CmpR (X : Cx) (op : CmpOp) (g : PV → PV → Option RV) : Prop where
  ok : ∃ (r : R2) (gE : PG2), OpR X (compareOp op) r ∧ Ref2 X.K r gE ∧ ∀ x y r, g x y = some r → ∃ p, r = .fz (.bl p) ∧ ∀ Q : PV → Prop, Q (.bl p) → gE x y Q
theorem fzb {g : PV → PV → Option RV} {gE : PG2} (h : ∀ x y r, g x y = some r → ∃ p, r = .fz (.bl p) ∧ ∀ Q : PV → Prop, Q (.bl p) → gE x y Q) : ∀ x y r, g x y = some r → ∃ p, r = .fz p ∧ gE x y (fun z => z = p) := fun x y r e => by
  obtain ⟨p, e1, e2⟩ := h x y r e; exact ⟨_, e1, e2 _ rfl⟩
theorem d_cmp {op : CmpOp} {g : PV → PV → Option RV} (hc : CmpR X op g) (ha : DE X a fa) (hb : DE X b fb) (hm : behindInMarks op b = false) : DE X (.Compare a [op] [b] pos) (fOp g fa fb) := by
  obtain ⟨r, gE, h1, h2, h3⟩ := hc.ok
  exact d_op (pu_cmp h1 h2 ha.tt hb.tt hm) (fzb h3)
noncomputable def rIb (f : Int → Int → Bool) : PV → PV → Option RV
  | .int i, .int j => some (.fz (.bl (f i j)))
  | _, _ => none
theorem rIb_ok {f : Int → Int → Bool} : ∀ x y r, rIb f x y = some r → ∃ p, r = .fz (.bl p) ∧ ∀ Q : PV → Prop, Q (.bl p) → gI0 (fun i j => .bl (f i j)) x y Q := fun x y r h => by
  unfold rIb at h
  split at h
  · cases h; exact ⟨_, rfl, fun _ q => q⟩
  · cases h
noncomputable def rLt : PV → PV → Option RV := rIb fun i j => decide (i < j)
noncomputable def rLe : PV → PV → Option RV := rIb fun i j => decide (i ≤ j)
noncomputable def rGt : PV → PV → Option RV := rIb fun i j => decide (j < i)
noncomputable def rGe : PV → PV → Option RV := rIb fun i j => decide (j ≤ i)
theorem c_lt : CmpR X .Lt rLt := ⟨_, _, op_lt, rf_lt, rIb_ok⟩
theorem c_le : CmpR X .LtE rLe := ⟨_, _, op_le, rf_le, rIb_ok⟩
theorem c_gt : CmpR X .Gt rGt := ⟨_, _, op_gt, rf_gt, rIb_ok⟩
theorem c_ge : CmpR X .GtE rGe := ⟨_, _, op_ge, rf_ge, rIb_ok⟩
noncomputable def rEq (x y : PV) : Option RV := if plain x && plain y && decide (dep x ≤ 50) then some (.fz (.bl (peq x y))) else none
noncomputable def rNe (x y : PV) : Option RV := if plain x && plain y && decide (dep x ≤ 50) then some (.fz (.bl (!peq x y))) else none
theorem c_eq (hu : X.A.units + 64 < cLine) : CmpR X .Eq rEq := ⟨_, _, op_eqP hu, rf_eq, fun x y r h => by
  unfold rEq at h
  split at h
  · next q => cases h; rw [Bool.and_eq_true, Bool.and_eq_true, decide_eq_true_eq] at q; exact ⟨_, rfl, fun _ z => ⟨q.1.1, q.1.2, q.2, z⟩⟩
  · cases h⟩
theorem c_ne (hu : X.A.units + 64 < cLine) : CmpR X .NotEq rNe := ⟨_, _, op_neP hu, rf_ne, fun x y r h => by
  unfold rNe at h
  split at h
  · next q => cases h; rw [Bool.and_eq_true, Bool.and_eq_true, decide_eq_true_eq] at q; exact ⟨_, rfl, fun _ z => ⟨q.1.1, q.1.2, q.2, z⟩⟩
  · cases h⟩
noncomputable def rIn (x y : PV) : Option RV := match items y with
  | some ps => if plain x && plains ps && decide (deps ps ≤ 50) then some (.fz (.bl (pin x ps))) else none
  | none => none
noncomputable def rNotIn (x y : PV) : Option RV := match items y with
  | some ps => if plain x && plains ps && decide (deps ps ≤ 50) then some (.fz (.bl (!pin x ps))) else none
  | none => none
theorem c_in (hu : X.A.units + 64 < cLine) : CmpR X .In rIn := ⟨_, _, op_inP hu, rf_in, fun x y r h => by
  unfold rIn at h
  split at h
  · next ps e =>
    split at h
    · next q => cases h; rw [Bool.and_eq_true, Bool.and_eq_true, decide_eq_true_eq] at q; refine ⟨_, rfl, fun _ z => ?_⟩; unfold gIn OkS; rw [e]; exact ⟨q.1.1, q.1.2, q.2, z⟩
    · cases h
  · cases h⟩
theorem c_notIn (hu : X.A.units + 64 < cLine) : CmpR X .NotIn rNotIn := ⟨_, _, op_notInP hu, rf_notIn, fun x y r h => by
  unfold rNotIn at h
  split at h
  · next ps e =>
    split at h
    · next q => cases h; rw [Bool.and_eq_true, Bool.and_eq_true, decide_eq_true_eq] at q; refine ⟨_, rfl, fun _ z => ?_⟩; unfold gNotIn OkS; rw [e]; exact ⟨q.1.1, q.1.2, q.2, z⟩
    · cases h
  · cases h⟩
noncomputable def rIs (x y : PV) : Option RV := match y with
  | .non => some (.fz (.bl (isNon x)))
  | _ => none
noncomputable def rIsNot (x y : PV) : Option RV := match y with
  | .non => some (.fz (.bl (!isNon x)))
  | _ => none
noncomputable def DB (X : Cx) (e : Expr) (g : FB) : Prop := PuB X e (tBo g)
noncomputable def DW (X : Cx) (e : Expr) (g : FB) : Prop := PuW X e (tBo g)
noncomputable def asB : Option RV → Option Bool
  | some (.fz (.bl b)) => some b
  | _ => none
noncomputable def fT (f : FE) : FB := fun ρ => asB (f ρ)
theorem asB_some {o : Option RV} {b : Bool} (h : asB o = some b) : o = some (.fz (.bl b)) := by
  unfold asB at h
  split at h
  · cases h; rfl
  · cases h
theorem PuB.weak {t t' : PTB} (h : PuB X e t) (w : ∀ ρ Q, t' ρ Q → t ρ Q) : PuB X e t' := PT.weak h fun σ H Q hh_ => hh_.elim fun F ρ Qp er q k => ⟨F, ρ, Qp, er, w ρ Qp q, k⟩
theorem PuW.weak {t t' : PTB} (h : PuW X e t) (w : ∀ ρ Q, t' ρ Q → t ρ Q) : PuW X e t' := PW.weak h fun σ H Q hh_ => hh_.elim fun F ρ Qp er q k => ⟨F, ρ, Qp, er, w ρ Qp q, k⟩
theorem b_cmp {op : CmpOp} {g : PV → PV → Option RV} (hc : CmpR X op g) (ha : DE X a fa) (hb : DE X b fb) (hm : behindInMarks op b = false) : DB X (.Compare a [op] [b] pos) (fT (fOp g fa fb)) := by
  obtain ⟨r, gE, h1, h2, h3⟩ := hc.ok
  refine PuB.weak (pub_cmp h1 h2 ha.tt hb.tt hm) fun ρ Q ⟨z, e, q⟩ => ?_
  obtain ⟨x, y, e1, e2, e3⟩ := bind2 (asB_some e)
  obtain ⟨p, e4, q4⟩ := h3 _ _ _ e3
  cases e4
  exact ⟨x, e1, y, e2, q4 _ q⟩
theorem b_val (h : DE X e f) (hv : ∀ whole, isTrue e X.env whole = (do let v ← whole; standAt e.pos; holding [v] (truthy v)) := by intro _; rfl) : DB X e (fT f) := PuB.weak (pub_val (pt_val h.ee hv)) fun ρ Q ⟨b, e, q⟩ => ⟨_, _, asB_some e, rfl, q⟩
noncomputable def fNotB (g : FB) : FB := fun ρ => (g ρ).map fun b => !b
theorem b_not (h : DB X a ba) : DB X (.UnaryOp .Not a pos) (fNotB ba) := PuB.weak (pub_not h) fun ρ Q ⟨b, e, q⟩ => by
  obtain ⟨b', e1, rfl⟩ := Option.map_eq_some_iff.mp e
  exact ⟨b', e1, q⟩
noncomputable def fAndB (g k : FB) : FB := fun ρ => (g ρ).bind fun b => if b = true then k ρ else some false
noncomputable def fOrB (g k : FB) : FB := fun ρ => (g ρ).bind fun b => if b = true then some true else k ρ
theorem w_and1 (h : DB X a ba) : DW X (.BoolOp .And [a] pos) ba := puw_and1 h
theorem w_or1 (h : DB X a ba) : DW X (.BoolOp .Or [a] pos) ba := puw_or1 h
theorem w_and (ha : DB X a ba) (hb : DW X (.BoolOp .And (b :: rest) pos) bb) : DW X (.BoolOp .And (a :: b :: rest) pos) (fAndB ba bb) := PuW.weak (puw_and ha hb) fun ρ Q ⟨z, e, q⟩ => by
  obtain ⟨x, e1, e2⟩ := Option.bind_eq_some_iff.mp e
  refine ⟨x, e1, ?_⟩
  cases x with
  | true => exact ⟨z, e2, q⟩
  | false => cases e2; exact q
theorem w_or (ha : DB X a ba) (hb : DW X (.BoolOp .Or (b :: rest) pos) bb) : DW X (.BoolOp .Or (a :: b :: rest) pos) (fOrB ba bb) := PuW.weak (puw_or ha hb) fun ρ Q ⟨z, e, q⟩ => by
  obtain ⟨x, e1, e2⟩ := Option.bind_eq_some_iff.mp e
  refine ⟨x, e1, ?_⟩
  cases x with
  | true => cases e2; exact q
  | false => exact ⟨z, e2, q⟩
theorem b_w (h : DW X e ba) : DB X e ba := puw_b h
noncomputable def fFr (f : FE) : FE := fun ρ => (f ρ).bind fun r => r.fr.map .fz
noncomputable def fAndV (f g : FE) : FE := fun ρ => (asB (f ρ)).bind fun b => if b = true then fFr g ρ else some (.fz (.bl false))
noncomputable def fOrV (f g : FE) : FE := fun ρ => (asB (f ρ)).bind fun b => if b = true then some (.fz (.bl true)) else fFr g ρ
theorem fFr_some {ρ : PSt} {r : RV} (h : fFr f ρ = some r) : ∃ p, r = .fz p ∧ tF f ρ (fun x => x = p) := by
  obtain ⟨r', e1, e2⟩ := Option.bind_eq_some_iff.mp h
  obtain ⟨p, e3, rfl⟩ := Option.map_eq_some_iff.mp e2
  exact ⟨p, rfl, r', p, e1, e3, rfl⟩
theorem d_one {op} (h : DE X a f) : DE X (.BoolOp op [a] pos) (fFr f) := .ofE (pu_one h.ee) fun ρ r e => fFr_some e
theorem d_and (ha : DE X a fa) (hb : DE X (.BoolOp .And (b :: rest) pos) fb) : DE X (.BoolOp .And (a :: b :: rest) pos) (fAndV fa fb) := .ofE (pu_and ha.ee hb.ee) fun ρ r e => by
  obtain ⟨x, e1, e2⟩ := Option.bind_eq_some_iff.mp e
  cases x with
  | true =>
    rw [if_pos rfl] at e2
    obtain ⟨p, e3, q⟩ := fFr_some e2
    refine ⟨p, e3, _, _, asB_some e1, rfl, ?_⟩
    exact q
  | false =>
    rw [if_neg Bool.false_ne_true] at e2
    cases e2
    exact ⟨_, rfl, _, _, asB_some e1, rfl, rfl⟩
noncomputable def fNotV (f : FE) : FE := fun ρ => (asB (f ρ)).map fun b => .fz (.bl (!b))
theorem d_not (ha : DE X a fa) : DE X (.UnaryOp .Not a pos) (fNotV fa) := .ofE (pu_not ha.ee) fun ρ r e => by
  obtain ⟨b, e1, rfl⟩ := Option.map_eq_some_iff.mp e
  exact ⟨_, rfl, _, _, asB_some e1, rfl, rfl⟩
noncomputable def fNeg (f : FE) : FE := fun ρ => (f ρ).bind fun r => match r.fr with
  | some (.int i) => some (.fz (.int (-i)))
  | _ => none
theorem d_neg (ha : DE X a fa) : DE X (.UnaryOp .USub a pos) (fNeg fa) := .ofE (pu_neg ha.ee) fun ρ r e => by
  obtain ⟨x, e1, e2⟩ := Option.bind_eq_some_iff.mp e
  split at e2
  · next i e3 => cases e2; exact ⟨_, rfl, x, _, e1, e3, rfl⟩
  · cases e2
noncomputable def fIf (g : FB) (f k : FE) : FE := fun ρ => (g ρ).bind fun b => if b = true then fFr f ρ else fFr k ρ
noncomputable def fCh (g g' : PV → PV → Option RV) (a b c : FE) : FE := fun ρ => (a ρ).bind fun x => (b ρ).bind fun y => (asB (g x.pv y.pv)).bind fun k => if k = true then (c ρ).bind fun z => g' y.pv z.pv else some (.fz (.bl false))
theorem ch_ok {g g' : PV → PV → Option RV} {gE gE' : PG2} (h : ∀ x y r, g x y = some r → ∃ p, r = .fz (.bl p) ∧ ∀ Q : PV → Prop, Q (.bl p) → gE x y Q) (h' : ∀ x y r, g' x y = some r → ∃ p, r = .fz (.bl p) ∧ ∀ Q : PV → Prop, Q (.bl p) → gE' x y Q) {ρ : PSt} {r : RV} (e : fCh g g' fa fb fc ρ = some r) :
    ∃ p, r = .fz (.bl p) ∧ ∀ Q : PV → Prop, Q (.bl p) → pChain gE gE' (tT fa) (tT fb) (tT fc) ρ Q := by
  obtain ⟨x, y, e1, e2, e3⟩ := bind2 e
  obtain ⟨k, e4, e5⟩ := Option.bind_eq_some_iff.mp e3
  obtain ⟨p, e6, q6⟩ := h _ _ _ (asB_some e4)
  cases e6
  cases k with
  | true =>
    rw [if_pos rfl] at e5
    obtain ⟨z, e7, e8⟩ := Option.bind_eq_some_iff.mp e5
    obtain ⟨p, e9, q9⟩ := h' _ _ _ e8
    refine ⟨p, e9, fun Q q => ⟨x, e1, y, e2, q6 _ ?_⟩⟩
    exact ⟨z, e7, q9 _ q⟩
  | false =>
    rw [if_neg Bool.false_ne_true] at e5
    cases e5
    exact ⟨_, rfl, fun Q q => ⟨x, e1, y, e2, q6 _ q⟩⟩
theorem d_ch {op op' : CmpOp} {g g' : PV → PV → Option RV} (h : CmpR X op g) (h' : CmpR X op' g') (ha : DE X a fa) (hb : DE X b fb) (hc : DE X c fc) (hm : lastMarks [op, op'] [b, c] = false := by rfl) : DE X (.Compare a [op, op'] [b, c] pos) (fCh g g' fa fb fc) := by
  obtain ⟨r, gE, h1, h2, h3⟩ := h.ok
  obtain ⟨r', gE', h1', h2', h3'⟩ := h'.ok
  refine .ofE (pu_chain h1 h2 h1' h2' ha.tt hb.tt hc.tt hm) fun ρ r e => ?_
  obtain ⟨p, e1, q⟩ := ch_ok h3 h3' e
  exact ⟨_, e1, q _ rfl⟩
structure DA (X : Cx) (es : List Expr) (fs : FA) : Prop where
  f : PuA X es (tFs fs)
  t : PuAT X es (tTs fs)
noncomputable def fNil : FA := fun _ => some []
noncomputable def fCons (f : FE) (fs : FA) : FA := fun ρ => (f ρ).bind fun r => (fs ρ).bind fun rs => some (r :: rs)
theorem PuA_weak {t t' : PTA} (h : PuA X es t) (w : ∀ ρ Q, t' ρ Q → t ρ Q) : PuA X es t' := PA.weak h fun σ H Q hh_ => hh_.elim fun F ρ Qp er q k => ⟨F, ρ, Qp, er, w ρ Qp q, k⟩
theorem PuAT_weak {t t' : PTA} (h : PuAT X es t) (w : ∀ ρ Q, t' ρ Q → t ρ Q) : PuAT X es t' := PA.weak h fun σ H Q hh_ => hh_.elim fun F ρ Qp er q k => ⟨F, ρ, Qp, er, w ρ Qp q, k⟩
theorem mapM_cons {r : RV} {rs : List RV} {ps : List PV} (h : (r :: rs).mapM RV.fr = some ps) : ∃ p qs, r.fr = some p ∧ rs.mapM RV.fr = some qs ∧ ps = p :: qs := by
  rw [List.mapM_cons] at h
  obtain ⟨p, e1, h⟩ := Option.bind_eq_some_iff.mp h
  obtain ⟨qs, e2, h⟩ := Option.bind_eq_some_iff.mp h
  cases h
  exact ⟨p, qs, e1, e2, rfl⟩
theorem a_nil : DA X [] fNil := ⟨PuA_weak pua_nil fun ρ Q ⟨rs, ps, e, e2, q⟩ => by cases e; cases e2; exact q, PuAT_weak puat_nil fun ρ Q ⟨rs, e, q⟩ => by cases e; exact q⟩
theorem a_cons (hn : NS e) (he : DE X e f) (ht : DA X es fs) : DA X (e :: es) (fCons f fs) := by
  constructor
  · refine PuA_weak (pua_cons hn he.ee ht.f) fun ρ Q ⟨rs, ps, e1, e2, q⟩ => ?_
    obtain ⟨r, e3, e1⟩ := Option.bind_eq_some_iff.mp e1
    obtain ⟨rs', e4, e1⟩ := Option.bind_eq_some_iff.mp e1
    cases e1
    obtain ⟨p, qs, e5, e6, rfl⟩ := mapM_cons e2
    exact ⟨r, p, e3, e5, rs', qs, e4, e6, q⟩
  · refine PuAT_weak (puat_cons hn he.tt ht.t) fun ρ Q ⟨rs, e1, q⟩ => ?_
    obtain ⟨r, e3, e1⟩ := Option.bind_eq_some_iff.mp e1
    obtain ⟨rs', e4, e1⟩ := Option.bind_eq_some_iff.mp e1
    cases e1
    exact ⟨r, e3, rs', e4, q⟩
noncomputable def fTup (fs : FA) : FE := fun ρ => (fs ρ).bind fun rs => (rs.mapM RV.fr).bind fun ps => if ps.length ≤ 100000 then some (.fz (.tup ps)) else none
noncomputable def fLst (fs : FA) : FE := fun ρ => (fs ρ).bind fun rs => (rs.mapM RV.fr).bind fun ps => if ps.length ≤ 100000 then some (.nw ps) else none
theorem d_tup {x1} (h : DA X es fs) : DE X (.Tuple es x1 pos) (fTup fs) := .ofE (pu_tup h.f) fun ρ r e => by
  obtain ⟨rs, e1, e⟩ := Option.bind_eq_some_iff.mp e
  obtain ⟨ps, e2, e⟩ := Option.bind_eq_some_iff.mp e
  split at e
  · next z => cases e; exact ⟨_, rfl, rs, ps, e1, e2, big z, rfl⟩
  · cases e
theorem d_lst (h : DA X es fs) : DE X (.List es pos) (fLst fs) := .ofN (pu_lst h.f) fun ρ r e => by
  obtain ⟨rs, e1, e⟩ := Option.bind_eq_some_iff.mp e
  obtain ⟨ps, e2, e⟩ := Option.bind_eq_some_iff.mp e
  split at e
  · next z => cases e; exact ⟨_, rfl, rs, ps, e1, e2, big z, rfl⟩
  · cases e
noncomputable def rIx : PV → PV → Option RV
  | .str z, .int i => if z.length ≤ 100000 then (L2.atI z.cps.toList i).map fun c => .fz (.str ⟨#[c]⟩) else none
  | p, .int i => (items p).bind fun ps => (L2.atI ps i).map .fz
  | _, _ => none
theorem rIx_ok : ∀ x y r, rIx x y = some r → ∃ p, r = .fz p ∧ gIx x y (fun z => z = p) := fun x y r h => by
  unfold rIx at h
  split at h
  · split at h
    · next z =>
      obtain ⟨c, e1, rfl⟩ := Option.map_eq_some_iff.mp h
      refine ⟨_, rfl, big z, ?_⟩
      rw [e1]; exact rfl
    · cases h
  · next hn =>
    obtain ⟨ps, e1, h⟩ := Option.bind_eq_some_iff.mp h
    obtain ⟨p, e2, rfl⟩ := Option.map_eq_some_iff.mp h
    refine ⟨p, rfl, ?_⟩
    have : ∀ i : Int, L2.atI ps i = some p → OkS x fun ps => OkO (L2.atI ps i) fun z => z = p := fun i ei => by
      unfold OkS; rw [e1]; show OkO (L2.atI ps i) _; rw [ei]; exact rfl
    show OkI (.int _) _
    cases x <;> first | exact this _ e2 | (cases e1)
  · cases h
theorem d_ix (ha : DE X a fa) (hb : DE X b fb) (hs : PlainIx b) : DE X (.Subscript a b pos) (fOp rIx fa fb) := d_op (pu_ix ha.tt hb.tt hs) rIx_ok
noncomputable abbrev FO := PSt → Option (Option Int)
noncomputable def tO (f : FO) : PTO := fun ρ Q => ∃ o, f ρ = some o ∧ Q o
noncomputable def DO (X : Cx) (e : Option Expr) (f : FO) : Prop := PuO X e (tO f)
noncomputable def fNo : FO := fun _ => some none
noncomputable def fPt (f : FE) : FO := fun ρ => (f ρ).bind fun r => match r.fr with
  | some (.int i) => some (some i)
  | _ => none
theorem PuO_weak {o : Option Expr} {t t' : PTO} (h : PuO X o t) (w : ∀ ρ Q, t' ρ Q → t ρ Q) : PuO X o t' := PO.weak h fun σ H Q hh_ => hh_.elim fun F ρ Qp er q k => ⟨F, ρ, Qp, er, w ρ Qp q, k⟩
theorem o_no : DO X none fNo := PuO_weak puo_none fun ρ Q ⟨o, e, q⟩ => by cases e; exact q
theorem o_pt (h : DE X e f) : DO X (some e) (fPt f) := PuO_weak (puo_some h.ee) fun ρ Q ⟨o, e, q⟩ => by
  obtain ⟨r, e1, e2⟩ := Option.bind_eq_some_iff.mp e
  split at e2
  · next i e3 => cases e2; exact ⟨r, _, e1, e3, q⟩
  · cases e2
noncomputable def rSl (p : PV) (l h : Option Int) : Option RV := match p with
  | .lst ps => some (.nw (cut ps l h))
  | .src ps => some (.nw (cut ps l h))
  | .tup ps => if HT.sIx ps.length 0 l = 0 ∧ HT.sIx ps.length ps.length h = ps.length then none else some (.fz (.tup (cut ps l h)))
  | _ => none
noncomputable def fSl (f : FE) (l h : FO) : FE := fun ρ => (f ρ).bind fun r => (l ρ).bind fun lo => (h ρ).bind fun hi => rSl r.pv lo hi
theorem d_sl {lo hi : Option Expr} {fl fh : FO} {p2 : Pos} (ha : DE X a fa) (hl : DO X lo fl) (hh : DO X hi fh) : DE X (.Subscript a (.Slice lo hi none p2) pos) (fSl fa fl fh) := .of2 (pu_slT ha.tt hl hh) (pu_slL ha.tt hl hh) fun ρ r e => by
  obtain ⟨x, e1, e⟩ := Option.bind_eq_some_iff.mp e
  obtain ⟨l, e2, e⟩ := Option.bind_eq_some_iff.mp e
  obtain ⟨h, e3, e⟩ := Option.bind_eq_some_iff.mp e
  unfold rSl at e
  split at e
  · next ps q => cases e; exact .inr ⟨_, rfl, x, e1, l, e2, h, e3, by rw [q]; exact rfl⟩
  · next ps q => cases e; exact .inr ⟨_, rfl, x, e1, l, e2, h, e3, by rw [q]; exact rfl⟩
  · next ps q =>
    split at e
    · cases e
    · next z => cases e; exact .inl ⟨_, rfl, x, e1, l, e2, h, e3, by rw [q]; exact ⟨z, rfl⟩⟩
  · cases e
end
end Dp
end
section
namespace Dp
open PySem PySem.Spec L2 Pu
section
variable {X : Cx} {e a b c tg iter : Expr} {es rest : List Expr} {pos : Pos} {f fa fb fc : FE} {fs : FA} {i : Nat} {ba bb : FB}
noncomputable def fB (g : List PV → Option RV) (fs : FA) : FE := fun ρ => (fs ρ).bind fun rs => g (rs.map RV.pv)
theorem d_cb {r : List V → Hp → VK → Prop} {g0 : PGC} {g : List PV → Option RV} (hr : RefC X.K r g0) (w : ∀ ps r, g ps = some r → ∃ p, r = .fz p ∧ g0 ps (fun z => z = p)) (h : PE X e (tCB r (lAT X.K (tTs fs)))) : DE X e (fB g fs) := .ofE (pu_cb hr h) fun ρ r e => by
  obtain ⟨rs, e1, e2⟩ := Option.bind_eq_some_iff.mp e
  obtain ⟨p, rfl, q⟩ := w _ _ e2
  exact ⟨p, rfl, rs, e1, q⟩
theorem d_cn {r : List V → Hp → VK → Prop} {g0 : PGN} {g : List PV → Option RV} (hr : RefN X.K r g0) (w : ∀ ps r, g ps = some r → ∃ p, r = .nw p ∧ g0 ps (fun z => z = p)) (h : PE X e (tCB r (lAT X.K (tTs fs)))) : DE X e (fB g fs) := .ofN (pu_cn hr h) fun ρ r e => by
  obtain ⟨rs, e1, e2⟩ := Option.bind_eq_some_iff.mp e
  obtain ⟨p, rfl, q⟩ := w _ _ e2
  exact ⟨p, rfl, rs, e1, q⟩
noncomputable def kLen : List PV → Option RV
  | [.str z] => if z.length ≤ 100000 then some (.fz (.int z.length)) else none
  | [p] => (items p).map fun ps => .fz (.int ps.length)
  | _ => none
theorem kLen_ok : ∀ ps r, kLen ps = some r → ∃ p, r = .fz p ∧ cLen ps (fun z => z = p) := fun ps r h => by
  unfold kLen at h
  split at h
  · split at h
    · next z => cases h; exact ⟨_, rfl, big z, rfl⟩
    · cases h
  · next p hp =>
    obtain ⟨qs, e1, rfl⟩ := Option.map_eq_some_iff.mp h
    refine ⟨_, rfl, ?_⟩
    have : OkS p fun ps => PV.int ps.length = PV.int qs.length := by unfold OkS; rw [e1]
    show One [p] _
    cases p <;> first | exact this | (cases e1)
  · cases h
noncomputable def kAbs : List PV → Option RV
  | [.int i] => some (.fz (.int (if i < 0 then -i else i)))
  | _ => none
theorem kAbs_ok : ∀ ps r, kAbs ps = some r → ∃ p, r = .fz p ∧ cAbs ps (fun z => z = p) := fun ps r h => by
  unfold kAbs at h
  split at h
  · cases h; exact ⟨_, rfl, rfl⟩
  · cases h
noncomputable def kMax2 : List PV → Option RV
  | [.int i, .int j] => some (.fz (.int (if j > i then j else i)))
  | _ => none
theorem kMax2_ok : ∀ ps r, kMax2 ps = some r → ∃ p, r = .fz p ∧ cMax2 ps (fun z => z = p) := fun ps r h => by
  unfold kMax2 at h
  split at h
  · cases h; exact ⟨_, rfl, rfl⟩
  · cases h
noncomputable def kMin2 : List PV → Option RV
  | [.int i, .int j] => some (.fz (.int (if j < i then j else i)))
  | _ => none
theorem kMin2_ok : ∀ ps r, kMin2 ps = some r → ∃ p, r = .fz p ∧ cMin2 ps (fun z => z = p) := fun ps r h => by
  unfold kMin2 at h
  split at h
  · cases h; exact ⟨_, rfl, rfl⟩
  · cases h
noncomputable def kInt : List PV → Option RV
  | [.int i] => some (.fz (.int i))
  | [.bl b] => some (.fz (.int (if b then 1 else 0)))
  | _ => none
theorem kInt_ok : ∀ ps r, kInt ps = some r → ∃ p, r = .fz p ∧ cInt ps (fun z => z = p) := fun ps r h => by
  unfold kInt at h
  split at h
  · cases h; exact ⟨_, rfl, rfl⟩
  · cases h; exact ⟨_, rfl, rfl⟩
  · cases h
noncomputable def bls : List PV → Option (List Bool)
  | [] => some []
  | .bl b :: ps => (bls ps).map fun bs => b :: bs
  | _ => none
theorem bls_ok : ∀ {ps : List PV} {bs : List Bool}, bls ps = some bs → ps = bs.map PV.bl := fun {ps} => by
  induction ps with
  | nil => intro bs h; cases h; rfl
  | cons p ps ih =>
    intro bs h
    cases p <;> first | (cases h; done) | skip
    obtain ⟨bs', e1, rfl⟩ := Option.map_eq_some_iff.mp h
    rw [ih e1]; rfl
noncomputable def lstOf : PV → Option (List PV)
  | .lst ps => some ps
  | .src ps => some ps
  | _ => none
noncomputable def kAll : List PV → Option RV
  | [p] => (lstOf p).bind fun ps => (bls ps).map fun bs => .fz (.bl (bs.all id))
  | _ => none
noncomputable def kAny : List PV → Option RV
  | [p] => (lstOf p).bind fun ps => (bls ps).map fun bs => .fz (.bl (bs.any id))
  | _ => none
theorem lstOf_ok {p : PV} {ps : List PV} {Q : List PV → Prop} (h : lstOf p = some ps) (q : Q ps) : OkL p Q := by
  cases p <;> first | (cases h; done) | (cases h; exact q)
theorem kAll_ok : ∀ ps r, kAll ps = some r → ∃ p, r = .fz p ∧ cAll ps (fun z => z = p) := fun ps r h => by
  unfold kAll at h
  split at h
  · obtain ⟨qs, e1, h⟩ := Option.bind_eq_some_iff.mp h
    obtain ⟨bs, e2, rfl⟩ := Option.map_eq_some_iff.mp h
    refine ⟨_, rfl, lstOf_ok e1 ?_⟩
    rw [bls_ok e2, OkBs_map]
  · cases h
noncomputable def kTup : List PV → Option RV
  | [.lst ps] => some (.fz (.tup ps))
  | [.tup ps] => some (.fz (.tup ps))
  | [.src ps] => some (.fz (.tup ps))
  | _ => none
theorem kTup_ok : ∀ ps r, kTup ps = some r → ∃ p, r = .fz p ∧ cTup ps (fun z => z = p) := fun ps r h => by
  unfold kTup at h
  split at h
  · cases h; exact ⟨_, rfl, rfl⟩
  · cases h; exact ⟨_, rfl, rfl⟩
  · cases h; exact ⟨_, rfl, rfl⟩
  · cases h
noncomputable def kList : List PV → Option RV
  | [.rng lo j] => if lo = 0 ∧ 0 ≤ j ∧ j ≤ 1000000 then some (.nw (ups 0 j.toNat)) else none
  | [p] => (items p).map .nw
  | _ => none
theorem kLst_ok : ∀ ps r, kList ps = some r → ∃ p, r = .nw p ∧ (cLst ps (fun z => z = p) ∨ cLstR ps (fun z => z = p)) := fun ps r h => by
  unfold kList at h
  split at h
  · split at h
    · next z => cases h; exact ⟨_, rfl, .inr ⟨z.1, z.2.1, z.2.2, rfl⟩⟩
    · cases h
  · next p hp =>
    obtain ⟨qs, e1, rfl⟩ := Option.map_eq_some_iff.mp h
    refine ⟨_, rfl, .inl ?_⟩
    show OkS p _
    unfold OkS; rw [e1]
  · cases h
theorem d_list {x : Str} {p : Pos} (hx : x = "list") (h1 : PE X e (tCB (fun xs H Q => ∃ p ys, xs = [.ref p] ∧ (SqL X.K H p ys ∨ SqT X.K H p ys) ∧ ∀ l, H l = none → Q (.ref l) (upd H l (.lst ys))) (lAT X.K (tTs fs))))
    (h2 : PE X e (tCB (fun xs H Q => ∃ p j, xs = [.ref p] ∧ H p = some (.rng 0 j) ∧ 0 ≤ j ∧ j ≤ 1000000 ∧ ∀ l, H l = none → Q (.ref l) (upd H l (.lst (upTo j.toNat)))) (lAT X.K (tTs fs)))) : DE X e (fB kList fs) := .ofN (PuN_or (pu_cn rc_lst h1) (pu_cn rc_lstR h2)) fun ρ r e => by
  obtain ⟨rs, e1, e2⟩ := Option.bind_eq_some_iff.mp e
  obtain ⟨p, rfl, q⟩ := kLst_ok _ _ e2
  exact ⟨p, rfl, q.elim (fun q => .inl ⟨rs, e1, q⟩) fun q => .inr ⟨rs, e1, q⟩⟩
noncomputable def kRng : List PV → Option RV
  | [.int j] => if -(2 ^ 62) ≤ j ∧ j < 2 ^ 62 then some (.fz (.rng 0 j)) else none
  | _ => none
theorem kRng_ok : ∀ ps r, kRng ps = some r → ∃ p, r = .fz p ∧ cRng ps (fun z => z = p) := fun ps r h => by
  unfold kRng at h
  split at h
  · split at h
    · next z => cases h; exact ⟨_, rfl, z.1, z.2, rfl⟩
    · cases h
  · cases h
noncomputable def kIs : List PV → Option RV
  | [p, .ty n] => if n = "int" ∨ n = "bool" ∨ n = "str" ∨ n = "tuple" ∨ n = "list" ∨ n = "dict" then (isI n p).map fun b => .fz (.bl b) else none
  | _ => none
theorem kIs_ok : ∀ ps r, kIs ps = some r → ∃ p, r = .fz p ∧ cIsI ps (fun z => z = p) := fun ps r h => by
  unfold kIs at h
  split at h
  · split at h
    · next z =>
      obtain ⟨b, e1, rfl⟩ := Option.map_eq_some_iff.mp h
      refine ⟨_, rfl, z, ?_⟩
      rw [e1]; exact rfl
    · cases h
  · cases h
noncomputable def intsOf : List PV → Option (List Int)
  | [] => some []
  | .int i :: ps => (intsOf ps).map fun is => i :: is
  | _ => none
noncomputable def keysOf : List PV → Option (List (List Int))
  | [] => some []
  | .tup qs :: ps => (intsOf qs).bind fun is => if is.isEmpty then none else (keysOf ps).map fun ks => is :: ks
  | _ => none
theorem intsOf_ok : ∀ {ps : List PV} {is : List Int}, intsOf ps = some is → ps = is.map PV.int := fun {ps} => by
  induction ps with
  | nil => intro bs h; cases h; rfl
  | cons p ps ih =>
    intro bs h
    cases p <;> first | (cases h; done) | skip
    obtain ⟨bs', e1, rfl⟩ := Option.map_eq_some_iff.mp h
    rw [ih e1]; rfl
theorem intsOf_map (is : List Int) : intsOf (is.map PV.int) = some is := by
  induction is with
  | nil => rfl
  | cons b bs ih => rw [List.map_cons, intsOf, ih]; rfl
theorem reps_int {K : PySem.W.Frag} {F : Hp} : ∀ {is : List Int} {vs : List V}, Reps K F (is.map PV.int) vs → vs = is.map V.int
  | [], _, h => h
  | i :: is, _, ⟨v, r, e, h, t⟩ => by rw [e, show v = V.int i from h, reps_int t]; rfl
noncomputable def kSorted : List PV → Option RV
  | [p] => (lstOf p).bind fun ps => (keysOf ps).bind fun ks => if ps.length < 64 then some (.nw ((ordI ks).map fun i => ps.getD i .non)) else none
  | _ => none
noncomputable def cSortedT : PGN := fun ps Q => One ps fun p => OkL p fun ps => ∃ ks, keysOf ps = some ks ∧ ps.length < 64 ∧ Q ((ordI ks).map fun i => ps.getD i .non)
theorem keys_in {K : PySem.W.Frag} {F H : Hp} (s : Same F H) : ∀ {ps : List PV} {vs : List V} {ks : List (List Int)}, Reps K F ps vs → keysOf ps = some ks → TupsIn H vs ks
  | [], _, _, h, e => by rw [show _ = [] from h]; cases e; exact .nil
  | p :: ps, _, _, ⟨v, r, ev, h, t⟩, e => by
    subst ev
    cases p <;> first | (cases e; done) | skip
    rw [keysOf] at e
    obtain ⟨is, e1, e⟩ := Option.bind_eq_some_iff.mp e
    split at e
    · cases e
    · next ne =>
      obtain ⟨ks, e2, rfl⟩ := Option.map_eq_some_iff.mp e
      obtain ⟨a, vs, rfl, h1, h2⟩ := h
      rw [intsOf_ok e1] at h2
      rw [reps_int h2] at h1
      exact .cons (s _ _ h1) (by intro z; subst z; exact absurd rfl ne) (keys_in s t e2)
theorem reps_at {K : PySem.W.Frag} {F : Hp} {ps : List PV} {vs : List V} (h : Reps K F ps vs) : ∀ {l : List Nat}, (∀ i ∈ l, i < ps.length) → Reps K F (l.map fun i => ps.getD i .non) (l.map fun i => vs.getD i .non)
  | [], _ => rfl
  | i :: l, hl => by
    have hi := hl i List.mem_cons_self
    obtain ⟨v, ev, rv⟩ := h.get (List.getElem?_eq_getElem hi)
    refine ⟨v, _, ?_, ?_, reps_at h fun j hj => hl j (List.mem_cons_of_mem _ hj)⟩
    · rw [List.map_cons, List.getD_eq_getElem?_getD, ev]; rfl
    · show Rep K F (ps.getD i .non) v
      rw [List.getD_eq_getElem?_getD, List.getElem?_eq_getElem hi]; exact rv
theorem keys_len : ∀ {ps : List PV} {ks : List (List Int)}, keysOf ps = some ks → ks.length = ps.length := fun {ps} => by
  induction ps with
  | nil => intro bs h; cases h; rfl
  | cons p ps ih =>
    intro ks e
    cases p <;> first | (cases e; done) | skip
    rw [keysOf] at e
    obtain ⟨is, e1, e⟩ := Option.bind_eq_some_iff.mp e
    split at e
    · cases e
    · obtain ⟨ks, e2, rfl⟩ := Option.map_eq_some_iff.mp e
      rw [List.length_cons, List.length_cons, ih e2]
theorem rc_sortedT : RefN X.K (fun xs H Q => ∃ p ts ks, xs = [.ref p] ∧ SqL X.K H p ts ∧ ts.length < 64 ∧ TupsIn H ts ks ∧ ∀ l, H l = none → Q (.ref l) (upd H l (.lst ((ordI ks).map fun i => ts.getD i .non)))) cSortedT := fun F H xs ps Qp Q s r h k => by
  obtain ⟨p, v, rfl, rfl, r, h⟩ := h.rd r
  obtain ⟨a, vs, ps, rfl, hs, rs, ks, e, h64, h⟩ := h.rd s r
  refine ⟨a, vs, ks, rfl, hs, by rw [rs.length]; exact h64, keys_in s rs e, fun l hl => ?_⟩
  have hk := keys_len e
  refine k _ l _ F _ h (.newO s hl _) hl (s.free hl) upd_same (reps_at rs fun i hi => ?_)
  have := (ordI_perm ks).subset hi
  rw [List.mem_range] at this
  omega
theorem kSorted_ok : ∀ ps r, kSorted ps = some r → ∃ p, r = .nw p ∧ cSortedT ps (fun z => z = p) := fun ps r h => by
  unfold kSorted at h
  split at h
  · obtain ⟨qs, e1, h⟩ := Option.bind_eq_some_iff.mp h
    obtain ⟨ks, e2, h⟩ := Option.bind_eq_some_iff.mp h
    split at h
    · next z => cases h; exact ⟨_, rfl, lstOf_ok e1 ⟨ks, e2, z, rfl⟩⟩
    · cases h
  · cases h
mutual
noncomputable def tf : PV → Bool
  | .tup ps => tfs ps
  | p => isFlat p
noncomputable def tfs : List PV → Bool
  | [] => true
  | p :: ps => tf p && tfs ps
end
noncomputable def tfR : PR → Bool
  | .v p => tf p
  | .n ps => tfs ps
noncomputable def withT (F1 F2 : Hp) : Hp := fun b => match F2 b with
  | some (.tup vs) => some (.tup vs)
  | _ => F1 b
mutual
theorem rep_tf {K : PySem.W.Frag} {F1 F2 : Hp} : ∀ {p : PV} {v : V}, tf p = true → Rep K F2 p v → Rep K (withT F1 F2) p v
  | .tup ps, v, h, ⟨a, vs, e, h1, h2⟩ => by
    rw [tf] at h
    refine ⟨a, vs, e, ?_, reps_tf h h2⟩
    unfold withT; rw [h1]
  | .non, _, _, r => r
  | .bl _, _, _, r => r
  | .int _, _, _, r => r
  | .str _, _, _, r => r
  | .ty _, _, _, r => r
  | .fn _, _, _, r => r
  | .lst _, _, h, _ => by cases h
  | .dct _ _, _, h, _ => by cases h
  | .src _, _, h, _ => by cases h
  | .ktu _, _, h, _ => by cases h
  | .rng _ _, _, h, _ => by cases h
theorem reps_tf {K : PySem.W.Frag} {F1 F2 : Hp} : ∀ {ps : List PV} {vs : List V}, tfs ps = true → Reps K F2 ps vs → Reps K (withT F1 F2) ps vs
  | [], _, _, r => r
  | p :: ps, _, h, ⟨v, t, e, r1, r2⟩ => by
    rw [tfs, Bool.and_eq_true] at h
    exact ⟨v, t, e, rep_tf h.1 r1, reps_tf h.2 r2⟩
end
theorem grow_T {F1 H1 F2 H2 : Hp} (s : Same F1 H1) (g : Grow H1 H1 F2 H2) : Grow F1 H1 (withT F1 F2) H2 := by
  refine ⟨g.hh, fun b o e => ?_, fun b o e => ?_, fun b o e => ?_⟩
  · have h2 := g.ff b o (s b o e)
    unfold withT
    cases o <;> rw [h2] <;> first | rfl | exact e
  · unfold withT at e
    split at e
    · next vs h => rw [← e]; exact g.fh b _ h
    · exact g.hh b o (s b o e)
  · unfold withT at e
    split at e
    · cases e; exact .inr (.inr ⟨_, rfl⟩)
    · exact .inl e
theorem withT_none {F1 F2 : Hp} {a : Addr} (h1 : F1 a = none) (h2 : F2 a = none) : withT F1 F2 a = none := by unfold withT; rw [h2]; exact h1
noncomputable def pCallT2 (φ : PSp) (t : PTA) : PTE := fun ρ Q => t ρ fun ps => φ ps fun r => tfR r = true ∧ Q r.pv
noncomputable def pCallTN2 (φ : PSp) (t : PTA) : PTN := fun ρ Q => t ρ fun ps => φ ps fun r => tfR r = true ∧ OkN r Q
theorem pu_callT2 {φ : PSp} {t : PTA} (h : PE X e (tCall (spP X.K φ) [] E0 (lAT X.K t))) : PuE X e (pCallT2 φ t) := PE.weak h fun σ H Q hh_ => hh_.elim fun F ρ Qp er q k => ⟨F, ρ, _, er, q, fun ps vs F1 H1 h1 g1 r1 => by
  show spP X.K φ (vs ++ []) H1 Q E0
  rw [List.append_nil]
  refine ⟨H1, ps, _, Same.refl _, r1.all g1.fh, h1, fun r v F2 H2 h2 g2 rr => ?_⟩
  have gk := grow_T g1.fh g2
  cases r with
  | v p => exact k p _ _ H2 h2.2 (g1.trans gk) (rep_tf h2.1 rr)
  | n ps =>
    obtain ⟨a, vs, rfl, h0, hF, hH, rs⟩ := rr
    have hF1 := withT_none (g1.fh.free h0) hF
    exact k (.lst ps) _ _ H2 h2.2 ((g1.trans gk).freeze (g1.hh.free h0) hF1 hH) ⟨a, vs, rfl, upd_same, (reps_tf h2.1 rs).mono (same_new hF1 _)⟩⟩
theorem pu_callTN2 {φ : PSp} {t : PTA} (h : PE X e (tCall (spP X.K φ) [] E0 (lAT X.K t))) : PuN X e (pCallTN2 φ t) := PE.weak h fun σ H Q hh_ => hh_.elim fun F ρ Qp er q k => ⟨F, ρ, _, er, q, fun ps vs F1 H1 h1 g1 r1 => by
  show spP X.K φ (vs ++ []) H1 Q E0
  rw [List.append_nil]
  refine ⟨H1, ps, _, Same.refl _, r1.all g1.fh, h1, fun r v F2 H2 h2 g2 rr => ?_⟩
  have gk := grow_T g1.fh g2
  cases r with
  | v p => exact h2.2.elim
  | n ps =>
    obtain ⟨a, vs, rfl, h0, hF, hH, rs⟩ := rr
    exact k ps a vs _ H2 h2.2 (g1.trans gk) (g1.hh.free h0) (withT_none (g1.fh.free h0) hF) hH (reps_tf h2.1 rs)⟩
noncomputable def fnP (F : List PV → Option PR) : PSp := fun qs Q => ∃ r, F qs = some r ∧ Q r
noncomputable def rvOf : PR → RV
  | .v p => .fz p
  | .n ps => .nw ps
noncomputable def fCall (F : List PV → Option PR) (fs : FA) : FE := fun ρ => (fs ρ).bind fun rs => match rs.mapM RV.fr with
  | some ps => (F ps).map rvOf
  | none => (F (rs.map RV.pv)).bind fun r => if tfR r = true then some (rvOf r) else none
theorem d_call {F : List PV → Option PR} (h1 : PE X e (tCall (spP X.K (fnP F)) [] E0 (lA X.K (tFs fs)))) (h2 : PE X e (tCall (spP X.K (fnP F)) [] E0 (lAT X.K (tTs fs)))) : DE X e (fCall F fs) :=
  .of2 (PuE_or (pu_call h1) (pu_callT2 h2)) (PuN_or (pu_callN h1) (pu_callTN2 h2)) fun ρ r e => by
    obtain ⟨rs, e1, e2⟩ := Option.bind_eq_some_iff.mp e
    split at e2
    · next ps ep =>
      obtain ⟨q, e3, rfl⟩ := Option.map_eq_some_iff.mp e2
      cases q with
      | v p => exact .inl ⟨p, rfl, .inl ⟨rs, ps, e1, ep, .v p, e3, rfl⟩⟩
      | n qs => exact .inr ⟨qs, rfl, .inl ⟨rs, ps, e1, ep, .n qs, e3, rfl⟩⟩
    · obtain ⟨q, e3, e4⟩ := Option.bind_eq_some_iff.mp e2
      split at e4
      · next hf =>
        cases e4
        cases q with
        | v p => exact .inl ⟨p, rfl, .inr ⟨rs, e1, .v p, e3, hf, rfl⟩⟩
        | n qs => exact .inr ⟨qs, rfl, .inr ⟨rs, e1, .n qs, e3, hf, rfl⟩⟩
      · cases e4
noncomputable def DI (X : Cx) (tg iter : Expr) (f : FI) : Prop := PuI X tg iter (tIt f)
theorem PuI_weak {t t' : PTI} (h : PuI X tg iter t) (w : ∀ ρ Q, t' ρ Q → t ρ Q) : PuI X tg iter t' := PI.weak h fun σ H Q hh_ => hh_.elim fun F ρ Qp er q k => ⟨F, ρ, Qp, er, w ρ Qp q, k⟩
theorem PuI_or {t u : PTI} (h : PuI X tg iter t) (h' : PuI X tg iter u) : PuI X tg iter (fun ρ Q => t ρ Q ∨ u ρ Q) := fun pins s σ H Q I hh_ => hh_.elim fun F ρ Qp er q k => q.elim (fun q => h pins s σ H Q I ⟨F, ρ, Qp, er, q, k⟩) fun q => h' pins s σ H Q I ⟨F, ρ, Qp, er, q, k⟩
noncomputable def fIt (f : FE) : FI := fun ρ => (f ρ).bind fun r => r.fr.bind items
theorem i_seq (h : DE X iter f) : DI X tg iter (fIt f) := PuI_weak (PuI_or (pui_list h.ee) (pui_tup h.ee)) fun ρ Q ⟨its, e, q⟩ => by
  obtain ⟨r, e1, e⟩ := Option.bind_eq_some_iff.mp e
  obtain ⟨p, e2, e⟩ := Option.bind_eq_some_iff.mp e
  cases p <;> first | (cases e; done) | skip
  · cases e; exact .inr ⟨r, _, e1, e2, q⟩
  · cases e; exact .inl ⟨r, _, e1, e2, q⟩
  · cases e; exact .inl ⟨r, _, e1, e2, q⟩
  · cases e; exact .inr ⟨r, _, e1, e2, q⟩
noncomputable def okI (i : Int) : Bool := decide (-(2 ^ 62) ≤ i) && decide (i < 2 ^ 62)
noncomputable def rng1 : List PV → Option (List PV)
  | [.int j] => if okI j then some (ups 0 j.toNat) else none
  | _ => none
noncomputable def rng2 : List PV → Option (List PV)
  | [.int i, .int j] => if okI i && okI j then some (ups i (j - i).toNat) else none
  | _ => none
noncomputable def fRng (g : List PV → Option (List PV)) (fs : FA) : FI := fun ρ => (fs ρ).bind fun rs => g (rs.map RV.pv)
theorem okI_ok {i : Int} (h : okI i = true) : -(2 ^ 62) ≤ i ∧ i < 2 ^ 62 := by
  unfold okI at h
  rw [Bool.and_eq_true, decide_eq_true_eq, decide_eq_true_eq] at h
  exact h
theorem i_rng1 (h : PI X tg iter (iRng1 (lAT X.K (tTs fs)))) : DI X tg iter (fRng rng1 fs) := PuI_weak (pui_rng1 h) fun ρ Q ⟨its, e, q⟩ => by
  obtain ⟨rs, e1, e⟩ := Option.bind_eq_some_iff.mp e
  refine ⟨rs, e1, ?_⟩
  unfold rng1 at e
  split at e
  · next j ej =>
    split at e
    · next z => cases e; rw [ej]; exact ⟨(okI_ok z).1, (okI_ok z).2, q⟩
    · cases e
  · cases e
theorem i_rng2 (h : PI X tg iter (iRng2 (lAT X.K (tTs fs)))) : DI X tg iter (fRng rng2 fs) := PuI_weak (pui_rng2 h) fun ρ Q ⟨its, e, q⟩ => by
  obtain ⟨rs, e1, e⟩ := Option.bind_eq_some_iff.mp e
  refine ⟨rs, e1, ?_⟩
  unfold rng2 at e
  split at e
  · next i j ej =>
    split at e
    · next z => cases e; rw [Bool.and_eq_true] at z; rw [ej]; exact ⟨⟨(okI_ok z.1).1, (okI_ok z.1).2, (okI_ok z.2).1, (okI_ok z.2).2⟩, q⟩
    · cases e
  · cases e
noncomputable def fEnum (fs : FA) : FI := fun ρ => (fs ρ).bind fun rs => (rs.mapM RV.fr).bind fun ps => match ps with
  | [p] => (lstOf p).map (enumP 0)
  | _ => none
noncomputable abbrev FT := PV → PSt → Option PSt
noncomputable abbrev FTs := List PV → PSt → Option PSt
noncomputable def qT (t : FT) : PTG := fun p ρ Q => ∃ ρ', t p ρ = some ρ' ∧ Q ρ'
noncomputable def qTs (t : FTs) : PTGs := fun p ρ Q => ∃ ρ', t p ρ = some ρ' ∧ Q ρ'
noncomputable def gN (i : Nat) : FT := fun p ρ => some (ρ.set i (some (.val p)))
noncomputable def g0 : FTs := fun ps ρ => match ps with
  | [] => some ρ
  | _ => none
noncomputable def gC (t : FT) (ts : FTs) : FTs := fun ps ρ => match ps with
  | p :: ps => (t p ρ).bind fun ρ' => ts ps ρ'
  | [] => none
theorem GRef_weak {K : PySem.W.Frag} {g0 : TG} {g g' : PTG} (h : GRef K g0 g) (w : ∀ p ρ Q, g' p ρ Q → g p ρ Q) : GRef K g0 g' := fun F H σ ρ p v Qp Q s r q k => h F H σ ρ p v Qp Q s r (w p ρ Qp q) k
theorem GRefs_weak {K : PySem.W.Frag} {g0 : TGs} {g g' : PTGs} (h : GRefs K g0 g) (w : ∀ p ρ Q, g' p ρ Q → g p ρ Q) : GRefs K g0 g' := fun F H σ ρ p v Qp Q s r q k => h F H σ ρ p v Qp Q s r (w p ρ Qp q) k
theorem r_name {K : PySem.W.Frag} {i : Nat} : GRef K (gName i) (qT (gN i)) := GRef_weak gr_name fun p ρ Q ⟨ρ', e, q⟩ => by cases e; exact q
theorem r_nil {K : PySem.W.Frag} : GRefs K gNil (qTs g0) := GRefs_weak gr_nil fun ps ρ Q ⟨ρ', e, q⟩ => by
  cases ps with
  | nil => cases e; exact q
  | cons => cases e
theorem r_cons {K : PySem.W.Frag} {h0 : TG} {t : FT} {hs0 : TGs} {ts : FTs} (h1 : GRef K h0 (qT t)) (h2 : GRefs K hs0 (qTs ts)) : GRefs K (gCons h0 hs0) (qTs (gC t ts)) := GRefs_weak (gr_cons h1 h2) fun ps ρ Q ⟨ρ', e, q⟩ => by
  cases ps with
  | nil => cases e
  | cons p ps =>
    obtain ⟨ρ2, e1, e2⟩ := Option.bind_eq_some_iff.mp e
    exact ⟨ρ2, e1, ρ', e2, q⟩
noncomputable def gTn (n : Nat) (ts : FTs) : FT := fun p ρ => match p with
  | .tup ps => if ps.length = n then ts ps ρ else none
  | _ => none
theorem r_tup {K : PySem.W.Frag} {n : Nat} {hs0 : TGs} {ts : FTs} (h : GRefs K hs0 (qTs ts)) : GRef K (gTup K n hs0) (qT (gTn n ts)) := GRef_weak (gr_tup h) fun p ρ Q ⟨ρ', e, q⟩ => by
  unfold gTn at e
  split at e
  · split at e
    · next z => exact ⟨z, ρ', e, q⟩
    · cases e
  · cases e
noncomputable def goF (t : FT) (c : FB) (f : FE) (ρ : PSt) : List PV → Option (List PV)
  | [] => some []
  | p :: ps => (t p ρ).bind fun ρ2 => (c ρ2).bind fun b => if b = true then (f ρ2).bind fun r => r.fr.bind fun q => (goF t c f ρ ps).map fun qs => q :: qs else goF t c f ρ ps
noncomputable def fComp (fm : List (Option Nat)) (it : FI) (t : FT) (c : FB) (f : FE) : FE := fun ρ => (it ρ).bind fun its => if its.length < 1000 then (goF t c f (subρ fm ρ) its).map .nw else none
noncomputable def fYes : FB := fun _ => some true
theorem go_ok {t : FT} {c : FB} {ρ : PSt} : ∀ {its qs acc : List PV} {Q : List PV → Prop}, goF t c f ρ its = some qs → Q (acc ++ qs) → pGo (qT t) (tBo c) (tF f) ρ its acc Q := fun {its} => by
  induction its with
  | nil => intro qs acc Q e q; cases e; rw [List.append_nil] at q; exact q
  | cons p ps ih =>
    intro qs acc Q e q
    rw [goF] at e
    obtain ⟨ρ2, e1, e⟩ := Option.bind_eq_some_iff.mp e
    obtain ⟨b, e2, e⟩ := Option.bind_eq_some_iff.mp e
    refine ⟨ρ2, e1, b, e2, ?_⟩
    cases b with
    | true =>
      rw [if_pos rfl] at e ⊢
      obtain ⟨r, e3, e⟩ := Option.bind_eq_some_iff.mp e
      obtain ⟨y, e4, e⟩ := Option.bind_eq_some_iff.mp e
      obtain ⟨ys, e5, rfl⟩ := Option.map_eq_some_iff.mp e
      exact ⟨r, y, e3, e4, ih e5 (by rw [List.append_assoc]; exact q)⟩
    | false =>
      rw [if_neg Bool.false_ne_true] at e ⊢
      exact ih e q
theorem comp_ok {fm : List (Option Nat)} {it : FI} {t : FT} {c : FB} {ρ : PSt} {r : RV} (e : fComp fm it t c f ρ = some r) : ∃ ps, r = .nw ps ∧ pComp fm (tIt it) (qT t) (tBo c) (tF f) ρ (fun x => x = ps) := by
  obtain ⟨its, e1, e⟩ := Option.bind_eq_some_iff.mp e
  split at e
  · next z =>
    obtain ⟨ps, e2, rfl⟩ := Option.map_eq_some_iff.mp e
    exact ⟨ps, rfl, its, e1, z, go_ok e2 rfl⟩
  · cases e
noncomputable def DIf (X : Cx) (ifs : List Expr) (c : FB) : Prop := PuIf X ifs (tBo c)
theorem if_nil : DIf X [] fYes := PIf.weak puif_nil fun σ H Q hh_ => hh_.elim fun F ρ Qp er ⟨b, e, q⟩ k => by cases e; exact ⟨F, ρ, Qp, er, q, k⟩
theorem if_one (h : DB X c ba) : DIf X [c] ba := puif_one h
theorem d_comp {fm : List (Option Nat)} {it : FI} {h0 : TG} {t : FT} {c : FB} (hg : GRef X.K h0 (qT t)) (h : PE X e (tComp fm (lI X.K (tIt it)) h0 (lB X.K (tBo c)) (lE X.K (tF f)))) : DE X e (fComp fm it t c f) := .ofN (pu_comp (K := X.K) hg h) fun ρ r e => comp_ok e
end
end Dp
end
section
namespace Dp
open PySem PySem.Spec L2 Pu
inductive Out where
  | nx (ρ : PSt) | bk (ρ : PSt) | ct (ρ : PSt) | rt (p : PV) | rn (ps : List PV) | bad
noncomputable abbrev FS := PSt → Out
noncomputable def Out.sat (D : PEnds) : Out → Prop
  | .nx ρ => D.nx ρ
  | .bk ρ => D.bk ρ
  | .ct ρ => D.ct ρ
  | .rt p => D.rt p
  | .rn ps => D.rn ps
  | .bad => False
noncomputable def fnS (f : FS) : PTS := fun D ρ => (f ρ).sat D
noncomputable def DS (X : Cx) (st : Stmt) (f : FS) : Prop := PuS X st (fnS f)
noncomputable def DSs (X : Cx) (st : List Stmt) (f : FS) : Prop := PuSs X st (fnS f)
section
variable {X : Cx} {e a b c tg iter : Expr} {es : List Expr} {st : Stmt} {rest : List Stmt} {pos : Pos} {f fa fb : FE} {fs : FA} {s u : FS} {i j : Nat} {ba : FB}
theorem PuS_weak {t t' : PTS} (h : PuS X st t) (w : ∀ D ρ, t' D ρ → t D ρ) : PuS X st t' := PS.weak h fun D σ H hh_ => hh_.elim fun F0 H0 F ρ Dp br q ft => ⟨F0, H0, F, ρ, Dp, br, w Dp ρ q, ft⟩
theorem PuSs_weak {t t' : PTS} (h : PuSs X rest t) (w : ∀ D ρ, t' D ρ → t D ρ) : PuSs X rest t' := PSs.weak h fun D σ H hh_ => hh_.elim fun F0 H0 F ρ Dp br q ft => ⟨F0, H0, F, ρ, Dp, br, w Dp ρ q, ft⟩
theorem PuS_or {t t' : PTS} (h : PuS X st t) (h' : PuS X st t') : PuS X st (fun D ρ => t D ρ ∨ t' D ρ) := fun pins s σ H D I hh_ => hh_.elim fun F0 H0 F ρ Dp br q ft => q.elim (fun q => h pins s σ H D I ⟨F0, H0, F, ρ, Dp, br, q, ft⟩) fun q => h' pins s σ H D I ⟨F0, H0, F, ρ, Dp, br, q, ft⟩
noncomputable def sSkip : FS := fun ρ => .nx ρ
noncomputable def sBad : FS := fun _ => .bad
noncomputable def sBk : FS := fun ρ => .bk ρ
noncomputable def sCt : FS := fun ρ => .ct ρ
noncomputable def sSeq (s u : FS) : FS := fun ρ => match s ρ with
  | .nx ρ' => u ρ'
  | o => o
theorem s_nil : DSs X [] sSkip := puss_nil
theorem s_one (h : DS X st s) : DSs X [st] s := puss_one h
theorem s_cons (h1 : DS X st s) (h2 : DSs X rest u) : DSs X (st :: rest) (sSeq s u) := PuSs_weak (puss_cons h1 h2) fun D ρ q => by
  unfold fnS sSeq at q
  unfold pSeq fnS
  cases e : s ρ with
  | nx ρ' => rw [e] at q; exact q
  | _ => rw [e] at q; exact q
theorem s_bad : DS X st sBad := PuS_weak pus_never fun D ρ q => q
noncomputable def sDrop (f : FE) : FS := fun ρ => match f ρ with
  | some (.fz _) => .nx ρ
  | _ => .bad
theorem s_expr (h : PS X st (tDrop (lE X.K (tF f)))) : DS X st (sDrop f) := PuS_weak (pus_expr h) fun D ρ q => by
  unfold fnS sDrop at q
  split at q
  · next p e => exact ⟨_, _, e, rfl, q⟩
  · exact q.elim
noncomputable def sRet (f : FE) : FS := fun ρ => match f ρ with
  | some (.fz p) => .rt p
  | some (.nw ps) => .rn ps
  | _ => .bad
theorem s_ret (h : DE X e f) : DS X (.Return (some e) pos) (sRet f) := PuS_weak (PuS_or (pus_ret h.ee) (pus_retN h.nn)) fun D ρ q => by
  unfold fnS sRet at q
  split at q
  · next p e => exact .inl ⟨_, _, e, rfl, q⟩
  · next p e => exact .inr ⟨_, e, q⟩
  · exact q.elim
noncomputable def sRetV (i : Nat) : FS := fun ρ => match sl ρ i with
  | some (.val p) => .rt p
  | some (.own ps) => .rn ps
  | _ => .bad
theorem s_retV (h : PE X e (tVar i)) : DS X (.Return (some e) pos) (sRetV i) := PuS_weak (PuS_or (pus_ret (d_v h).ee) (pus_retO h)) fun D ρ q => by
  unfold fnS sRetV at q
  split at q
  · next p e => exact .inl ⟨.fz p, p, by unfold fV; rw [e]; rfl, rfl, q⟩
  · next p e => refine .inr ?_; unfold pRetO go; rw [sl_some e]; exact q
  · exact q.elim
noncomputable def sIf (g : FB) (s u : FS) : FS := fun ρ => match g ρ with
  | some true => s ρ
  | some false => u ρ
  | none => .bad
theorem s_if {sa sb : List Stmt} (hc : DB X c ba) (ha : DSs X sa s) (hb : DSs X sb u) : DS X (.If c sa sb pos) (sIf ba s u) := PuS_weak (pus_if hc ha hb) fun D ρ q => by
  unfold fnS sIf at q
  split at q
  · next e => exact ⟨true, e, q⟩
  · next e => exact ⟨false, e, q⟩
  · exact q.elim
noncomputable def sSet (i : Nat) (f : FE) : FS := fun ρ => match (f ρ).bind RV.fr with
  | some p => .nx (ρ.set i (some (.val p)))
  | none => .bad
theorem s_set (h : PS X st (tAsg (lE X.K (tF f)) (gName i))) : DS X st (sSet i f) := PuS_weak (pus_set h) fun D ρ q => by
  unfold fnS sSet at q
  split at q
  · next p e =>
    obtain ⟨r, e1, e2⟩ := Option.bind_eq_some_iff.mp e
    exact ⟨r, p, e1, e2, q⟩
  · exact q.elim
noncomputable def sOwn (i : Nat) (f : FE) : FS := fun ρ => match f ρ with
  | some (.fz p) => .nx (ρ.set i (some (.val p)))
  | some (.nw ps) => .nx (ρ.set i (some (.own ps)))
  | _ => .bad
theorem s_own (h : PS X st (tAsg (lE X.K (tF f)) (gName i))) (h' : PS X st (tAsg (lN X.K (tN f)) (gName i))) : DS X st (sOwn i f) := PuS_weak (PuS_or (pus_set h) (pus_setN h')) fun D ρ q => by
  unfold fnS sOwn at q
  split at q
  · next p e => exact .inl ⟨_, _, e, rfl, q⟩
  · next p e => exact .inr ⟨_, e, q⟩
  · exact q.elim
theorem s_setC {fm : List (Option Nat)} {it : FI} {h0 : TG} {t : FT} {c : FB} (hg : GRef X.K h0 (qT t)) (h : PS X st (tAsg (tComp fm (lI X.K (tIt it)) h0 (lB X.K (tBo c)) (lE X.K (tF f))) (gName i))) : DS X st (sSet i (fComp fm it t c f)) := PuS_weak (pus_setCompV hg h) fun D ρ q => by
  unfold fnS sSet at q
  split at q
  · next p e =>
    obtain ⟨r, e1, e2⟩ := Option.bind_eq_some_iff.mp e
    obtain ⟨ps, rfl, k⟩ := comp_ok e1
    cases e2
    obtain ⟨its, e3, hl, k⟩ := k
    refine ⟨its, e3, hl, ?_⟩
    obtain ⟨its', e4, e5⟩ := Option.bind_eq_some_iff.mp e1
    rw [e3] at e4; cases e4
    rw [if_pos hl] at e5
    obtain ⟨qs, e6, e7⟩ := Option.map_eq_some_iff.mp e5
    cases e7
    exact go_ok e6 q
  · exact q.elim
noncomputable def sAsg (f : FE) (t : FT) : FS := fun ρ => match (f ρ).bind RV.fr with
  | some p => match t p ρ with
    | some ρ' => .nx ρ'
    | none => .bad
  | none => .bad
noncomputable def sPar (i j : Nat) (fs : FA) : FS := fun ρ => match (fs ρ).bind fun rs => rs.mapM RV.fr with
  | some [p, q] => .nx ((ρ.set i (some (.val p))).set j (some (.val q)))
  | _ => .bad
noncomputable def sFrz (i : Nat) (s : FS) : FS := fun ρ => s (frz i ρ)
noncomputable def sAug (g : Int → Int → Int) (i : Nat) (f : FE) : FS := fun ρ => match sl ρ i, (f ρ).bind RV.fr with
  | some (.val (.int a)), some (.int b) => .nx (ρ.set i (some (.val (.int (g a b)))))
  | _, _ => .bad
noncomputable def sApp (i : Nat) (fs : FA) : FS := fun ρ => match sl ρ i, (fs ρ).bind fun rs => rs.mapM RV.fr with
  | some (.own ps), some [q] => if ps.length ≤ 100000 then .nx (ρ.set i (some (.own (ps ++ [q])))) else .bad
  | _, _ => .bad
theorem s_app (h : PS X st (tDrop (tBM X.K "list" rAppend (tVar i) (lA X.K (tFs fs))))) : DS X st (sApp i fs) := PuS_weak (pus_app h) fun D ρ q => by
  unfold fnS sApp at q
  split at q
  · next ps p e1 e2 =>
    obtain ⟨r, e3, e4⟩ := Option.bind_eq_some_iff.mp e2
    unfold pApp go
    rw [sl_some e1]
    split at q
    · next z => exact ⟨r, _, e3, e4, bigl z, q⟩
    · exact q.elim
  · exact q.elim
noncomputable def sPut (j : Nat) (fi f : FE) : FS := fun ρ => match (f ρ).bind RV.fr, sl ρ j, (fi ρ).bind RV.fr with
  | some v, some (.own ps), some (.int k) => match ixN ps.length k with
    | some n => .nx (ρ.set j (some (.own (ps.set n v))))
    | none => .bad
  | _, _, _ => .bad
theorem s_put {fi : FE} (h : PS X st (tAsg (lE X.K (tF f)) (L2.gSub (tVar j) (lE X.K (tF fi)) rSetL))) : DS X st (sPut j fi f) := PuS_weak (pus_setIx h) fun D ρ q => by
  unfold fnS sPut at q
  split at q
  · next v ps k e1 e2 e3 =>
    obtain ⟨r, e4, e5⟩ := Option.bind_eq_some_iff.mp e1
    obtain ⟨r', e6, e7⟩ := Option.bind_eq_some_iff.mp e3
    split at q
    · next n en =>
      refine ⟨r, v, e4, e5, ?_⟩
      unfold go
      rw [sl_some e2]
      refine ⟨r', _, e6, e7, ?_⟩
      show OkO (ixN ps.length k) _
      rw [en]
      exact q
    · exact q.elim
  · exact q.elim
noncomputable def loopF (t : FT) (s : FS) : List PV → PSt → Out
  | [], ρ => .nx ρ
  | p :: ps, ρ => match t p ρ with
    | some ρ1 => match s ρ1 with
      | .nx ρ2 => loopF t s ps ρ2
      | .ct ρ2 => loopF t s ps ρ2
      | .bk ρ2 => .nx ρ2
      | o => o
    | none => .bad
noncomputable def sFor (it : FI) (t : FT) (s : FS) : FS := fun ρ => match it ρ with
  | some its => loopF t s its ρ
  | none => .bad
theorem loop_ok {t : FT} {D : PEnds} : ∀ {its : List PV} {ρ : PSt}, (loopF t s its ρ).sat D → pLoop (qT t) (fnS s) D its ρ := fun {its} => by
  induction its with
  | nil => intro ρ q; exact q
  | cons p ps ih =>
    intro ρ q
    rw [loopF] at q
    split at q
    · next ρ1 e1 =>
      refine ⟨ρ1, e1, ?_⟩
      show (s ρ1).sat _
      cases e2 : s ρ1 with
      | nx ρ2 => rw [e2] at q; exact ih q
      | ct ρ2 => rw [e2] at q; exact ih q
      | bk ρ2 => rw [e2] at q; exact q
      | rt _ => rw [e2] at q; exact q
      | rn _ => rw [e2] at q; exact q
      | bad => rw [e2] at q; exact q
    · exact q.elim
theorem s_for {it : FI} {h0 : TG} {t : FT} (hg : GRef X.K h0 (qT t)) (h : PS X st (tFor (lI X.K (tIt it)) h0 (lS X.K (fnS s)))) : DS X st (sFor it t s) := PuS_weak (pus_for hg h) fun D ρ q => by
  unfold fnS sFor at q
  split at q
  · next its e => exact ⟨its, e, loop_ok q⟩
  · exact q.elim
noncomputable def whileF (c : FB) (s : FS) : Nat → PSt → Out
  | 0, _ => .bad
  | n + 1, ρ => match c ρ with
    | some true => match s ρ with
      | .nx ρ2 => whileF c s n ρ2
      | .ct ρ2 => whileF c s n ρ2
      | .bk ρ2 => .nx ρ2
      | o => o
    | some false => .nx ρ
    | none => .bad
noncomputable def sWhile (c : FB) (s : FS) : FS := fun ρ => whileF c s 10000 ρ
theorem while_ok {c : FB} {D : PEnds} : ∀ {n : Nat} {ρ : PSt}, (whileF c s n ρ).sat D → pWhileN (tBo c) (fnS s) D n ρ := fun {n} => by
  induction n with
  | zero => intro ρ q; exact q
  | succ n ih =>
    intro ρ q
    rw [whileF] at q
    split at q
    · next e1 =>
      refine ⟨true, e1, ?_⟩
      show (if true = true then (s ρ).sat _ else _)
      rw [if_pos rfl]
      cases e2 : s ρ with
      | nx ρ2 => rw [e2] at q; exact ih q
      | ct ρ2 => rw [e2] at q; exact ih q
      | bk ρ2 => rw [e2] at q; exact q
      | rt _ => rw [e2] at q; exact q
      | rn _ => rw [e2] at q; exact q
      | bad => rw [e2] at q; exact q
    · next e1 =>
      exact ⟨false, e1, q⟩
    · exact q.elim
theorem s_while {c : FB} (h : PS X st (tWhile (lB X.K (tBo c)) (lS X.K (fnS s)))) : DS X st (sWhile c s) := PuS_weak (pus_while h) fun D ρ q => ⟨10000, while_ok q⟩
end
noncomputable def Out.res : Out → Option PR
  | .nx _ => some (.v .non)
  | .rt p => some (.v p)
  | .rn ps => some (.n ps)
  | _ => none
noncomputable def run (a n : Nat) (s : FS) (qs : List PV) : Option PR := if qs.length = a then (s (pst n qs)).res else none
theorem res_ok {o : Out} {r : PR} {Q : PR → Prop} (h : o.res = some r) (q : Q r) : o.sat (PEnds.of Q) := by
  cases o <;> cases h <;> exact q
theorem d_def {P : Program} {w : World} {K : PySem.W.Frag} {mg : Str → Option Value} {base : Heap} {x : Str} {st : Stmt} {N ps : List Str} {k a n : Nat} {s : FS} (F : FunD K mg x st ps) (S : FnScope N ps (defScope st))
    (hb : ∀ (f : Addr) (cdv : Value) (A : Around) (outer : List Env) (s' : Shared) (H : Hp) (E : XK), Room k (A.deeper (PyProof.Rows.envOfC x (defScope st) s'.heap.objs.size f cdv)) → DSs (cxOf CX0 P w K mg base N x (defScope st) f cdv A outer s' H E).nox (defBody st) s)
    (ha : ps.length = a := by rfl) (hn : N.length = n := by rfl) : Def P w K mg base (k + 1) x ps (spP K (fnP (run a n s))) := by
  subst ha hn
  refine defP F S (fun qs Q ⟨r, e, q⟩ => ?_) hb fun qs Q ⟨r, e, q⟩ => ?_
  · unfold run at e
    split at e
    · assumption
    · cases e
  · unfold run at e
    split at e
    · exact res_ok e q
    · cases e
theorem law_go {X : Cx} {body : List Stmt} {s : FS} {N : List Str} {H : Hp} {vs : List V} {Q : VK} {E : XK} {n : Nat} (hb : DSs X body s) (h : spLaw X.K vs H Q E)
    (hp : ∀ ns : List Int, ns.length ≤ 63 → run 1 n s [.src (ns.map PV.int)] = some (.v (.bl true))) (hn : N.length = n := by rfl) : ∃ t, PSs X body t ∧ t { nx := fun _ H' => Q .non H', rt := Q } (L2.start N vs) H := by
  subst hn
  exact law_start hb h fun ns hl => by
    have this : (s (pst N.length [.src (ns.map PV.int)])).res = some (.v (.bl true)) := hp ns hl
    exact res_ok this rfl
end Dp
end
section
namespace Dp
open PySem PySem.Spec L2 Pu
section
variable {X : Cx} {e a b c tg iter : Expr} {es : List Expr} {st : Stmt} {rest : List Stmt} {p pos : Pos} {f fa fb : FE} {fs : FA} {s u : FS} {i j k : Nat} {ba : FB} {x : Str} {ps : List Str} {F : List PV → Option PR}
theorem d_callD (d : Def X.prog X.w X.K X.mg X.base j x ps (spP X.K (fnP F))) (hr : Room k X.A) (ha : DA X (e :: es) fs) (hj : j ≤ k := by decide) (hg : Gl X x := by rfl) (hdb : (x == ("__debug__" : Str)) = false := by decide) (he : starEach (e :: es) X.env = (false, eval e X.env) :: starEach es X.env := by rfl)
    (hpl : (backTo pos (starEach es X.env)).any (·.1) = false := by rfl) : DE X (.Call (.Name x p) (e :: es) [] pos) (fCall F fs) := d_call (pe_callD d hr ha.f hj hg hdb he hpl) (pe_callD d hr ha.t hj hg hdb he hpl)
theorem d_listc (hm : X.mg "list" = none) (ha : DA X (e :: es) fs) (hc : X.calm = true := by rfl) (hg : Gl X "list" := by rfl) (he : starEach (e :: es) X.env = (false, eval e X.env) :: starEach es X.env := by rfl) (hpl : (backTo pos (starEach es X.env)).any (·.1) = false := by rfl) :
    DE X (.Call (.Name "list" p) (e :: es) [] pos) (fB kList fs) := d_list (x := "list") (p := p) rfl (pe_callTy call_list_of hg hm bt_list ha.t (by decide) (by decide) he hpl) (pe_callTy (call_list_rng hc) hg hm bt_list ha.t (by decide) (by decide) he hpl)
theorem s_own2 {pos' : Pos} (he : DE X e f) (hN : X.N.Nodup) (hi : X.N[i]? = some x) (hx : Loc X.env.scope x) (hs : swapsWith e (some (.Name x pos')) pos.line X.env = pure false := by rfl) (hf : X.fn x = true ∨ X.env.scope.names.lookup x = some .local := by first | exact .inl rfl | exact .inr rfl | assumption) :
    DS X (.Assign [.Name x pos'] e pos) (sOwn i f) := s_own (ps_set hN hi hx he.ee hs hf) (ps_set hN hi hx he.nn hs hf)
end
end Dp
end
section
namespace Pu
open PySem L2 Fo
theorem peq_int {i j : Int} : peq (.int i) (.int j) = decide (i = j) := by
  simp only [peq, isFlat, flat, eqV, Bool.true_and]
  rw [Bool.eq_iff_iff, beq_iff_eq, decide_eq_true_iff]
theorem peq_str {i j : Str} : peq (.str i) (.str j) = decide (i = j) := by
  simp only [peq, isFlat, flat, eqV, Bool.true_and]
  rw [Bool.eq_iff_iff, beq_iff_eq, decide_eq_true_iff]
theorem peq_bl {i j : Bool} : peq (.bl i) (.bl j) = (i == j) := by
  simp only [peq, isFlat, flat, eqV, Bool.true_and]
theorem peq_tup {ps qs : List PV} : peq (.tup ps) (.tup qs) = peqs ps qs := by simp only [peq]
theorem peq_lst {ps qs : List PV} : peq (.lst ps) (.lst qs) = peqs ps qs := by simp only [peq]
theorem peqs_cons {p q : PV} {ps qs : List PV} : peqs (p :: ps) (q :: qs) = (peq p q && peqs ps qs) := by simp only [peqs]
theorem peqs_nil : peqs [] [] = true := by simp only [peqs]
theorem nums_len (us : List Nat) : (nums us).length = us.length := List.length_map ..
theorem nums_nil : nums [] = [] := rfl
theorem nums_cons (x : Nat) (us : List Nat) : nums (x :: us) = nI x :: nums us := rfl
theorem nums_app (us vs : List Nat) : nums (us ++ vs) = nums us ++ nums vs := List.map_append
theorem nums_set (us : List Nat) (i v : Nat) : (nums us).set i (nI v) = nums (us.set i v) := by unfold nums; rw [List.map_set]
theorem plains_nums : ∀ us : List Nat, plains (nums us) = true
  | [] => by simp only [nums, List.map_nil, plains]
  | x :: us => by rw [nums_cons, plains, plains_nums us]; simp only [nI, plain, Bool.and_true]
theorem deps_nums : ∀ us : List Nat, deps (nums us) = 0
  | [] => by simp only [nums, List.map_nil, deps]
  | x :: us => by rw [nums_cons, deps, deps_nums us]; simp only [nI, dep, Nat.max_self]
theorem peqs_nums : ∀ us vs : List Nat, peqs (nums us) (nums vs) = decide (us = vs)
  | [], [] => by simp [nums, peqs]
  | [], _ :: _ => by simp [nums, peqs]
  | _ :: _, [] => by simp [nums, peqs]
  | x :: us, y :: vs => by
    rw [nums_cons, nums_cons, peqs_cons, peqs_nums us vs, nI, nI, peq_int, Bool.eq_iff_iff]
    simp
    intro _
    omega
theorem ixN_nat {n x : Nat} (h : x < n) : ixN n (x : Int) = some x := by
  unfold ixN
  rw [if_pos (by omega), if_pos (by omega), Int.toNat_natCast]
theorem atI_nat {ps : List PV} {x : Nat} {p : PV} (h : ps[x]? = some p) : L2.atI ps (x : Int) = some p := by
  unfold L2.atI
  have hx : x < ps.length := (List.getElem?_eq_some_iff.mp h).1
  rw [ixN_nat hx]
  exact h
theorem at0 {a : PV} {l : List PV} : L2.atI (a :: l) (0 : Int) = some a := atI_nat (x := 0) rfl
theorem at1 {a b : PV} {l : List PV} : L2.atI (a :: b :: l) (1 : Int) = some b := atI_nat (x := 1) rfl
theorem at2 {a b c : PV} {l : List PV} : L2.atI (a :: b :: c :: l) (2 : Int) = some c := atI_nat (x := 2) rfl
theorem at3 {a b c d : PV} {l : List PV} : L2.atI (a :: b :: c :: d :: l) (3 : Int) = some d := atI_nat (x := 3) rfl
theorem nums_get {us : List Nat} {x : Nat} (hx : x < us.length) : (nums us)[x]? = some (nI (up us x)) := by
  unfold nums
  rw [List.getElem?_map, List.getElem?_eq_getElem hx]
  simp [up, hx]
theorem atI_nums {us : List Nat} {x : Nat} (hx : x < us.length) : L2.atI (nums us) (x : Int) = some (nI (up us x)) := atI_nat (nums_get hx)
theorem atI_last (us : List Nat) (y : Nat) : L2.atI (nums (us ++ [y])) (-1) = some (nI y) := by
  unfold L2.atI ixN
  rw [nums_len, List.length_append, if_neg (by decide), if_pos (by simp; omega)]
  have : (-1 + ((us.length + [y].length : Nat) : Int)).toNat = us.length := by simp; omega
  rw [this]
  show (nums (us ++ [y]))[us.length]? = _
  rw [nums_get (by simp)]
  simp [up]
theorem atI_last' {l : List Nat} (h : l ≠ []) : L2.atI (nums l) (-1) = some (nI (last l)) := by
  obtain ⟨us, y, rfl⟩ : ∃ us y, l = us ++ [y] := ⟨l.dropLast, l.getLast h, (List.dropLast_concat_getLast h).symm⟩
  rw [atI_last]
  simp [last]
theorem nums_snoc (us : List Nat) (y : Nat) : nums us ++ [PV.int y] = nums (us ++ [y]) := (nums_app us [y]).symm
theorem nums_set' (us : List Nat) (i v : Nat) : (nums us).set i (PV.int v) = nums (us.set i v) := nums_set us i v
theorem ups0 (n : Nat) : ups 0 n = nums (List.range n) := by
  unfold ups nums
  exact List.map_congr_left fun i _ => by rw [nI, Int.zero_add]
theorem ups1 (n : Nat) : ups 1 n = nums ((List.range n).map (· + 1)) := by
  unfold ups nums
  rw [List.map_map]
  exact List.map_congr_left fun i _ => by show PV.int (1 + (i : Int)) = PV.int ((i + 1 : Nat) : Int); congr 1; omega
theorem mem_nums {us : List Nat} {v : PV} (h : v ∈ nums us) : ∃ u ∈ us, v = nI u := by
  obtain ⟨u, hu, e⟩ := List.mem_map.mp h
  exact ⟨u, hu, e.symm⟩
noncomputable def iL (ns : List Int) : List PV := ns.map PV.int
theorem iL_len (ns : List Int) : (iL ns).length = ns.length := List.length_map ..
theorem up_mem {n : Nat} {lo : Int} {v : PV} (h : v ∈ ups lo n) : ∃ i : Int, v = .int i ∧ lo ≤ i ∧ i < lo + n := by
  obtain ⟨k, hk, rfl⟩ := List.mem_map.mp h
  have := List.mem_range.mp hk
  exact ⟨lo + k, rfl, by omega, by omega⟩
theorem ups_len (lo : Int) (n : Nat) : (ups lo n).length = n := by simp [ups]
theorem natOf {i : Int} (h : 0 ≤ i) : PV.int i = nI i.toNat := by rw [nI, Int.toNat_of_nonneg h]
theorem cut_iL (ns : List Int) (lo hi : Option Int) : cut (iL ns) lo hi = iL (cut ns lo hi) := by
  unfold cut iL
  rw [List.length_map, List.map_take, List.map_drop]
end Pu
namespace Fo
open PySem L2
structure Left (y : Str) (us : List Nat) (x h : Nat) (us' : List Nat) (n : Nat) (l : List Nat) : Prop where
  way : Way us x l
  hd : h = last l
  st : n + 1 ≤ l.length
  st2 : y ≠ "halves" → n + 1 = l.length
  sh : Shorter us us'
  off : ∀ t, t < us.length → t ∉ l → up us' t = up us t
  no : y = "none" → us' = us
theorem up_ext {us vs : List Nat} (h : us.length = vs.length) (e : ∀ t, up us t = up vs t) : us = vs := by
  apply List.ext_getElem h
  intro i h1 h2
  have := e i
  simpa [up, h1, h2] using this
theorem RM.det {y : Str} {us : List Nat} {x h h2 : Nat} {us' us2 : List Nat} {n n2 : Nat} (r : RM y us x h us' n) (s : RM y us x h2 us2 n2) : h2 = h ∧ us2 = us' ∧ n2 = n := by
  cases r with
  | none r =>
    cases s with
    | none s => obtain ⟨rfl, l, w, e, hn⟩ := r; obtain ⟨rfl, l2, w2, e2, hn2⟩ := s; cases w.det w2; exact ⟨by rw [e, e2], rfl, by omega⟩
  | whole r =>
    cases s with
    | whole s => obtain ⟨l, w, e, hn, len, hu⟩ := r; obtain ⟨l2, w2, e2, hn2, len2, hu2⟩ := s; cases w.det w2; cases e; cases e2; exact ⟨rfl, up_ext (by omega) fun t => by rw [hu, hu2], by omega⟩
  | halves r =>
    cases s with
    | halves s => obtain ⟨l, w, e, hn, len, hu⟩ := r; obtain ⟨l2, w2, e2, hn2, len2, hu2⟩ := s; cases w.det w2; exact ⟨by rw [e, e2], up_ext (by omega) fun t => by rw [hu, hu2], by omega⟩
  | splits r =>
    cases s with
    | splits s => obtain ⟨l, w, e, hn, len, hu⟩ := r; obtain ⟨l2, w2, e2, hn2, len2, hu2⟩ := s; cases w.det w2; exact ⟨by rw [e, e2], up_ext (by omega) fun t => by rw [hu, hu2], by omega⟩
  | one r =>
    cases s with
    | one s => obtain ⟨rfl, l, w, e, hn⟩ := r; obtain ⟨rfl, l2, w2, e2, hn2⟩ := s; cases w.det w2; exact ⟨by rw [e, e2], rfl, by omega⟩
structure Ranked (p us : List Nat) (n : Nat) : Prop where
  perm : p.Perm (List.range n)
  len : us.length = n
  up : ∀ j, j < n → ∃ i, i ≤ j ∧ us.getD (p.getD j 0) 0 = p.getD i 0
theorem ranked_fst {p us : List Nat} {n : Nat} (h : Ranked p us n) : Fst us := by
  obtain ⟨pm, len, hup⟩ := h
  have nd : p.Nodup := pm.nodup_iff.mpr List.nodup_range
  have pl : p.length = n := by rw [pm.length_eq, List.length_range]
  have bp : ∀ i, i < n → p.getD i 0 < n := fun i hi => by
    have h : p.getD i 0 ∈ p := by
      rw [List.getD_eq_getElem?_getD, List.getElem?_eq_getElem (by omega)]
      exact List.getElem_mem _
    exact List.mem_range.mp (pm.mem_iff.mp h)
  have rp : ∀ i, i < n → p.idxOf (p.getD i 0) = i := fun i hi => by
    rw [List.getD_eq_getElem?_getD, List.getElem?_eq_getElem (by omega)]
    exact nd.idxOf_getElem i (by omega)
  have ex : ∀ x, x < n → ∃ j, j < n ∧ p.getD j 0 = x := fun x hx => by
    have hm : x ∈ p := pm.mem_iff.mpr (List.mem_range.mpr hx)
    obtain ⟨j, hj, e⟩ := List.mem_iff_getElem.mp hm
    exact ⟨j, by omega, by rw [List.getD_eq_getElem?_getD, List.getElem?_eq_getElem hj]; exact e⟩
  refine ⟨fun x hx => ?_, fun x => p.idxOf x, fun x hx => ?_, fun x hx hn => ?_⟩
  · rw [len] at hx ⊢
    obtain ⟨j, hj, rfl⟩ := ex x hx
    obtain ⟨i, hi, e⟩ := hup j hj
    rw [up, e]; exact bp i (by omega)
  · rw [len] at hx ⊢
    obtain ⟨j, hj, rfl⟩ := ex x hx
    show p.idxOf _ < n
    rw [rp j hj]; exact hj
  · rw [len] at hx
    obtain ⟨j, hj, rfl⟩ := ex x hx
    obtain ⟨i, hi, e⟩ := hup j hj
    show p.idxOf (up us _) < p.idxOf _
    rw [up, e, rp i (by omega), rp j hj]
    rcases Nat.lt_or_ge i j with h | h
    · exact h
    · have : i = j := by omega
      subst this
      exact absurd e hn
theorem Ranked.set {p us : List Nat} {n k m : Nat} (gr : Ranked p us n) (hk : k < n) (hm : m ≤ k) : Ranked p (us.set (p.getD k 0) (p.getD m 0)) n := by
  have hpl : p.length = n := by rw [gr.perm.length_eq, List.length_range]
  have plt : ∀ k, k < n → p.getD k 0 < n := fun k hk => by
    have hk' : k < p.length := by omega
    have e : p.getD k 0 = p[k] := by simp [hk']
    rw [e]
    exact List.mem_range.mp (gr.perm.subset (List.getElem_mem hk'))
  refine ⟨gr.perm, by rw [List.length_set]; exact gr.len, fun j hj => ?_⟩
  by_cases hjk : j = k
  · subst hjk
    refine ⟨m, hm, ?_⟩
    rw [List.getD_eq_getElem?_getD, List.getElem?_set_self (by rw [gr.len]; exact plt j hj)]; rfl
  · obtain ⟨i', h1, h2⟩ := gr.up j hj
    refine ⟨i', h1, ?_⟩
    have hne : p.getD k 0 ≠ p.getD j 0 := fun e => by
      have nd : p.Nodup := gr.perm.nodup_iff.mpr List.nodup_range
      have e1 : p.getD k 0 = p[k] := by simp [show k < p.length by omega]
      have e2 : p.getD j 0 = p[j] := by simp [show j < p.length by omega]
      rw [e1, e2] at e
      exact hjk ((List.getElem_inj nd).mp e).symm
    rw [List.getD_eq_getElem?_getD, List.getElem?_set_ne hne, ← List.getD_eq_getElem?_getD]
    exact h2
theorem Ranked.range {p : List Nat} {n : Nat} (h : p.Perm (List.range n)) : Ranked p (List.range n) n := ⟨h, List.length_range, fun j hj => ⟨j, Nat.le_refl _, by
  have hpl : p.length = n := by rw [h.length_eq, List.length_range]
  have hk' : j < p.length := by omega
  have e : p.getD j 0 = p[j] := by simp [hk']
  have lt : p[j] < n := List.mem_range.mp (h.subset (List.getElem_mem hk'))
  rw [e]; simp [lt]⟩⟩
end Fo
namespace Pu
open PySem L2 Fo
theorem and_low : ∀ k : Nat, k < 40 → 0 ≤ (k : Int) - Builtin.bitAnd (k : Int) (0 - (k : Int)) ∧ (k : Int) - Builtin.bitAnd (k : Int) (0 - (k : Int)) ≤ k := by decide +kernel
theorem five {v0 v1 v2 v3 v4 : PV} {kd : Int} {R : PV → Prop} (h0 : 0 ≤ kd) (h5 : kd < 5) (r0 : R v0) (r1 : R v1) (r2 : R v2) (r3 : R v3) (r4 : R v4) : ∃ v, L2.atI [v0, v1, v2, v3, v4] kd = some v ∧ R v := by
  have e : kd = 0 ∨ kd = 1 ∨ kd = 2 ∨ kd = 3 ∨ kd = 4 := by omega
  rcases e with e | e | e | e | e <;> subst e
  · exact ⟨_, rfl, r0⟩
  · exact ⟨_, rfl, r1⟩
  · exact ⟨_, rfl, r2⟩
  · exact ⟨_, rfl, r3⟩
  · exact ⟨_, rfl, r4⟩
end Pu
end
section
namespace Dp
open PySem PySem.Spec L2 Pu
section
variable {X : Cx} {e a b c tg iter : Expr} {es : List Expr} {st : Stmt} {rest : List Stmt} {p pos : Pos} {f fa fb : FE} {fs : FA} {s u : FS} {i j k : Nat} {ba : FB} {x : Str}
noncomputable def fRev (f : FE) : FE := fun ρ => (f ρ).bind fun r => (lstOf r.pv).map fun ps => .nw ps.reverse
noncomputable def maxI : List Int → Int
  | [] => 0
  | [i] => i
  | i :: j :: l => max i (maxI (j :: l))
noncomputable def minI : List Int → Int
  | [] => 0
  | [i] => i
  | i :: j :: l => min i (minI (j :: l))
theorem maxI_ok : ∀ {l : List Int}, 0 < l.length → maxI l ∈ l ∧ ∀ a ∈ l, a ≤ maxI l
  | [i], _ => by simp [maxI]
  | i :: j :: l, _ => by
    obtain ⟨h1, h2⟩ := maxI_ok (l := j :: l) (by simp)
    rw [maxI]
    refine ⟨?_, fun a ha => ?_⟩
    · by_cases h : i ≤ maxI (j :: l)
      · rw [Int.max_eq_right h]; exact List.mem_cons_of_mem _ h1
      · rw [Int.max_eq_left (by omega)]; exact List.mem_cons_self
    · rcases List.mem_cons.mp ha with rfl | ha
      · exact Int.le_max_left _ _
      · exact Int.le_trans (h2 a ha) (Int.le_max_right _ _)
noncomputable def kL (g : List Int → Int) : List PV → Option RV
  | [p] => (lstOf p).bind fun ps => (intsOf ps).bind fun is => if is.length = 0 then none else some (.fz (.int (g is)))
  | _ => none
noncomputable def kMaxL := kL maxI
noncomputable def kMinL := kL minI
noncomputable def cL (R : List Int → Int → Prop) : PGC := fun ps Q => One ps fun p => OkL p fun ps => ∃ is, intsOf ps = some is ∧ 0 < is.length ∧ ∀ M, R is M → Q (.int M)
theorem rc_L {R : List Int → Int → Prop} : RefC X.K (fun xs H Q => ∃ (p : Addr) (ns : List Int), xs = [.ref p] ∧ SqL X.K H p (ns.map V.int) ∧ 0 < ns.length ∧ ∀ M, R ns M → Q (.int M) H) (cL R) := fun F H xs ps Qp Q s r h k => by
  obtain ⟨p, v, rfl, rfl, r, h⟩ := h.rd r
  obtain ⟨a, vs, ps, rfl, hs, rs, is, e, hl, h⟩ := h.rd s r
  rw [intsOf_ok e] at rs
  rw [reps_int rs] at hs
  exact ⟨a, is, rfl, hs, hl, fun M hM => k _ _ F H (h M hM) (.refl s) rfl⟩
theorem kL_ok {g : List Int → Int} {R : List Int → Int → Prop} (hg : ∀ is M, R is M → 0 < is.length → M = g is) : ∀ ps r, kL g ps = some r → ∃ p, r = .fz p ∧ cL R ps (fun z => z = p) := fun ps r h => by
  unfold kL at h
  split at h
  · obtain ⟨qs, e1, h⟩ := Option.bind_eq_some_iff.mp h
    obtain ⟨is, e2, h⟩ := Option.bind_eq_some_iff.mp h
    split at h
    · cases h
    · next z => cases h; exact ⟨_, rfl, lstOf_ok e1 ⟨is, e2, by omega, fun M hM => by rw [hg is M hM (by omega)]⟩⟩
  · cases h
theorem d_maxL (hm : X.mg "max" = none) (ha : DA X (e :: es) fs) (hc : X.calm = true := by rfl) (hg : Gl X "max" := by rfl) (he : starEach (e :: es) X.env = (false, eval e X.env) :: starEach es X.env := by rfl) (hpl : (backTo pos (starEach es X.env)).any (·.1) = false := by rfl) :
    DE X (.Call (.Name "max" p) (e :: es) [] pos) (fB kMaxL fs) := d_cb (rc_L (R := fun is M => M ∈ is ∧ ∀ a ∈ is, a ≤ M)) (kL_ok fun is M h hl => by
      obtain ⟨h1, h2⟩ := maxI_ok hl
      exact Int.le_antisymm (h2 M h.1) (h.2 _ h1)) (PE.weak (pe_callB (call_maxL hc) hg hm bt_max ha.t (by decide) (by decide) he hpl) fun σ H Q hh_ => hh_.elim fun F ρ Qp er q k => ⟨F, ρ, Qp, er, q, fun ps vs F' H' h1 g r => by
      obtain ⟨p, ns, e1, e2, e3, e4⟩ := k ps vs F' H' h1 g r
      exact ⟨p, ns, e1, e2, e3, fun M h h' => e4 M ⟨h, h'⟩⟩⟩)
noncomputable def kSum : List PV → Option RV
  | [p] => (lstOf p).bind fun ps => (intsOf ps).map fun is => .fz (.int is.sum)
  | _ => none
noncomputable def sAugIx (g : Int → Int → Int) (j : Nat) (fi f : FE) : FS := fun ρ => match sl ρ j, (fi ρ).bind RV.fr, (f ρ).bind RV.fr with
  | some (.own ps), some (.int k), some (.int b) => if 0 ≤ k then (match ps[k.toNat]? with
    | some (.int a) => .nx (ρ.set j (some (.own (ps.set k.toNat (.int (g a b))))))
    | _ => .bad) else .bad
  | _, _, _ => .bad
theorem s_augIx {g : Int → Int → Int} {o ix e : Expr} {fi : FE} {op : Operator} {tpos : Pos} (ho : PE X o (tVar j)) (hi : DE X ix fi) (he : DE X e f) (hp : PIp X op (ipI g))
    (ha : ∀ ov iv new, augStore ix ov iv new = (do holding [new, ov, iv] (setItem ov iv new); release [new, ov, iv] []; pure .next) := by intros; rfl) : DS X (.AugAssign (.Subscript o ix tpos) op e pos) (sAugIx g j fi f) :=
  PS.weak (ps_augS ho hi.ee get_list he.ee hp set_list ha) fun D σ H hh_ => hh_.elim fun F0 H0 F ρ Dp br h ft => by
    unfold fnS sAugIx at h
    split at h
    · next ps k b e1 e2 e3 =>
      split at h
      · next k0 =>
        split at h
        · next a0 ea =>
          obtain ⟨r1, e4, e5⟩ := Option.bind_eq_some_iff.mp e2
          obtain ⟨r2, e6, e7⟩ := Option.bind_eq_some_iff.mp e3
          obtain ⟨a, vs, ev, ow, k1, k2, k3⟩ := br.ownAt (sl_some e1)
          refine ⟨_, ev, F, ρ, _, br.er, ⟨r1, _, e4, e5, rfl⟩, fun q w F1 H1 hq g1 rr => ?_⟩
          subst hq
          cases (show w = .int k from rr)
          have kk := g1.keep k2 k1
          have hlt : k.toNat < ps.length := (List.getElem?_eq_some_iff.mp ea).1
          obtain ⟨v, ev2, rv⟩ := k3.get ea
          cases (show v = .int a0 from rv)
          have hix : ixN vs.length k = some k.toNat := by
            have := ixN_nat (n := vs.length) (x := k.toNat) (by rw [k3.length]; exact hlt)
            rwa [Int.toNat_of_nonneg k0] at this
          refine ⟨a, vs, k, .int a0, rfl, rfl, k0, SqL.of kk.2, ?_, ?_⟩
          · unfold L2.atI; rw [hix]; exact ev2
          · refine ⟨F1, ρ, _, br.er.grow g1, ⟨r2, _, e6, e7, rfl⟩, fun q w F2 H2 hq g2 rr => ?_⟩
            subst hq
            cases (show w = .int b from rr)
            have kk2 := g2.keep kk.1 kk.2
            refine ⟨a0, b, rfl, rfl, a, vs, k, k.toNat, rfl, rfl, kk2.2, hix, ?_⟩
            have g12 := g1.trans g2
            exact ft.nx F2 _ σ _ h ((br.grow g12).mut (s := .own _) ow rfl ⟨a, _, rfl, upd_same, kk2.1, (k3.mono g12.ff).set (show Rep X.K F2 (.int (g a0 b)) (.int (g a0 b)) from rfl) k.toNat⟩)
        · exact h.elim
      · exact h.elim
    · exact h.elim
end
end Dp
end
section
namespace Fo
open PySem
noncomputable def wayN (us : List Nat) : Nat → Nat → List Nat
  | 0, x => [x]
  | n + 1, x => if up us x = x then [x] else x :: wayN us n (up us x)
noncomputable def way (us : List Nat) (x : Nat) : List Nat := wayN us us.length x
theorem wayN_of {us : List Nat} {x : Nat} {l : List Nat} (w : Way us x l) : ∀ {n : Nat}, l.length ≤ n + 1 → wayN us n x = l := by
  induction w with
  | @head x e =>
    intro n h
    cases n with
    | zero => rfl
    | succ n => rw [wayN, if_pos e]
  | @step x l ne w ih =>
    intro n h
    cases n with
    | zero => have := w.pos; rw [List.length_cons] at h; omega
    | succ n => rw [wayN, if_neg ne, ih (by simpa using h)]
theorem way_of {us : List Nat} {x : Nat} {l : List Nat} (f : Fst us) (hx : x < us.length) (w : Way us x l) : way us x = l := by
  obtain ⟨l', w', h⟩ := f.way hx
  cases w.det w'
  exact wayN_of w (by omega)
theorem way_ok {us : List Nat} {x : Nat} (f : Fst us) (hx : x < us.length) : Way us x (way us x) := by
  obtain ⟨l, w, _⟩ := f.way hx
  rw [way_of f hx w]; exact w
theorem way_len {us : List Nat} {x : Nat} (f : Fst us) (hx : x < us.length) : (way us x).length ≤ us.length := by
  obtain ⟨l, w, h⟩ := f.way hx
  rw [way_of f hx w]; exact h
noncomputable def hd (us : List Nat) (x : Nat) : Nat := last (way us x)
noncomputable def dp (us : List Nat) (x : Nat) : Nat := (way us x).length - 1
noncomputable def newUp (y : Str) (us : List Nat) (x t : Nat) : Nat :=
  if y = "whole" then (if t ∈ way us x then hd us x else up us t)
  else if y = "halves" then (if t ∈ evens (way us x) then up us (up us t) else up us t)
  else if y = "splits" then (if t ∈ way us x then up us (up us t) else up us t)
  else if y = "one" then (if t = x then up us (up us t) else up us t)
  else up us t
noncomputable def beh (y : Str) (us : List Nat) (x : Nat) : List Nat := (List.range us.length).map (newUp y us x)
noncomputable def stp (y : Str) (us : List Nat) (x : Nat) : Nat := if y = "halves" then (way us x).length / 2 else dp us x
theorem up_over {us : List Nat} {t : Nat} (h : us.length ≤ t) : up us t = 0 := by
  unfold up; rw [List.getD_eq_getElem?_getD, List.getElem?_eq_none h]; rfl
theorem beh_len (y : Str) (us : List Nat) (x : Nat) : (beh y us x).length = us.length := by unfold beh; rw [List.length_map, List.length_range]
theorem beh_up {y : Str} {us : List Nat} {x t : Nat} (h : t < us.length) : up (beh y us x) t = newUp y us x t := by
  unfold up beh
  rw [List.getD_eq_getElem?_getD, List.getElem?_map, List.getElem?_range h]; rfl
theorem eq_beh {y : Str} {us us' : List Nat} {x : Nat} (hl : us'.length = us.length) (h : ∀ t, t < us.length → up us' t = newUp y us x t) : us' = beh y us x := by
  refine up_ext (by rw [hl, beh_len]) fun t => ?_
  by_cases ht : t < us.length
  · rw [h t ht, beh_up ht]
  · rw [up_over (by omega), up_over (by rw [beh_len]; omega)]
theorem RM.fun {y : Str} {us : List Nat} {x h : Nat} {us' : List Nat} {n : Nat} (f : Fst us) (hx : x < us.length) (r : RM y us x h us' n) : h = hd us x ∧ us' = beh y us x ∧ n = stp y us x := by
  cases r with
  | none r =>
    obtain ⟨rfl, l, w, e, hn⟩ := r
    rw [← way_of f hx w] at e hn
    refine ⟨e, eq_beh rfl fun t ht => rfl, ?_⟩
    show n = dp us' x
    unfold dp; omega
  | whole r =>
    obtain ⟨l, w, e, hn, hl, hu⟩ := r
    rw [← way_of f hx w] at e hn hu
    refine ⟨e, eq_beh hl fun t ht => ?_, ?_⟩
    · rw [hu t, e]; rfl
    · show n = dp us x
      unfold dp; omega
  | halves r =>
    obtain ⟨l, w, e, hn, hl, hu⟩ := r
    rw [← way_of f hx w] at e hn hu
    exact ⟨e, eq_beh hl fun t ht => by rw [hu t]; rfl, hn⟩
  | splits r =>
    obtain ⟨l, w, e, hn, hl, hu⟩ := r
    rw [← way_of f hx w] at e hn hu
    refine ⟨e, eq_beh hl fun t ht => by rw [hu t]; rfl, ?_⟩
    show n = dp us x
    unfold dp; omega
  | one r =>
    obtain ⟨rfl, l, w, e, hn⟩ := r
    rw [← way_of f hx w] at e hn
    refine ⟨e, eq_beh (List.length_set) fun t ht => ?_, ?_⟩
    · rw [up_set hx]
      show (if t = x then up us (up us x) else up us t) = if t = x then up us (up us t) else up us t
      by_cases q : t = x
      · rw [if_pos q, if_pos q, q]
      · rw [if_neg q, if_neg q]
    · show n = dp us x
      unfold dp; omega
theorem iter_in (us : List Nat) (k x : Nat) : Nat.repeat (up us) (k + 1) x = Nat.repeat (up us) k (up us x) := by
  induction k with
  | zero => rfl
  | succ k ih =>
    show up us (Nat.repeat (up us) (k + 1) x) = up us (Nat.repeat (up us) k (up us x))
    rw [ih]
theorem way_leads {us : List Nat} {x : Nat} {l : List Nat} (w : Way us x l) : ∀ k, l.length ≤ k + 1 → up us (Nat.repeat (up us) k x) = Nat.repeat (up us) k x := by
  induction w with
  | @head x e =>
    intro k _
    have : Nat.repeat (up us) k x = x := by
      induction k with
      | zero => rfl
      | succ k ih => show up us (Nat.repeat (up us) k x) = x; rw [ih (by simp)]; exact e
    rw [this]; exact e
  | @step x l n w ih =>
    intro k hk
    have pos := w.pos
    cases k with
    | zero => rw [List.length_cons] at hk; omega
    | succ k => rw [iter_in]; exact ih k (by simpa using hk)
noncomputable def isF (us : List Nat) : Bool := decide (1 ≤ us.length) && decide (us.length ≤ 40) && us.all (fun u => decide (u < us.length)) && (List.range us.length).all fun x => decide (up us (Nat.repeat (up us) (us.length - 1) x) = Nat.repeat (up us) (us.length - 1) x)
theorem wayN_stable {us : List Nat} : ∀ (k y : Nat), up us (Nat.repeat (up us) k y) = Nat.repeat (up us) k y → ∀ m, k ≤ m → wayN us m y = wayN us k y := fun k => by
  induction k with
  | zero =>
    intro y h m _
    cases m with
    | zero => rfl
    | succ m => have e : wayN us (m + 1) y = if up us y = y then [y] else y :: wayN us m (up us y) := rfl
                rw [e, if_pos (show up us y = y from h)]; rfl
  | succ k ih =>
    intro y h m hm
    cases m with
    | zero => omega
    | succ m =>
      rw [wayN, wayN]
      by_cases e : up us y = y
      · rw [if_pos e, if_pos e]
      · rw [if_neg e, if_neg e, ih (up us y) (by rw [← iter_in]; exact h) m (by omega)]
theorem wayN_le (us : List Nat) : ∀ (n x : Nat), (wayN us n x).length ≤ n + 1
  | 0, x => by rw [wayN]; simp
  | n + 1, x => by
    rw [wayN]
    split
    · simp
    · rw [List.length_cons]; have := wayN_le us n (up us x); omega
theorem wayN_pos (us : List Nat) : ∀ (n x : Nat), 1 ≤ (wayN us n x).length
  | 0, x => by rw [wayN]; simp
  | n + 1, x => by
    rw [wayN]
    split <;> simp
theorem isF_ok {us : List Nat} (h : isF us = true) : Frst us := by
  unfold isF at h
  rw [Bool.and_eq_true, Bool.and_eq_true, Bool.and_eq_true, decide_eq_true_eq, decide_eq_true_eq, List.all_eq_true, List.all_eq_true] at h
  obtain ⟨⟨⟨h1, h2⟩, h3⟩, h4⟩ := h
  have bnd : ∀ x, x < us.length → up us x < us.length := fun x hx => by
    have := h3 us[x] (List.getElem_mem hx)
    rw [decide_eq_true_eq] at this
    show us.getD x 0 < _
    rw [List.getD_eq_getElem?_getD, List.getElem?_eq_getElem hx]; exact this
  refine ⟨h1, h2, bnd, fun x => (wayN us (us.length - 1) x).length - 1, fun x hx => ?_, fun x hx ne => ?_⟩
  · have := wayN_le us (us.length - 1) x
    show (wayN us (us.length - 1) x).length - 1 < us.length
    omega
  · have hf := h4 x (List.mem_range.mpr hx)
    rw [decide_eq_true_eq] at hf
    have hu := h4 (up us x) (List.mem_range.mpr (bnd x hx))
    rw [decide_eq_true_eq] at hu
    show (wayN us (us.length - 1) (up us x)).length - 1 < (wayN us (us.length - 1) x).length - 1
    cases hn : us.length - 1 with
    | zero => rw [hn] at hf; exact absurd hf ne
    | succ n =>
      rw [hn, iter_in] at hf
      have e := wayN_stable n (up us x) hf (n + 1) (by omega)
      have e2 : wayN us (n + 1) x = x :: wayN us n (up us x) := by rw [wayN, if_neg ne]
      rw [e, e2, List.length_cons]
      have := wayN_pos us n (up us x)
      omega
theorem ok_isF {us : List Nat} (f : Frst us) : isF us = true := by
  unfold isF
  rw [Bool.and_eq_true, Bool.and_eq_true, Bool.and_eq_true, decide_eq_true_eq, decide_eq_true_eq, List.all_eq_true, List.all_eq_true]
  refine ⟨⟨⟨f.one, f.most⟩, fun u hu => ?_⟩, fun x hx => ?_⟩
  · obtain ⟨i, hi, rfl⟩ := List.mem_iff_getElem.mp hu
    have := f.fst.bnd i hi
    rw [decide_eq_true_eq]
    unfold up at this
    rwa [List.getD_eq_getElem?_getD, List.getElem?_eq_getElem hi] at this
  · rw [decide_eq_true_eq]
    obtain ⟨l, w, hl⟩ := f.fst.way (List.mem_range.mp hx)
    have := f.one
    exact way_leads w _ (by omega)
end Fo
namespace Dp
open PySem L2 Pu Fo
noncomputable def natsOf : List PV → Option (List Nat)
  | [] => some []
  | .int i :: ps => if 0 ≤ i then (natsOf ps).map fun us => i.toNat :: us else none
  | _ => none
theorem natsOf_nums : ∀ us : List Nat, natsOf (nums us) = some us
  | [] => rfl
  | u :: us => by
    show natsOf (.int (u : Int) :: nums us) = _
    rw [natsOf, if_pos (by omega), natsOf_nums us]; rfl
theorem natsOf_ok : ∀ {ps : List PV} {us : List Nat}, natsOf ps = some us → ps = nums us := fun {ps} => by
  induction ps with
  | nil => intro us h; cases h; rfl
  | cons p ps ih =>
    intro us h
    cases p <;> first | (cases h; done) | skip
    next i =>
    rw [natsOf] at h
    split at h
    · next z =>
      obtain ⟨us', e1, rfl⟩ := Option.map_eq_some_iff.mp h
      rw [ih e1, nums_cons, nI, Int.toNat_of_nonneg z]
    · cases h
end Dp
namespace Lo
open PySem Fo Pu
noncomputable def putL (acc : List (Nat × List Nat)) (h x : Nat) : List (Nat × List Nat) :=
  if acc.any (fun t => decide (t.1 = h)) then acc.map (fun t => if t.1 = h then (t.1, t.2 ++ [x]) else t) else acc ++ [(h, [x])]
noncomputable def lotsN (us : List Nat) (n : Nat) : List (Nat × List Nat) := (List.range n).foldl (fun acc x => putL acc (hd us x) x) []
noncomputable def lots (us : List Nat) : List (List Nat) := (lotsN us us.length).map (·.2)
noncomputable def lotsV (us : List Nat) : List PV := (lots us).map fun l => .tup (nums l)
end Lo
namespace Dp
open PySem L2 Pu Fo Lo
noncomputable def F_lots_in (qs : List PV) : Option PR := match qs with
  | [.tup ps] => match natsOf ps with
    | some us => if isF us = true then some (.n (lotsV us)) else none
    | none => none
  | _ => none
theorem t_lots_in {us : List Nat} (f : Frst us) : F_lots_in [.tup (nums us)] = some (.n (lotsV us)) := by
  show (match natsOf (nums us) with | some us => if isF us = true then some (PR.n (lotsV us)) else none | none => none) = _
  rw [natsOf_nums]
  show (if isF us = true then some (PR.n (lotsV us)) else none) = _
  rw [if_pos (ok_isF f)]
end Dp
end
section
namespace Fo
open PySem L2
theorem way_mem_lt {us : List Nat} {x t : Nat} (f : Fst us) (hx : x < us.length) (h : t ∈ way us x) : t < us.length := (way_ok f hx).lt f.bnd hx t h
theorem way_step {us : List Nat} {x : Nat} (f : Fst us) (hx : x < us.length) (e : up us x ≠ x) : way us x = x :: way us (up us x) := way_of f hx (.step e (way_ok f (f.bnd x hx)))
theorem hd_step {us : List Nat} {x : Nat} (f : Fst us) (hx : x < us.length) (e : up us x ≠ x) : hd us x = hd us (up us x) := by
  unfold hd
  rw [way_step f hx e, last_cons (way_ok f (f.bnd x hx)).ne]
theorem hd_up {us : List Nat} {x : Nat} (f : Fst us) (hx : x < us.length) : hd us (up us x) = hd us x := by
  by_cases e : up us x = x
  · rw [e]
  · exact (hd_step f hx e).symm
theorem dp_lt {us : List Nat} {x : Nat} (f : Fst us) (hx : x < us.length) : dp us x < us.length := by
  have := way_len f hx
  have := (way_ok f hx).pos
  unfold dp; omega
end Fo
end
section
namespace Dp
open PySem L2 Fo Pu
noncomputable def F__law_numbers_b1 : FS := (sSeq (sSet 3 (fOp rMod (fOp rAdd (fOp rAdd (fOp rMul (fV 3) (fOp rAdd (fOp rMod (fV 3) (fC (.int 65521))) (fC (.int 40487)))) (fOp rMul (fC (.int 7)) (fV 5))) (fC (.int 5))) (fC (.int 1999999973))))
    (sSeq (sApp 2 (fCons (fOp rIx (fLst (fCons (fV 3) (fCons (fOp rMod (fV 4) (fC (.int 1000000))) fNil))) (fB kInt (fCons (fOp rGt (fV 4) (fC (.int 0))) fNil))) fNil))
    (sSet 4 (fOp rDiv (fV 4) (fC (.int 1000000))))))
theorem q_F__law_numbers_b1 {ρ : PSt} : F__law_numbers_b1 ρ = (sSeq (sSet 3 (fOp rMod (fOp rAdd (fOp rAdd (fOp rMul (fV 3) (fOp rAdd (fOp rMod (fV 3) (fC (.int 65521))) (fC (.int 40487)))) (fOp rMul (fC (.int 7)) (fV 5))) (fC (.int 5))) (fC (.int 1999999973))))
    (sSeq (sApp 2 (fCons (fOp rIx (fLst (fCons (fV 3) (fCons (fOp rMod (fV 4) (fC (.int 1000000))) fNil))) (fB kInt (fCons (fOp rGt (fV 4) (fC (.int 0))) fNil))) fNil))
    (sSet 4 (fOp rDiv (fV 4) (fC (.int 1000000)))))) ρ := Eq.trans rfl rfl
noncomputable def F__law_numbers_s : FS := (sSeq (sOwn 2 (fLst fNil))
    (sSeq (sSet 3 (fOp rMod (fOp rMul (fOp rAdd (fOp rMod (fV 0) (fC (.int 1999999973))) (fC (.int 31))) (fC (.int 765432101))) (fC (.int 1999999973))))
    (sSeq (sSet 4 (fC (.int 0)))
    (sSeq (sIf (fOrB (fT (fOp rLt (fV 0) (fC (.int 0)))) (fT (fOp rGe (fV 0) (fOp rPow (fC (.int 10)) (fC (.int 18)))))) (sSet 4 (fB kAbs (fCons (fV 0) fNil))) sSkip)
    (sSeq (sFor (fRng rng1 (fCons (fV 1) fNil)) (gN 5) F__law_numbers_b1)
    (sRetV 2))))))
theorem q_F__law_numbers_s {ρ : PSt} : F__law_numbers_s ρ = (sSeq (sOwn 2 (fLst fNil))
    (sSeq (sSet 3 (fOp rMod (fOp rMul (fOp rAdd (fOp rMod (fV 0) (fC (.int 1999999973))) (fC (.int 31))) (fC (.int 765432101))) (fC (.int 1999999973))))
    (sSeq (sSet 4 (fC (.int 0)))
    (sSeq (sIf (fOrB (fT (fOp rLt (fV 0) (fC (.int 0)))) (fT (fOp rGe (fV 0) (fOp rPow (fC (.int 10)) (fC (.int 18)))))) (sSet 4 (fB kAbs (fCons (fV 0) fNil))) sSkip)
    (sSeq (sFor (fRng rng1 (fCons (fV 1) fNil)) (gN 5) F__law_numbers_b1)
    (sRetV 2)))))) ρ := Eq.trans rfl rfl
noncomputable def F__law_numbers : List PV → Option PR := run 2 6 F__law_numbers_s
theorem q_F__law_numbers {a0 a1 : PV} : F__law_numbers [a0, a1] = (F__law_numbers_s [some (.val a0), some (.val a1), none, none, none, none]).res := Eq.trans rfl rfl
noncomputable def F__law_cell_b1 : FS := (sSet 2 (fOp rMod (fOp rAdd (fOp rMul (fV 2) (fC (.int 69621))) (fV 3)) (fC (.int 2147483647))))
theorem q_F__law_cell_b1 {ρ : PSt} : F__law_cell_b1 ρ = (sSet 2 (fOp rMod (fOp rAdd (fOp rMul (fV 2) (fC (.int 69621))) (fV 3)) (fC (.int 2147483647)))) ρ := Eq.trans rfl rfl
noncomputable def F__law_cell_s : FS := (sSeq (sIf (fT (fOp rLt (fV 1) (fB kLen (fCons (fV 0) fNil)))) (sRet (fOp rIx (fV 0) (fV 1))) sSkip)
    (sSeq (sSet 2 (fOp rMod (fOp rMul (fC (.int 48271)) (fOp rAdd (fOp rAdd (fOp rMul (fV 1) (fV 1)) (fOp rMul (fC (.int 7)) (fV 1))) (fC (.int 11)))) (fC (.int 2147483647))))
    (sSeq (sFor (fIt (fSl (fV 0) fNo (fPt (fC (.int 3))))) (gN 3) F__law_cell_b1)
    (sRetV 2))))
theorem q_F__law_cell_s {ρ : PSt} : F__law_cell_s ρ = (sSeq (sIf (fT (fOp rLt (fV 1) (fB kLen (fCons (fV 0) fNil)))) (sRet (fOp rIx (fV 0) (fV 1))) sSkip)
    (sSeq (sSet 2 (fOp rMod (fOp rMul (fC (.int 48271)) (fOp rAdd (fOp rAdd (fOp rMul (fV 1) (fV 1)) (fOp rMul (fC (.int 7)) (fV 1))) (fC (.int 11)))) (fC (.int 2147483647))))
    (sSeq (sFor (fIt (fSl (fV 0) fNo (fPt (fC (.int 3))))) (gN 3) F__law_cell_b1)
    (sRetV 2)))) ρ := Eq.trans rfl rfl
noncomputable def F__law_cell : List PV → Option PR := run 2 4 F__law_cell_s
theorem q_F__law_cell {a0 a1 : PV} : F__law_cell [a0, a1] = (F__law_cell_s [some (.val a0), some (.val a1), none, none]).res := Eq.trans rfl rfl
noncomputable def F_is_whole_s : FS := (sRet (fAndV (fB kIs (fCons (fV 0) (fCons (fC (.ty "int")) fNil))) (fFr (fNotV (fB kIs (fCons (fV 0) (fCons (fC (.ty "bool")) fNil)))))))
theorem q_F_is_whole_s {ρ : PSt} : F_is_whole_s ρ = (sRet (fAndV (fB kIs (fCons (fV 0) (fCons (fC (.ty "int")) fNil))) (fFr (fNotV (fB kIs (fCons (fV 0) (fCons (fC (.ty "bool")) fNil))))))) ρ := Eq.trans rfl rfl
noncomputable def F_is_whole : List PV → Option PR := run 1 1 F_is_whole_s
theorem q_F_is_whole {a0 : PV} : F_is_whole [a0] = (F_is_whole_s [some (.val a0)]).res := Eq.trans rfl rfl
noncomputable def F_is_many_s : FS := (sRet (fAndV (fCall F_is_whole (fCons (fV 0) fNil)) (fFr (fCh rLe rLe (fC (.int 1)) (fV 0) (fC (.int 40))))))
theorem q_F_is_many_s {ρ : PSt} : F_is_many_s ρ = (sRet (fAndV (fCall F_is_whole (fCons (fV 0) fNil)) (fFr (fCh rLe rLe (fC (.int 1)) (fV 0) (fC (.int 40)))))) ρ := Eq.trans rfl rfl
noncomputable def F_is_many : List PV → Option PR := run 1 1 F_is_many_s
theorem q_F_is_many {a0 : PV} : F_is_many [a0] = (F_is_many_s [some (.val a0)]).res := Eq.trans rfl rfl
noncomputable def F_leads_to_head_b1 : FS := (sSet 2 (fOp rIx (fV 0) (fV 2)))
theorem q_F_leads_to_head_b1 {ρ : PSt} : F_leads_to_head_b1 ρ = (sSet 2 (fOp rIx (fV 0) (fV 2))) ρ := Eq.trans rfl rfl
noncomputable def F_leads_to_head_s : FS := (sSeq (sSet 2 (fV 1))
    (sSeq (sFor (fRng rng1 (fCons (fB kLen (fCons (fV 0) fNil)) fNil)) (gN 3) F_leads_to_head_b1)
    (sRet (fOp rEq (fOp rIx (fV 0) (fV 2)) (fV 2)))))
theorem q_F_leads_to_head_s {ρ : PSt} : F_leads_to_head_s ρ = (sSeq (sSet 2 (fV 1))
    (sSeq (sFor (fRng rng1 (fCons (fB kLen (fCons (fV 0) fNil)) fNil)) (gN 3) F_leads_to_head_b1)
    (sRet (fOp rEq (fOp rIx (fV 0) (fV 2)) (fV 2))))) ρ := Eq.trans rfl rfl
noncomputable def F_leads_to_head : List PV → Option PR := run 2 4 F_leads_to_head_s
theorem q_F_leads_to_head {a0 a1 : PV} : F_leads_to_head [a0, a1] = (F_leads_to_head_s [some (.val a0), some (.val a1), none, none]).res := Eq.trans rfl rfl
noncomputable def F_is_thing_s : FS := (sRet (fAndV (fCall F_is_whole (fCons (fV 1) fNil)) (fFr (fCh rLe rLt (fC (.int 0)) (fV 1) (fV 0)))))
theorem q_F_is_thing_s {ρ : PSt} : F_is_thing_s ρ = (sRet (fAndV (fCall F_is_whole (fCons (fV 1) fNil)) (fFr (fCh rLe rLt (fC (.int 0)) (fV 1) (fV 0))))) ρ := Eq.trans rfl rfl
noncomputable def F_is_thing : List PV → Option PR := run 2 2 F_is_thing_s
theorem q_F_is_thing {a0 a1 : PV} : F_is_thing [a0, a1] = (F_is_thing_s [some (.val a0), some (.val a1)]).res := Eq.trans rfl rfl
noncomputable def F_is_forest_e1 : FE := (fCall F_is_thing (fCons (fV 1) (fCons (fV 0) fNil)))
theorem q_F_is_forest_e1 {ρ : PSt} : F_is_forest_e1 ρ = (fCall F_is_thing (fCons (fV 1) (fCons (fV 0) fNil))) ρ := Eq.trans rfl rfl
noncomputable def F_is_forest_e2 : FE := (fCall F_leads_to_head (fCons (fV 1) (fCons (fV 0) fNil)))
theorem q_F_is_forest_e2 {ρ : PSt} : F_is_forest_e2 ρ = (fCall F_leads_to_head (fCons (fV 1) (fCons (fV 0) fNil))) ρ := Eq.trans rfl rfl
noncomputable def F_is_forest_s : FS := (sSeq (sIf (fOrB (fNotB (fT (fB kIs (fCons (fV 0) (fCons (fC (.ty "tuple")) fNil))))) (fNotB (fT (fCall F_is_many (fCons (fB kLen (fCons (fV 0) fNil)) fNil))))) (sRet (fC (.bl false))) sSkip)
    (sSeq (sSet 1 (fB kLen (fCons (fV 0) fNil)))
    (sSeq (sIf (fNotB (fT (fB kAll (fCons (fComp [none, some 1] (fIt (fV 0)) (gN 0) fYes F_is_forest_e1) fNil)))) (sRet (fC (.bl false))) sSkip)
    (sRet (fB kAll (fCons (fComp [none, some 0] (fRng rng1 (fCons (fV 1) fNil)) (gN 0) fYes F_is_forest_e2) fNil))))))
theorem q_F_is_forest_s {ρ : PSt} : F_is_forest_s ρ = (sSeq (sIf (fOrB (fNotB (fT (fB kIs (fCons (fV 0) (fCons (fC (.ty "tuple")) fNil))))) (fNotB (fT (fCall F_is_many (fCons (fB kLen (fCons (fV 0) fNil)) fNil))))) (sRet (fC (.bl false))) sSkip)
    (sSeq (sSet 1 (fB kLen (fCons (fV 0) fNil)))
    (sSeq (sIf (fNotB (fT (fB kAll (fCons (fComp [none, some 1] (fIt (fV 0)) (gN 0) fYes F_is_forest_e1) fNil)))) (sRet (fC (.bl false))) sSkip)
    (sRet (fB kAll (fCons (fComp [none, some 0] (fRng rng1 (fCons (fV 1) fNil)) (gN 0) fYes F_is_forest_e2) fNil)))))) ρ := Eq.trans rfl rfl
noncomputable def F_is_forest : List PV → Option PR := run 1 2 F_is_forest_s
theorem q_F_is_forest {a0 : PV} : F_is_forest [a0] = (F_is_forest_s [some (.val a0), none]).res := Eq.trans rfl rfl
noncomputable def F_check_forest_s : FS := (sIf (fNotB (fT (fCall F_is_forest (fCons (fV 0) fNil)))) sBad sSkip)
theorem q_F_check_forest_s {ρ : PSt} : F_check_forest_s ρ = (sIf (fNotB (fT (fCall F_is_forest (fCons (fV 0) fNil)))) sBad sSkip) ρ := Eq.trans rfl rfl
noncomputable def F_check_forest : List PV → Option PR := run 1 1 F_check_forest_s
theorem q_F_check_forest {a0 : PV} : F_check_forest [a0] = (F_check_forest_s [some (.val a0)]).res := Eq.trans rfl rfl
noncomputable def F_check_thing_s : FS := (sIf (fNotB (fT (fCall F_is_thing (fCons (fV 0) (fCons (fV 1) fNil))))) sBad sSkip)
theorem q_F_check_thing_s {ρ : PSt} : F_check_thing_s ρ = (sIf (fNotB (fT (fCall F_is_thing (fCons (fV 0) (fCons (fV 1) fNil))))) sBad sSkip) ρ := Eq.trans rfl rfl
noncomputable def F_check_thing : List PV → Option PR := run 2 2 F_check_thing_s
theorem q_F_check_thing {a0 a1 : PV} : F_check_thing [a0, a1] = (F_check_thing_s [some (.val a0), some (.val a1)]).res := Eq.trans rfl rfl
noncomputable def F_check_forest_and_thing_s : FS := (sSeq (sDrop (fCall F_check_forest (fCons (fV 0) fNil)))
    (sDrop (fCall F_check_thing (fCons (fB kLen (fCons (fV 0) fNil)) (fCons (fV 1) fNil)))))
theorem q_F_check_forest_and_thing_s {ρ : PSt} : F_check_forest_and_thing_s ρ = (sSeq (sDrop (fCall F_check_forest (fCons (fV 0) fNil)))
    (sDrop (fCall F_check_thing (fCons (fB kLen (fCons (fV 0) fNil)) (fCons (fV 1) fNil))))) ρ := Eq.trans rfl rfl
noncomputable def F_check_forest_and_thing : List PV → Option PR := run 2 2 F_check_forest_and_thing_s
theorem q_F_check_forest_and_thing {a0 a1 : PV} : F_check_forest_and_thing [a0, a1] = (F_check_forest_and_thing_s [some (.val a0), some (.val a1)]).res := Eq.trans rfl rfl
noncomputable def F_way_up_c1 : FB := (fT (fOp rNe (fOp rIx (fV 0) (fOp rIx (fV 2) (fNeg (fC (.int 1))))) (fOp rIx (fV 2) (fNeg (fC (.int 1))))))
theorem q_F_way_up_c1 {ρ : PSt} : F_way_up_c1 ρ = (fT (fOp rNe (fOp rIx (fV 0) (fOp rIx (fV 2) (fNeg (fC (.int 1))))) (fOp rIx (fV 2) (fNeg (fC (.int 1)))))) ρ := Eq.trans rfl rfl
noncomputable def F_way_up_b2 : FS := (sApp 2 (fCons (fOp rIx (fV 0) (fOp rIx (fV 2) (fNeg (fC (.int 1))))) fNil))
theorem q_F_way_up_b2 {ρ : PSt} : F_way_up_b2 ρ = (sApp 2 (fCons (fOp rIx (fV 0) (fOp rIx (fV 2) (fNeg (fC (.int 1))))) fNil)) ρ := Eq.trans rfl rfl
noncomputable def F_way_up_s : FS := (sSeq (sOwn 2 (fLst (fCons (fV 1) fNil)))
    (sSeq (sWhile F_way_up_c1 F_way_up_b2)
    (sRetV 2)))
theorem q_F_way_up_s {ρ : PSt} : F_way_up_s ρ = (sSeq (sOwn 2 (fLst (fCons (fV 1) fNil)))
    (sSeq (sWhile F_way_up_c1 F_way_up_b2)
    (sRetV 2))) ρ := Eq.trans rfl rfl
noncomputable def F_way_up : List PV → Option PR := run 2 3 F_way_up_s
theorem q_F_way_up {a0 a1 : PV} : F_way_up [a0, a1] = (F_way_up_s [some (.val a0), some (.val a1), none]).res := Eq.trans rfl rfl
noncomputable def F_depth_of_s : FS := (sSeq (sDrop (fCall F_check_forest_and_thing (fCons (fV 0) (fCons (fV 1) fNil))))
    (sRet (fOp rSub (fB kLen (fCons (fCall F_way_up (fCons (fV 0) (fCons (fV 1) fNil))) fNil)) (fC (.int 1)))))
theorem q_F_depth_of_s {ρ : PSt} : F_depth_of_s ρ = (sSeq (sDrop (fCall F_check_forest_and_thing (fCons (fV 0) (fCons (fV 1) fNil))))
    (sRet (fOp rSub (fB kLen (fCons (fCall F_way_up (fCons (fV 0) (fCons (fV 1) fNil))) fNil)) (fC (.int 1))))) ρ := Eq.trans rfl rfl
noncomputable def F_depth_of : List PV → Option PR := run 2 2 F_depth_of_s
theorem q_F_depth_of {a0 a1 : PV} : F_depth_of [a0, a1] = (F_depth_of_s [some (.val a0), some (.val a1)]).res := Eq.trans rfl rfl
noncomputable def F__law_forest_e1 : FE := (fTup (fCons (fOp rMod (fOp rIx (fV 1) (fV 0)) (fC (.int 9973))) (fCons (fV 0) fNil)))
theorem q_F__law_forest_e1 {ρ : PSt} : F__law_forest_e1 ρ = (fTup (fCons (fOp rMod (fOp rIx (fV 1) (fV 0)) (fC (.int 9973))) (fCons (fV 0) fNil))) ρ := Eq.trans rfl rfl
noncomputable def F__law_forest_e2 : FE := (fOp rIx (fV 0) (fC (.int 1)))
theorem q_F__law_forest_e2 {ρ : PSt} : F__law_forest_e2 ρ = (fOp rIx (fV 0) (fC (.int 1))) ρ := Eq.trans rfl rfl
noncomputable def F__law_forest_b3 : FS := (sSeq (sSet 7 (fOp rIx (fLst (fCons (fOp rMod (fOp rDiv (fOp rIx (fV 0) (fOp rIx (fV 3) (fV 6))) (fC (.int 9973))) (fV 6)) (fCons (fOp rSub (fV 6) (fC (.int 1))) (fCons (fC (.int 0)) (fCons (fV 6) (fCons (fOp rSub (fV 6) (fOp rBand (fV 6) (fOp rSub (fC (.int 0)) (fV 6)))) fNil)))))) (fV 5)))
    (sIf (fOrB (fT (fOp rNe (fV 5) (fC (.int 0)))) (fT (fOp rGt (fOp rMod (fOp rDiv (fOp rIx (fV 0) (fOp rIx (fV 3) (fV 6))) (fC (.int 1000))) (fC (.int 4))) (fC (.int 0))))) (sPut 4 (fOp rIx (fV 3) (fV 6)) (fOp rIx (fV 3) (fV 7))) sSkip))
theorem q_F__law_forest_b3 {ρ : PSt} : F__law_forest_b3 ρ = (sSeq (sSet 7 (fOp rIx (fLst (fCons (fOp rMod (fOp rDiv (fOp rIx (fV 0) (fOp rIx (fV 3) (fV 6))) (fC (.int 9973))) (fV 6)) (fCons (fOp rSub (fV 6) (fC (.int 1))) (fCons (fC (.int 0)) (fCons (fV 6) (fCons (fOp rSub (fV 6) (fOp rBand (fV 6) (fOp rSub (fC (.int 0)) (fV 6)))) fNil)))))) (fV 5)))
    (sIf (fOrB (fT (fOp rNe (fV 5) (fC (.int 0)))) (fT (fOp rGt (fOp rMod (fOp rDiv (fOp rIx (fV 0) (fOp rIx (fV 3) (fV 6))) (fC (.int 1000))) (fC (.int 4))) (fC (.int 0))))) (sPut 4 (fOp rIx (fV 3) (fV 6)) (fOp rIx (fV 3) (fV 7))) sSkip)) ρ := Eq.trans rfl rfl
noncomputable def F__law_forest_s : FS := (sSeq (sSet 2 (fB kSorted (fCons (fComp [none, some 0] (fRng rng1 (fCons (fV 1) fNil)) (gN 0) fYes F__law_forest_e1) fNil)))
    (sSeq (sSet 3 (fComp [none] (fIt (fV 2)) (gN 0) fYes F__law_forest_e2))
    (sSeq (sOwn 4 (fB kList (fCons (fB kRng (fCons (fV 1) fNil)) fNil)))
    (sSeq (sSet 5 (fOp rMod (fOp rIx (fV 0) (fV 1)) (fC (.int 5))))
    (sSeq (sFor (fRng rng2 (fCons (fC (.int 1)) (fCons (fV 1) fNil))) (gN 6) F__law_forest_b3)
    (sRet (fB kTup (fCons (fV 4) fNil))))))))
theorem q_F__law_forest_s {ρ : PSt} : F__law_forest_s ρ = (sSeq (sSet 2 (fB kSorted (fCons (fComp [none, some 0] (fRng rng1 (fCons (fV 1) fNil)) (gN 0) fYes F__law_forest_e1) fNil)))
    (sSeq (sSet 3 (fComp [none] (fIt (fV 2)) (gN 0) fYes F__law_forest_e2))
    (sSeq (sOwn 4 (fB kList (fCons (fB kRng (fCons (fV 1) fNil)) fNil)))
    (sSeq (sSet 5 (fOp rMod (fOp rIx (fV 0) (fV 1)) (fC (.int 5))))
    (sSeq (sFor (fRng rng2 (fCons (fC (.int 1)) (fCons (fV 1) fNil))) (gN 6) F__law_forest_b3)
    (sRet (fB kTup (fCons (fV 4) fNil)))))))) ρ := Eq.trans rfl rfl
noncomputable def F__law_forest : List PV → Option PR := run 2 8 F__law_forest_s
theorem q_F__law_forest {a0 a1 : PV} : F__law_forest [a0, a1] = (F__law_forest_s [some (.val a0), some (.val a1), none, none, none, none, none, none]).res := Eq.trans rfl rfl
noncomputable def F__law_many_s : FS := (sRet (fOp rIx (fLst (fCons (fOp rAdd (fC (.int 1)) (fOp rMod (fOp rDiv (fV 0) (fC (.int 8))) (fC (.int 12)))) (fCons (fOp rAdd (fC (.int 1)) (fOp rMod (fOp rDiv (fV 0) (fC (.int 8))) (fC (.int 40)))) fNil))) (fB kInt (fCons (fOp rEq (fOp rMod (fV 0) (fC (.int 8))) (fC (.int 3))) fNil))))
theorem q_F__law_many_s {ρ : PSt} : F__law_many_s ρ = (sRet (fOp rIx (fLst (fCons (fOp rAdd (fC (.int 1)) (fOp rMod (fOp rDiv (fV 0) (fC (.int 8))) (fC (.int 12)))) (fCons (fOp rAdd (fC (.int 1)) (fOp rMod (fOp rDiv (fV 0) (fC (.int 8))) (fC (.int 40)))) fNil))) (fB kInt (fCons (fOp rEq (fOp rMod (fV 0) (fC (.int 8))) (fC (.int 3))) fNil)))) ρ := Eq.trans rfl rfl
noncomputable def F__law_many : List PV → Option PR := run 1 1 F__law_many_s
theorem q_F__law_many {a0 : PV} : F__law_many [a0] = (F__law_many_s [some (.val a0)]).res := Eq.trans rfl rfl
noncomputable def F_lots_of_s : FS := (sSeq (sDrop (fCall F_check_forest (fCons (fV 0) fNil)))
    (sRet (fCall F_lots_in (fCons (fV 0) fNil))))
theorem q_F_lots_of_s {ρ : PSt} : F_lots_of_s ρ = (sSeq (sDrop (fCall F_check_forest (fCons (fV 0) fNil)))
    (sRet (fCall F_lots_in (fCons (fV 0) fNil)))) ρ := Eq.trans rfl rfl
noncomputable def F_lots_of : List PV → Option PR := run 1 1 F_lots_of_s
theorem q_F_lots_of {a0 : PV} : F_lots_of [a0] = (F_lots_of_s [some (.val a0)]).res := Eq.trans rfl rfl
noncomputable def F__law_way_c1 : FB := (fAndB (fT (fOp rNe (fOp rIx (fV 0) (fOp rIx (fV 2) (fNeg (fC (.int 1))))) (fOp rIx (fV 2) (fNeg (fC (.int 1)))))) (fT (fOp rLe (fB kLen (fCons (fV 2) fNil)) (fB kLen (fCons (fV 0) fNil)))))
theorem q_F__law_way_c1 {ρ : PSt} : F__law_way_c1 ρ = (fAndB (fT (fOp rNe (fOp rIx (fV 0) (fOp rIx (fV 2) (fNeg (fC (.int 1))))) (fOp rIx (fV 2) (fNeg (fC (.int 1)))))) (fT (fOp rLe (fB kLen (fCons (fV 2) fNil)) (fB kLen (fCons (fV 0) fNil))))) ρ := Eq.trans rfl rfl
noncomputable def F__law_way_b2 : FS := (sApp 2 (fCons (fOp rIx (fV 0) (fOp rIx (fV 2) (fNeg (fC (.int 1))))) fNil))
theorem q_F__law_way_b2 {ρ : PSt} : F__law_way_b2 ρ = (sApp 2 (fCons (fOp rIx (fV 0) (fOp rIx (fV 2) (fNeg (fC (.int 1))))) fNil)) ρ := Eq.trans rfl rfl
noncomputable def F__law_way_s : FS := (sSeq (sOwn 2 (fLst (fCons (fV 1) fNil)))
    (sSeq (sWhile F__law_way_c1 F__law_way_b2)
    (sRetV 2)))
theorem q_F__law_way_s {ρ : PSt} : F__law_way_s ρ = (sSeq (sOwn 2 (fLst (fCons (fV 1) fNil)))
    (sSeq (sWhile F__law_way_c1 F__law_way_b2)
    (sRetV 2))) ρ := Eq.trans rfl rfl
noncomputable def F__law_way : List PV → Option PR := run 2 3 F__law_way_s
theorem q_F__law_way {a0 a1 : PV} : F__law_way [a0, a1] = (F__law_way_s [some (.val a0), some (.val a1), none]).res := Eq.trans rfl rfl
noncomputable def F_head_of_s : FS := (sSeq (sDrop (fCall F_check_forest_and_thing (fCons (fV 0) (fCons (fV 1) fNil))))
    (sRet (fOp rIx (fCall F_way_up (fCons (fV 0) (fCons (fV 1) fNil))) (fNeg (fC (.int 1))))))
theorem q_F_head_of_s {ρ : PSt} : F_head_of_s ρ = (sSeq (sDrop (fCall F_check_forest_and_thing (fCons (fV 0) (fCons (fV 1) fNil))))
    (sRet (fOp rIx (fCall F_way_up (fCons (fV 0) (fCons (fV 1) fNil))) (fNeg (fC (.int 1)))))) ρ := Eq.trans rfl rfl
noncomputable def F_head_of : List PV → Option PR := run 2 2 F_head_of_s
theorem q_F_head_of {a0 a1 : PV} : F_head_of [a0, a1] = (F_head_of_s [some (.val a0), some (.val a1)]).res := Eq.trans rfl rfl
noncomputable def F_way_of_s : FS := (sSeq (sDrop (fCall F_check_forest_and_thing (fCons (fV 0) (fCons (fV 1) fNil))))
    (sRet (fB kTup (fCons (fCall F_way_up (fCons (fV 0) (fCons (fV 1) fNil))) fNil))))
theorem q_F_way_of_s {ρ : PSt} : F_way_of_s ρ = (sSeq (sDrop (fCall F_check_forest_and_thing (fCons (fV 0) (fCons (fV 1) fNil))))
    (sRet (fB kTup (fCons (fCall F_way_up (fCons (fV 0) (fCons (fV 1) fNil))) fNil)))) ρ := Eq.trans rfl rfl
noncomputable def F_way_of : List PV → Option PR := run 2 2 F_way_of_s
theorem q_F_way_of {a0 a1 : PV} : F_way_of [a0, a1] = (F_way_of_s [some (.val a0), some (.val a1)]).res := Eq.trans rfl rfl
noncomputable def F_height_of_e1 : FE := (fOp rSub (fB kLen (fCons (fCall F_way_up (fCons (fV 1) (fCons (fV 0) fNil))) fNil)) (fC (.int 1)))
theorem q_F_height_of_e1 {ρ : PSt} : F_height_of_e1 ρ = (fOp rSub (fB kLen (fCons (fCall F_way_up (fCons (fV 1) (fCons (fV 0) fNil))) fNil)) (fC (.int 1))) ρ := Eq.trans rfl rfl
noncomputable def F_height_of_s : FS := (sSeq (sDrop (fCall F_check_forest (fCons (fV 0) fNil)))
    (sRet (fB kMaxL (fCons (fComp [none, some 0] (fRng rng1 (fCons (fB kLen (fCons (fV 0) fNil)) fNil)) (gN 0) fYes F_height_of_e1) fNil))))
theorem q_F_height_of_s {ρ : PSt} : F_height_of_s ρ = (sSeq (sDrop (fCall F_check_forest (fCons (fV 0) fNil)))
    (sRet (fB kMaxL (fCons (fComp [none, some 0] (fRng rng1 (fCons (fB kLen (fCons (fV 0) fNil)) fNil)) (gN 0) fYes F_height_of_e1) fNil)))) ρ := Eq.trans rfl rfl
noncomputable def F_height_of : List PV → Option PR := run 1 1 F_height_of_s
theorem q_F_height_of {a0 : PV} : F_height_of [a0] = (F_height_of_s [some (.val a0)]).res := Eq.trans rfl rfl
noncomputable def F_sizes_in_b1 : FS := (sAugIx (fun a b => a + b) 1 (fV 3) (fC (.int 1)))
theorem q_F_sizes_in_b1 {ρ : PSt} : F_sizes_in_b1 ρ = (sAugIx (fun a b => a + b) 1 (fV 3) (fC (.int 1))) ρ := Eq.trans rfl rfl
noncomputable def F_sizes_in_b2 : FS := (sFor (fIt (fCall F_way_up (fCons (fV 0) (fCons (fV 2) fNil)))) (gN 3) F_sizes_in_b1)
theorem q_F_sizes_in_b2 {ρ : PSt} : F_sizes_in_b2 ρ = (sFor (fIt (fCall F_way_up (fCons (fV 0) (fCons (fV 2) fNil)))) (gN 3) F_sizes_in_b1) ρ := Eq.trans rfl rfl
noncomputable def F_sizes_in_s : FS := (sSeq (sOwn 1 (fOp rMul (fLst (fCons (fC (.int 0)) fNil)) (fB kLen (fCons (fV 0) fNil))))
    (sSeq (sFor (fRng rng1 (fCons (fB kLen (fCons (fV 0) fNil)) fNil)) (gN 2) F_sizes_in_b2)
    (sRetV 1)))
theorem q_F_sizes_in_s {ρ : PSt} : F_sizes_in_s ρ = (sSeq (sOwn 1 (fOp rMul (fLst (fCons (fC (.int 0)) fNil)) (fB kLen (fCons (fV 0) fNil))))
    (sSeq (sFor (fRng rng1 (fCons (fB kLen (fCons (fV 0) fNil)) fNil)) (gN 2) F_sizes_in_b2)
    (sRetV 1))) ρ := Eq.trans rfl rfl
noncomputable def F_sizes_in : List PV → Option PR := run 1 4 F_sizes_in_s
theorem q_F_sizes_in {a0 : PV} : F_sizes_in [a0] = (F_sizes_in_s [some (.val a0), none, none, none]).res := Eq.trans rfl rfl
noncomputable def F_size_of_s : FS := (sSeq (sDrop (fCall F_check_forest_and_thing (fCons (fV 0) (fCons (fV 1) fNil))))
    (sRet (fOp rIx (fCall F_sizes_in (fCons (fV 0) fNil)) (fV 1))))
theorem q_F_size_of_s {ρ : PSt} : F_size_of_s ρ = (sSeq (sDrop (fCall F_check_forest_and_thing (fCons (fV 0) (fCons (fV 1) fNil))))
    (sRet (fOp rIx (fCall F_sizes_in (fCons (fV 0) fNil)) (fV 1)))) ρ := Eq.trans rfl rfl
noncomputable def F_size_of : List PV → Option PR := run 2 2 F_size_of_s
theorem q_F_size_of {a0 a1 : PV} : F_size_of [a0, a1] = (F_size_of_s [some (.val a0), some (.val a1)]).res := Eq.trans rfl rfl
noncomputable def F_lot_with_c1 : FB := (fT (fOp rEq (fOp rIx (fCall F_way_up (fCons (fV 1) (fCons (fV 0) fNil))) (fNeg (fC (.int 1)))) (fV 2)))
theorem q_F_lot_with_c1 {ρ : PSt} : F_lot_with_c1 ρ = (fT (fOp rEq (fOp rIx (fCall F_way_up (fCons (fV 1) (fCons (fV 0) fNil))) (fNeg (fC (.int 1)))) (fV 2))) ρ := Eq.trans rfl rfl
noncomputable def F_lot_with_e2 : FE := (fV 0)
theorem q_F_lot_with_e2 {ρ : PSt} : F_lot_with_e2 ρ = (fV 0) ρ := Eq.trans rfl rfl
noncomputable def F_lot_with_s : FS := (sSeq (sSet 2 (fOp rIx (fCall F_way_up (fCons (fV 0) (fCons (fV 1) fNil))) (fNeg (fC (.int 1)))))
    (sRet (fB kTup (fCons (fComp [none, some 0, some 2] (fRng rng1 (fCons (fB kLen (fCons (fV 0) fNil)) fNil)) (gN 0) F_lot_with_c1 F_lot_with_e2) fNil))))
theorem q_F_lot_with_s {ρ : PSt} : F_lot_with_s ρ = (sSeq (sSet 2 (fOp rIx (fCall F_way_up (fCons (fV 0) (fCons (fV 1) fNil))) (fNeg (fC (.int 1)))))
    (sRet (fB kTup (fCons (fComp [none, some 0, some 2] (fRng rng1 (fCons (fB kLen (fCons (fV 0) fNil)) fNil)) (gN 0) F_lot_with_c1 F_lot_with_e2) fNil)))) ρ := Eq.trans rfl rfl
noncomputable def F_lot_with : List PV → Option PR := run 2 3 F_lot_with_s
theorem q_F_lot_with {a0 a1 : PV} : F_lot_with [a0, a1] = (F_lot_with_s [some (.val a0), some (.val a1), none]).res := Eq.trans rfl rfl
noncomputable def F_lot_of_s : FS := (sSeq (sDrop (fCall F_check_forest_and_thing (fCons (fV 0) (fCons (fV 1) fNil))))
    (sRet (fCall F_lot_with (fCons (fV 0) (fCons (fV 1) fNil)))))
theorem q_F_lot_of_s {ρ : PSt} : F_lot_of_s ρ = (sSeq (sDrop (fCall F_check_forest_and_thing (fCons (fV 0) (fCons (fV 1) fNil))))
    (sRet (fCall F_lot_with (fCons (fV 0) (fCons (fV 1) fNil))))) ρ := Eq.trans rfl rfl
noncomputable def F_lot_of : List PV → Option PR := run 2 2 F_lot_of_s
theorem q_F_lot_of {a0 a1 : PV} : F_lot_of [a0, a1] = (F_lot_of_s [some (.val a0), some (.val a1)]).res := Eq.trans rfl rfl
end Dp
end
section
namespace Dp
open PySem L2 Fo Pu
noncomputable def oThen (o : Out) (u : FS) : Out := match o with
  | .nx ρ' => u ρ'
  | o => o
noncomputable def oDrop (o : Option RV) (ρ : PSt) : Out := match o with
  | some (.fz _) => .nx ρ
  | _ => .bad
noncomputable def oRet (o : Option RV) : Out := match o with
  | some (.fz p) => .rt p
  | some (.nw ps) => .rn ps
  | _ => .bad
noncomputable def oRetV (o : Option Sl) : Out := match o with
  | some (.val p) => .rt p
  | some (.own ps) => .rn ps
  | _ => .bad
noncomputable def oIf (o : Option Bool) (s u : FS) (ρ : PSt) : Out := match o with
  | some true => s ρ
  | some false => u ρ
  | none => .bad
noncomputable def oSet (o : Option PV) (i : Nat) (ρ : PSt) : Out := match o with
  | some p => .nx (ρ.set i (some (.val p)))
  | none => .bad
noncomputable def oOwn (o : Option RV) (i : Nat) (ρ : PSt) : Out := match o with
  | some (.fz p) => .nx (ρ.set i (some (.val p)))
  | some (.nw ps) => .nx (ρ.set i (some (.own ps)))
  | _ => .bad
noncomputable def oNx (o : Option PSt) : Out := match o with
  | some ρ' => .nx ρ'
  | none => .bad
noncomputable def oAsg (o : Option PV) (t : FT) (ρ : PSt) : Out := match o with
  | some p => oNx (t p ρ)
  | none => .bad
noncomputable def oPar (o : Option (List PV)) (i j : Nat) (ρ : PSt) : Out := match o with
  | some [p, q] => .nx ((ρ.set i (some (.val p))).set j (some (.val q)))
  | _ => .bad
noncomputable def oAug (g : Int → Int → Int) (a : Option Sl) (b : Option PV) (i : Nat) (ρ : PSt) : Out := match a, b with
  | some (.val (.int a)), some (.int b) => .nx (ρ.set i (some (.val (.int (g a b)))))
  | _, _ => .bad
noncomputable def oApp (a : Option Sl) (b : Option (List PV)) (i : Nat) (ρ : PSt) : Out := match a, b with
  | some (.own ps), some [q] => if ps.length ≤ 100000 then .nx (ρ.set i (some (.own (ps ++ [q])))) else .bad
  | _, _ => .bad
noncomputable def oPut2 (o : Option Nat) (v : PV) (ps : List PV) (j : Nat) (ρ : PSt) : Out := match o with
  | some n => .nx (ρ.set j (some (.own (ps.set n v))))
  | none => .bad
noncomputable def oPut (v : Option PV) (a : Option Sl) (k : Option PV) (j : Nat) (ρ : PSt) : Out := match v, a, k with
  | some v, some (.own ps), some (.int k) => oPut2 (ixN ps.length k) v ps j ρ
  | _, _, _ => .bad
noncomputable def oFor (o : Option (List PV)) (t : FT) (s : FS) (ρ : PSt) : Out := match o with
  | some its => loopF t s its ρ
  | none => .bad
noncomputable def oNeg (o : Option PV) : Option RV := match o with
  | some (.int i) => some (.fz (.int (-i)))
  | _ => none
noncomputable def oPt (o : Option PV) : Option (Option Int) := match o with
  | some (.int i) => some (some i)
  | _ => none
noncomputable def oCall (F : List PV → Option PR) (o : Option (List PV)) (rs : List RV) : Option RV := match o with
  | some ps => (F ps).map rvOf
  | none => (F (rs.map RV.pv)).bind fun r => if tfR r = true then some (rvOf r) else none
noncomputable def oEnum (ps : List PV) : Option (List PV) := match ps with
  | [p] => (lstOf p).map (enumP 0)
  | _ => none
noncomputable def oLoop (o : Out) (t : FT) (s : FS) (ps : List PV) : Out := match o with
  | .nx ρ2 => loopF t s ps ρ2
  | .ct ρ2 => loopF t s ps ρ2
  | .bk ρ2 => .nx ρ2
  | o => o
noncomputable def oLoop0 (o : Option PSt) (t : FT) (s : FS) (ps : List PV) : Out := match o with
  | some ρ => oLoop (s ρ) t s ps
  | none => .bad
theorem loop_S {t : FT} {s : FS} {p : PV} {ps : List PV} {ρ : PSt} : loopF t s (p :: ps) ρ = oLoop0 (t p ρ) t s ps := Eq.trans rfl rfl
noncomputable def oWl (o : Out) (c : FB) (s : FS) (n : Nat) : Out := match o with
  | .nx ρ2 => whileF c s n ρ2
  | .ct ρ2 => whileF c s n ρ2
  | .bk ρ2 => .nx ρ2
  | o => o
noncomputable def oWh (o : Option Bool) (c : FB) (s : FS) (n : Nat) (ρ : PSt) : Out := match o with
  | some true => oWl (s ρ) c s n
  | some false => .nx ρ
  | none => .bad
theorem while_S {c : FB} {s : FS} {n : Nat} {ρ : PSt} : whileF c s (n + 1) ρ = oWh (c ρ) c s n ρ := Eq.trans rfl rfl
noncomputable def oAugIx2 (g : Int → Int → Int) (o : Option PV) (ps : List PV) (k b : Int) (j : Nat) (ρ : PSt) : Out := match o with
  | some (.int a) => .nx (ρ.set j (some (.own (ps.set k.toNat (.int (g a b))))))
  | _ => .bad
noncomputable def oAugIx (g : Int → Int → Int) (a : Option Sl) (k b : Option PV) (j : Nat) (ρ : PSt) : Out := match a, k, b with
  | some (.own ps), some (.int k), some (.int b) => if 0 ≤ k then oAugIx2 g ps[k.toNat]? ps k b j ρ else .bad
  | _, _, _ => .bad
theorem x_frzS {s : Option Sl} {i : Nat} {ρ : PSt} : frz (i + 1) (s :: ρ) = s :: frz i ρ := by
  unfold frz
  rw [List.getElem?_cons_succ]
  split <;> simp_all
theorem x_mapM_cons {r : RV} {rs : List RV} : (r :: rs).mapM RV.fr = r.fr.bind fun p => (rs.mapM RV.fr).bind fun ps => some (p :: ps) := by
  rw [List.mapM_cons]; rfl
theorem x_seq {s u : FS} {ρ : PSt} : sSeq s u ρ = oThen (s ρ) u := Eq.trans rfl rfl
theorem x_ol_nx {t : FT} {s : FS} {ps : List PV} {ρ : PSt} : oLoop (.nx ρ) t s ps = loopF t s ps ρ := Eq.trans rfl rfl
theorem x_ol_ct {t : FT} {s : FS} {ps : List PV} {ρ : PSt} : oLoop (.ct ρ) t s ps = loopF t s ps ρ := Eq.trans rfl rfl
theorem x_ol_bk {t : FT} {s : FS} {ps : List PV} {ρ : PSt} : oLoop (.bk ρ) t s ps = .nx ρ := Eq.trans rfl rfl
theorem x_ol_rt {t : FT} {s : FS} {ps : List PV} {p : PV} : oLoop (.rt p) t s ps = .rt p := Eq.trans rfl rfl
theorem x_ol_rn {t : FT} {s : FS} {ps : List PV} {p : List PV} : oLoop (.rn p) t s ps = .rn p := Eq.trans rfl rfl
theorem x_ol0_s {t : FT} {s : FS} {ps : List PV} {ρ : PSt} : oLoop0 (some ρ) t s ps = oLoop (s ρ) t s ps := Eq.trans rfl rfl
theorem x_loop0 {t : FT} {s : FS} {ρ : PSt} : loopF t s [] ρ = .nx ρ := Eq.trans rfl rfl
theorem x_wl_nx {c : FB} {s : FS} {n : Nat} {ρ : PSt} : oWl (.nx ρ) c s n = whileF c s n ρ := Eq.trans rfl rfl
theorem x_wl_ct {c : FB} {s : FS} {n : Nat} {ρ : PSt} : oWl (.ct ρ) c s n = whileF c s n ρ := Eq.trans rfl rfl
theorem x_wl_bk {c : FB} {s : FS} {n : Nat} {ρ : PSt} : oWl (.bk ρ) c s n = .nx ρ := Eq.trans rfl rfl
theorem x_wl_rt {c : FB} {s : FS} {n : Nat} {p : PV} : oWl (.rt p) c s n = .rt p := Eq.trans rfl rfl
theorem x_wh_t {c : FB} {s : FS} {n : Nat} {ρ : PSt} : oWh (some true) c s n ρ = oWl (s ρ) c s n := Eq.trans rfl rfl
theorem x_wh_f {c : FB} {s : FS} {n : Nat} {ρ : PSt} : oWh (some false) c s n ρ = .nx ρ := Eq.trans rfl rfl
theorem x_then_nx {u : FS} {ρ : PSt} : oThen (.nx ρ) u = u ρ := Eq.trans rfl rfl
theorem x_then_rt {u : FS} {p : PV} : oThen (.rt p) u = .rt p := Eq.trans rfl rfl
theorem x_then_rn {u : FS} {p : List PV} : oThen (.rn p) u = .rn p := Eq.trans rfl rfl
theorem x_then_bk {u : FS} {ρ : PSt} : oThen (.bk ρ) u = .bk ρ := Eq.trans rfl rfl
theorem x_then_ct {u : FS} {ρ : PSt} : oThen (.ct ρ) u = .ct ρ := Eq.trans rfl rfl
theorem x_skip {ρ : PSt} : sSkip ρ = .nx ρ := Eq.trans rfl rfl
theorem x_bk {ρ : PSt} : sBk ρ = .bk ρ := Eq.trans rfl rfl
theorem x_ct {ρ : PSt} : sCt ρ = .ct ρ := Eq.trans rfl rfl
theorem x_drop {f : FE} {ρ : PSt} : sDrop f ρ = oDrop (f ρ) ρ := Eq.trans rfl rfl
theorem x_drop_fz {p : PV} {ρ : PSt} : oDrop (some (.fz p)) ρ = .nx ρ := Eq.trans rfl rfl
theorem x_ret {f : FE} {ρ : PSt} : sRet f ρ = oRet (f ρ) := Eq.trans rfl rfl
theorem x_ret_fz {p : PV} : oRet (some (.fz p)) = .rt p := Eq.trans rfl rfl
theorem x_ret_nw {p : List PV} : oRet (some (.nw p)) = .rn p := Eq.trans rfl rfl
theorem x_retV {i : Nat} {ρ : PSt} : sRetV i ρ = oRetV (sl ρ i) := Eq.trans rfl rfl
theorem x_retV_v {p : PV} : oRetV (some (.val p)) = .rt p := Eq.trans rfl rfl
theorem x_retV_o {p : List PV} : oRetV (some (.own p)) = .rn p := Eq.trans rfl rfl
theorem x_if {g : FB} {s u : FS} {ρ : PSt} : sIf g s u ρ = oIf (g ρ) s u ρ := Eq.trans rfl rfl
theorem x_if_t {s u : FS} {ρ : PSt} : oIf (some true) s u ρ = s ρ := Eq.trans rfl rfl
theorem x_if_f {s u : FS} {ρ : PSt} : oIf (some false) s u ρ = u ρ := Eq.trans rfl rfl
theorem x_set {i : Nat} {f : FE} {ρ : PSt} : sSet i f ρ = oSet ((f ρ).bind RV.fr) i ρ := Eq.trans rfl rfl
theorem x_set_s {i : Nat} {p : PV} {ρ : PSt} : oSet (some p) i ρ = .nx (ρ.set i (some (.val p))) := Eq.trans rfl rfl
theorem x_own {i : Nat} {f : FE} {ρ : PSt} : sOwn i f ρ = oOwn (f ρ) i ρ := Eq.trans rfl rfl
theorem x_own_fz {i : Nat} {p : PV} {ρ : PSt} : oOwn (some (.fz p)) i ρ = .nx (ρ.set i (some (.val p))) := Eq.trans rfl rfl
theorem x_own_nw {i : Nat} {p : List PV} {ρ : PSt} : oOwn (some (.nw p)) i ρ = .nx (ρ.set i (some (.own p))) := Eq.trans rfl rfl
theorem x_asg {f : FE} {t : FT} {ρ : PSt} : sAsg f t ρ = oAsg ((f ρ).bind RV.fr) t ρ := Eq.trans rfl rfl
theorem x_asg_s {p : PV} {t : FT} {ρ : PSt} : oAsg (some p) t ρ = oNx (t p ρ) := Eq.trans rfl rfl
theorem x_nx_s {ρ : PSt} : oNx (some ρ) = .nx ρ := Eq.trans rfl rfl
theorem x_par {i j : Nat} {fs : FA} {ρ : PSt} : sPar i j fs ρ = oPar ((fs ρ).bind fun rs => rs.mapM RV.fr) i j ρ := Eq.trans rfl rfl
theorem x_par_s {i j : Nat} {p q : PV} {ρ : PSt} : oPar (some [p, q]) i j ρ = .nx ((ρ.set i (some (.val p))).set j (some (.val q))) := Eq.trans rfl rfl
theorem x_frz {i : Nat} {s : FS} {ρ : PSt} : sFrz i s ρ = s (frz i ρ) := Eq.trans rfl rfl
theorem x_frz0o {ps : List PV} {ρ : PSt} : frz 0 (some (.own ps) :: ρ) = some (.val (.lst ps)) :: ρ := Eq.trans rfl rfl
theorem x_frz0v {p : PV} {ρ : PSt} : frz 0 (some (.val p) :: ρ) = some (.val p) :: ρ := Eq.trans rfl rfl
theorem x_aug {g : Int → Int → Int} {i : Nat} {f : FE} {ρ : PSt} : sAug g i f ρ = oAug g (sl ρ i) ((f ρ).bind RV.fr) i ρ := Eq.trans rfl rfl
theorem x_aug_s {g : Int → Int → Int} {i : Nat} {a b : Int} {ρ : PSt} : oAug g (some (.val (.int a))) (some (.int b)) i ρ = .nx (ρ.set i (some (.val (.int (g a b))))) := Eq.trans rfl rfl
theorem x_app {i : Nat} {fs : FA} {ρ : PSt} : sApp i fs ρ = oApp (sl ρ i) ((fs ρ).bind fun rs => rs.mapM RV.fr) i ρ := Eq.trans rfl rfl
theorem x_app_s {i : Nat} {ps : List PV} {q : PV} {ρ : PSt} : oApp (some (.own ps)) (some [q]) i ρ = if ps.length ≤ 100000 then .nx (ρ.set i (some (.own (ps ++ [q])))) else .bad := Eq.trans rfl rfl
theorem x_put {j : Nat} {fi f : FE} {ρ : PSt} : sPut j fi f ρ = oPut ((f ρ).bind RV.fr) (sl ρ j) ((fi ρ).bind RV.fr) j ρ := Eq.trans rfl rfl
theorem x_put_s {v : PV} {ps : List PV} {k : Int} {j : Nat} {ρ : PSt} : oPut (some v) (some (.own ps)) (some (.int k)) j ρ = oPut2 (ixN ps.length k) v ps j ρ := Eq.trans rfl rfl
theorem x_put_n {v : PV} {ps : List PV} {n j : Nat} {ρ : PSt} : oPut2 (some n) v ps j ρ = .nx (ρ.set j (some (.own (ps.set n v)))) := Eq.trans rfl rfl
theorem x_for {it : FI} {t : FT} {s : FS} {ρ : PSt} : sFor it t s ρ = oFor (it ρ) t s ρ := Eq.trans rfl rfl
theorem x_for_s {its : List PV} {t : FT} {s : FS} {ρ : PSt} : oFor (some its) t s ρ = loopF t s its ρ := Eq.trans rfl rfl
theorem x_while {c : FB} {s : FS} {ρ : PSt} : sWhile c s ρ = whileF c s 10000 ρ := Eq.trans rfl rfl
theorem x_res_nx {ρ : PSt} : Out.res (.nx ρ) = some (.v .non) := Eq.trans rfl rfl
theorem x_res_rt {p : PV} : Out.res (.rt p) = some (.v p) := Eq.trans rfl rfl
theorem x_res_rn {p : List PV} : Out.res (.rn p) = some (.n p) := Eq.trans rfl rfl
theorem x_v {i : Nat} {ρ : PSt} : fV i ρ = (sl ρ i).map slRV := Eq.trans rfl rfl
theorem x_sl0 {s : Option Sl} {ρ : PSt} : sl (s :: ρ) 0 = s := Eq.trans rfl rfl
theorem x_slS {s : Option Sl} {i : Nat} {ρ : PSt} : sl (s :: ρ) (i + 1) = sl ρ i := Eq.trans rfl rfl
theorem x_slrv_v {p : PV} : slRV (.val p) = .fz p := Eq.trans rfl rfl
theorem x_slrv_o {p : List PV} : slRV (.own p) = .ln (.lst p) := Eq.trans rfl rfl
theorem x_c {p : PV} {ρ : PSt} : fC p ρ = some (.fz p) := Eq.trans rfl rfl
theorem x_op {g : PV → PV → Option RV} {a b : FE} {ρ : PSt} : fOp g a b ρ = (a ρ).bind fun x => (b ρ).bind fun y => g x.pv y.pv := Eq.trans rfl rfl
theorem x_pv_fz {p : PV} : RV.pv (.fz p) = p := Eq.trans rfl rfl
theorem x_pv_nw {p : List PV} : RV.pv (.nw p) = .lst p := Eq.trans rfl rfl
theorem x_pv_ln {p : PV} : RV.pv (.ln p) = p := Eq.trans rfl rfl
theorem x_fr_fz {p : PV} : RV.fr (.fz p) = some p := Eq.trans rfl rfl
theorem x_fr_nw {p : List PV} : RV.fr (.nw p) = some (.lst p) := Eq.trans rfl rfl
theorem x_fr_ln {p : PV} : RV.fr (.ln p) = none := Eq.trans rfl rfl
theorem x_t {f : FE} {ρ : PSt} : fT f ρ = asB (f ρ) := Eq.trans rfl rfl
theorem x_asB {b : Bool} : asB (some (.fz (.bl b))) = some b := Eq.trans rfl rfl
theorem x_notB {g : FB} {ρ : PSt} : fNotB g ρ = (g ρ).map fun b => !b := Eq.trans rfl rfl
theorem x_andB {g k : FB} {ρ : PSt} : fAndB g k ρ = (g ρ).bind fun b => if b = true then k ρ else some false := Eq.trans rfl rfl
theorem x_orB {g k : FB} {ρ : PSt} : fOrB g k ρ = (g ρ).bind fun b => if b = true then some true else k ρ := Eq.trans rfl rfl
theorem x_fFr {f : FE} {ρ : PSt} : fFr f ρ = (f ρ).bind fun r => r.fr.map .fz := Eq.trans rfl rfl
theorem x_andV {f g : FE} {ρ : PSt} : fAndV f g ρ = (asB (f ρ)).bind fun b => if b = true then fFr g ρ else some (.fz (.bl false)) := Eq.trans rfl rfl
theorem x_orV {f g : FE} {ρ : PSt} : fOrV f g ρ = (asB (f ρ)).bind fun b => if b = true then some (.fz (.bl true)) else fFr g ρ := Eq.trans rfl rfl
theorem x_notV {f : FE} {ρ : PSt} : fNotV f ρ = (asB (f ρ)).map fun b => .fz (.bl (!b)) := Eq.trans rfl rfl
theorem x_neg {f : FE} {ρ : PSt} : fNeg f ρ = (f ρ).bind fun r => oNeg r.fr := Eq.trans rfl rfl
theorem x_neg_s {i : Int} : oNeg (some (.int i)) = some (.fz (.int (-i))) := Eq.trans rfl rfl
theorem x_ifE {g : FB} {f k : FE} {ρ : PSt} : fIf g f k ρ = (g ρ).bind fun b => if b = true then fFr f ρ else fFr k ρ := Eq.trans rfl rfl
theorem x_ch {g g' : PV → PV → Option RV} {a b c : FE} {ρ : PSt} : fCh g g' a b c ρ = (a ρ).bind fun x => (b ρ).bind fun y => (asB (g x.pv y.pv)).bind fun k => if k = true then (c ρ).bind fun z => g' y.pv z.pv else some (.fz (.bl false)) := Eq.trans rfl rfl
theorem x_nil {ρ : PSt} : fNil ρ = some [] := Eq.trans rfl rfl
theorem x_cons {f : FE} {fs : FA} {ρ : PSt} : fCons f fs ρ = (f ρ).bind fun r => (fs ρ).bind fun rs => some (r :: rs) := Eq.trans rfl rfl
theorem x_mapM_nil  : ([] : List RV).mapM RV.fr = some [] := Eq.trans rfl rfl
theorem x_tup {fs : FA} {ρ : PSt} : fTup fs ρ = (fs ρ).bind fun rs => (rs.mapM RV.fr).bind fun ps => if ps.length ≤ 100000 then some (.fz (.tup ps)) else none := Eq.trans rfl rfl
theorem x_lst {fs : FA} {ρ : PSt} : fLst fs ρ = (fs ρ).bind fun rs => (rs.mapM RV.fr).bind fun ps => if ps.length ≤ 100000 then some (.nw ps) else none := Eq.trans rfl rfl
theorem x_add_i {i j : Int} : rAdd (.int i) (.int j) = some (.fz (.int (i + j))) := Eq.trans rfl rfl
theorem x_add_l {ps qs : List PV} : rAdd (.lst ps) (.lst qs) = if ps.length + qs.length ≤ 100000 then some (.nw (ps ++ qs)) else none := Eq.trans rfl rfl
theorem x_add_t {ps qs : List PV} : rAdd (.tup ps) (.tup qs) = if ps.isEmpty = false ∧ ps.length + qs.length ≤ 100000 then some (.fz (.tup (ps ++ qs))) else none := Eq.trans rfl rfl
theorem x_sub_i {i j : Int} : rSub (.int i) (.int j) = some (.fz (.int (i - j))) := Eq.trans rfl rfl
theorem x_mul_i {i j : Int} : rMul (.int i) (.int j) = if (i.natAbs < 2 ^ 64) ∨ (j.natAbs < 2 ^ 64) then some (.fz (.int (i * j))) else none := Eq.trans rfl rfl
theorem x_mul_l {ps : List PV} {j : Int} : rMul (.lst ps) (.int j) = if j ≤ 1000 ∧ -1000 ≤ j ∧ ps.length ≤ 100 then some (.nw (List.replicate j.toNat ps).flatten) else none := Eq.trans rfl rfl
theorem x_mul_t {ps : List PV} {j : Int} : rMul (.tup ps) (.int j) = if ps.isEmpty = false ∧ 1 ≤ j ∧ j ≤ 1000 ∧ ps.length ≤ 1000 then some (.fz (.tup (List.replicate j.toNat ps).flatten)) else none := Eq.trans rfl rfl
theorem x_div_i {i j : Int} : rDiv (.int i) (.int j) = if 0 < j ∧ j < 1073741824 then some (.fz (.int (i / j))) else none := Eq.trans rfl rfl
theorem x_mod_i {i j : Int} : rMod (.int i) (.int j) = if 0 < j then some (.fz (.int (i % j))) else none := Eq.trans rfl rfl
theorem x_pow_i {i j : Int} : rPow (.int i) (.int j) = if 0 ≤ j ∧ j ≤ 1000000 ∧ i.natAbs < 2 ^ 64 then some (.fz (.int (i ^ j.toNat))) else none := Eq.trans rfl rfl
theorem x_band_i {i j : Int} : rBand (.int i) (.int j) = some (.fz (.int (Builtin.bitAnd i j))) := Eq.trans rfl rfl
theorem x_lt_i {i j : Int} : rLt (.int i) (.int j) = some (.fz (.bl (decide (i < j)))) := Eq.trans rfl rfl
theorem x_le_i {i j : Int} : rLe (.int i) (.int j) = some (.fz (.bl (decide (i ≤ j)))) := Eq.trans rfl rfl
theorem x_gt_i {i j : Int} : rGt (.int i) (.int j) = some (.fz (.bl (decide (j < i)))) := Eq.trans rfl rfl
theorem x_ge_i {i j : Int} : rGe (.int i) (.int j) = some (.fz (.bl (decide (j ≤ i)))) := Eq.trans rfl rfl
theorem x_eq_p {x y : PV} : rEq x y = if plain x && plain y && decide (dep x ≤ 50) then some (.fz (.bl (peq x y))) else none := Eq.trans rfl rfl
theorem x_ne_p {x y : PV} : rNe x y = if plain x && plain y && decide (dep x ≤ 50) then some (.fz (.bl (!peq x y))) else none := Eq.trans rfl rfl
theorem x_in_l {x : PV} {ps : List PV} : rIn x (.lst ps) = if plain x && plains ps && decide (deps ps ≤ 50) then some (.fz (.bl (pin x ps))) else none := Eq.trans rfl rfl
theorem x_in_t {x : PV} {ps : List PV} : rIn x (.tup ps) = if plain x && plains ps && decide (deps ps ≤ 50) then some (.fz (.bl (pin x ps))) else none := Eq.trans rfl rfl
theorem x_nin_l {x : PV} {ps : List PV} : rNotIn x (.lst ps) = if plain x && plains ps && decide (deps ps ≤ 50) then some (.fz (.bl (!pin x ps))) else none := Eq.trans rfl rfl
theorem x_nin_t {x : PV} {ps : List PV} : rNotIn x (.tup ps) = if plain x && plains ps && decide (deps ps ≤ 50) then some (.fz (.bl (!pin x ps))) else none := Eq.trans rfl rfl
theorem x_is_n {x : PV} : rIs x .non = some (.fz (.bl (isNon x))) := Eq.trans rfl rfl
theorem x_isnot_n {x : PV} : rIsNot x .non = some (.fz (.bl (!isNon x))) := Eq.trans rfl rfl
theorem x_ix_t {ps : List PV} {i : Int} : rIx (.tup ps) (.int i) = (L2.atI ps i).map .fz := Eq.trans rfl rfl
theorem x_ix_l {ps : List PV} {i : Int} : rIx (.lst ps) (.int i) = (L2.atI ps i).map .fz := Eq.trans rfl rfl
theorem x_ix_s {ps : List PV} {i : Int} : rIx (.src ps) (.int i) = (L2.atI ps i).map .fz := Eq.trans rfl rfl
theorem x_sl {f : FE} {l h : FO} {ρ : PSt} : fSl f l h ρ = (f ρ).bind fun r => (l ρ).bind fun lo => (h ρ).bind fun hi => rSl r.pv lo hi := Eq.trans rfl rfl
theorem x_no {ρ : PSt} : fNo ρ = some none := Eq.trans rfl rfl
theorem x_pt {f : FE} {ρ : PSt} : fPt f ρ = (f ρ).bind fun r => oPt r.fr := Eq.trans rfl rfl
theorem x_pt_s {i : Int} : oPt (some (.int i)) = some (some i) := Eq.trans rfl rfl
theorem x_sl_l {ps : List PV} {l h : Option Int} : rSl (.lst ps) l h = some (.nw (cut ps l h)) := Eq.trans rfl rfl
theorem x_sl_s {ps : List PV} {l h : Option Int} : rSl (.src ps) l h = some (.nw (cut ps l h)) := Eq.trans rfl rfl
theorem x_sl_t {ps : List PV} {l h : Option Int} : rSl (.tup ps) l h = if HT.sIx ps.length 0 l = 0 ∧ HT.sIx ps.length ps.length h = ps.length then none else some (.fz (.tup (cut ps l h))) := Eq.trans rfl rfl
theorem x_b {g : List PV → Option RV} {fs : FA} {ρ : PSt} : fB g fs ρ = (fs ρ).bind fun rs => g (rs.map RV.pv) := Eq.trans rfl rfl
theorem x_len_l {ps : List PV} : kLen [.lst ps] = some (.fz (.int ps.length)) := Eq.trans rfl rfl
theorem x_len_t {ps : List PV} : kLen [.tup ps] = some (.fz (.int ps.length)) := Eq.trans rfl rfl
theorem x_len_s {ps : List PV} : kLen [.src ps] = some (.fz (.int ps.length)) := Eq.trans rfl rfl
theorem x_abs_i {i : Int} : kAbs [.int i] = some (.fz (.int (if i < 0 then -i else i))) := Eq.trans rfl rfl
theorem x_max_i {i j : Int} : kMax2 [.int i, .int j] = some (.fz (.int (if j > i then j else i))) := Eq.trans rfl rfl
theorem x_min_i {i j : Int} : kMin2 [.int i, .int j] = some (.fz (.int (if j < i then j else i))) := Eq.trans rfl rfl
theorem x_int_i {i : Int} : kInt [.int i] = some (.fz (.int i)) := Eq.trans rfl rfl
theorem x_int_b {b : Bool} : kInt [.bl b] = some (.fz (.int (if b then 1 else 0))) := Eq.trans rfl rfl
theorem x_all_l {ps : List PV} : kAll [.lst ps] = (bls ps).map fun bs => .fz (.bl (bs.all id)) := Eq.trans rfl rfl
theorem x_any_l {ps : List PV} : kAny [.lst ps] = (bls ps).map fun bs => .fz (.bl (bs.any id)) := Eq.trans rfl rfl
theorem x_tup_l {ps : List PV} : kTup [.lst ps] = some (.fz (.tup ps)) := Eq.trans rfl rfl
theorem x_tup_t {ps : List PV} : kTup [.tup ps] = some (.fz (.tup ps)) := Eq.trans rfl rfl
theorem x_list_r {lo j : Int} : kList [.rng lo j] = if lo = 0 ∧ 0 ≤ j ∧ j ≤ 1000000 then some (.nw (ups 0 j.toNat)) else none := Eq.trans rfl rfl
theorem x_list_l {ps : List PV} : kList [.lst ps] = some (.nw ps) := Eq.trans rfl rfl
theorem x_list_t {ps : List PV} : kList [.tup ps] = some (.nw ps) := Eq.trans rfl rfl
theorem x_rng_i {j : Int} : kRng [.int j] = if -(2 ^ 62) ≤ j ∧ j < 2 ^ 62 then some (.fz (.rng 0 j)) else none := Eq.trans rfl rfl
theorem x_sorted_l {ps : List PV} : kSorted [.lst ps] = (keysOf ps).bind fun ks => if ps.length < 64 then some (.nw ((ordI ks).map fun i => ps.getD i .non)) else none := Eq.trans rfl rfl
theorem x_call {F : List PV → Option PR} {fs : FA} {ρ : PSt} : fCall F fs ρ = (fs ρ).bind fun rs => oCall F (rs.mapM RV.fr) rs := Eq.trans rfl rfl
theorem x_call_s {F : List PV → Option PR} {ps : List PV} {rs : List RV} : oCall F (some ps) rs = (F ps).map rvOf := Eq.trans rfl rfl
theorem x_call_n {F : List PV → Option PR} {rs : List RV} : oCall F none rs = (F (rs.map RV.pv)).bind fun r => if tfR r = true then some (rvOf r) else none := Eq.trans rfl rfl
theorem x_rv_v {p : PV} : rvOf (.v p) = .fz p := Eq.trans rfl rfl
theorem x_rv_n {p : List PV} : rvOf (.n p) = .nw p := Eq.trans rfl rfl
theorem x_tfR_v {p : PV} : tfR (.v p) = tf p := Eq.trans rfl rfl
theorem x_tfR_n {p : List PV} : tfR (.n p) = tfs p := Eq.trans rfl rfl
theorem x_it {f : FE} {ρ : PSt} : fIt f ρ = (f ρ).bind fun r => r.fr.bind items := Eq.trans rfl rfl
theorem x_items_t {ps : List PV} : items (.tup ps) = some ps := Eq.trans rfl rfl
theorem x_items_l {ps : List PV} : items (.lst ps) = some ps := Eq.trans rfl rfl
theorem x_items_s {ps : List PV} : items (.src ps) = some ps := Eq.trans rfl rfl
theorem x_rng {g : List PV → Option (List PV)} {fs : FA} {ρ : PSt} : fRng g fs ρ = (fs ρ).bind fun rs => g (rs.map RV.pv) := Eq.trans rfl rfl
theorem x_rng1 {j : Int} : rng1 [.int j] = if okI j then some (ups 0 j.toNat) else none := Eq.trans rfl rfl
theorem x_rng2 {i j : Int} : rng2 [.int i, .int j] = if okI i && okI j then some (ups i (j - i).toNat) else none := Eq.trans rfl rfl
theorem x_rev {f : FE} {ρ : PSt} : fRev f ρ = (f ρ).bind fun r => (lstOf r.pv).map fun ps => .nw ps.reverse := Eq.trans rfl rfl
theorem x_lstOf_l {ps : List PV} : lstOf (.lst ps) = some ps := Eq.trans rfl rfl
theorem x_lstOf_s {ps : List PV} : lstOf (.src ps) = some ps := Eq.trans rfl rfl
theorem x_maxl {ps : List PV} : kMaxL [.lst ps] = (intsOf ps).bind fun is => if is.length = 0 then none else some (.fz (.int (maxI is))) := Eq.trans rfl rfl
theorem x_minl {ps : List PV} : kMinL [.lst ps] = (intsOf ps).bind fun is => if is.length = 0 then none else some (.fz (.int (minI is))) := Eq.trans rfl rfl
theorem x_suml {ps : List PV} : kSum [.lst ps] = (intsOf ps).map fun is => .fz (.int is.sum) := Eq.trans rfl rfl
theorem x_augIx {g : Int → Int → Int} {j : Nat} {fi f : FE} {ρ : PSt} : sAugIx g j fi f ρ = oAugIx g (sl ρ j) ((fi ρ).bind RV.fr) ((f ρ).bind RV.fr) j ρ := Eq.trans rfl rfl
theorem x_augIx_s {g : Int → Int → Int} {ps : List PV} {k b : Int} {j : Nat} {ρ : PSt} : oAugIx g (some (.own ps)) (some (.int k)) (some (.int b)) j ρ = if 0 ≤ k then oAugIx2 g ps[k.toNat]? ps k b j ρ else .bad := Eq.trans rfl rfl
theorem x_augIx_n {g : Int → Int → Int} {a : Int} {ps : List PV} {k b : Int} {j : Nat} {ρ : PSt} : oAugIx2 g (some (.int a)) ps k b j ρ = .nx (ρ.set j (some (.own (ps.set k.toNat (.int (g a b)))))) := Eq.trans rfl rfl
theorem x_enum {fs : FA} {ρ : PSt} : fEnum fs ρ = (fs ρ).bind fun rs => (rs.mapM RV.fr).bind oEnum := Eq.trans rfl rfl
theorem x_enum_l {ps : List PV} : oEnum [.lst ps] = some (enumP 0 ps) := Eq.trans rfl rfl
theorem x_gN {i : Nat} {p : PV} {ρ : PSt} : gN i p ρ = some (ρ.set i (some (.val p))) := Eq.trans rfl rfl
theorem x_g0 {ρ : PSt} : g0 [] ρ = some ρ := Eq.trans rfl rfl
theorem x_gC {t : FT} {ts : FTs} {p : PV} {ps : List PV} {ρ : PSt} : gC t ts (p :: ps) ρ = (t p ρ).bind fun ρ' => ts ps ρ' := Eq.trans rfl rfl
theorem x_gTn {n : Nat} {ts : FTs} {ps : List PV} {ρ : PSt} : gTn n ts (.tup ps) ρ = if ps.length = n then ts ps ρ else none := Eq.trans rfl rfl
theorem x_comp {fm : List (Option Nat)} {it : FI} {t : FT} {c : FB} {f : FE} {ρ : PSt} : fComp fm it t c f ρ = (it ρ).bind fun its => if its.length < 1000 then (goF t c f (subρ fm ρ) its).map .nw else none := Eq.trans rfl rfl
theorem x_yes {ρ : PSt} : fYes ρ = some true := Eq.trans rfl rfl
theorem x_sub_nil {ρ : PSt} : subρ [] ρ = [] := Eq.trans rfl rfl
theorem x_sub_none {fm : List (Option Nat)} {ρ : PSt} : subρ (none :: fm) ρ = none :: subρ fm ρ := Eq.trans rfl rfl
theorem x_sub_some {j : Nat} {fm : List (Option Nat)} {ρ : PSt} : subρ (some j :: fm) ρ = sl ρ j :: subρ fm ρ := Eq.trans rfl rfl
theorem x_set0 {s v : Option Sl} {ρ : PSt} : List.set (s :: ρ) 0 v = v :: ρ := Eq.trans rfl rfl
theorem x_setS {s v : Option Sl} {i : Nat} {ρ : PSt} : List.set (s :: ρ) (i + 1) v = s :: List.set ρ i v := Eq.trans rfl rfl
theorem x_kis {p : PV} {n : String} {b : Bool} (hn : n = "int" ∨ n = "bool" ∨ n = "str" ∨ n = "tuple" ∨ n = "list" ∨ n = "dict") (h : isI n p = some b) : kIs [p, .ty n] = some (.fz (.bl b)) := by
  unfold kIs; simp only [hn, if_true, h, Option.map_some]
theorem x_is_int_int {i : Int} : kIs [(.int i), .ty "int"] = some (.fz (.bl true)) := x_kis (by decide) rfl
theorem x_is_int_bool {i : Int} : kIs [(.int i), .ty "bool"] = some (.fz (.bl false)) := x_kis (by decide) rfl
theorem x_is_int_str {i : Int} : kIs [(.int i), .ty "str"] = some (.fz (.bl false)) := x_kis (by decide) rfl
theorem x_is_int_tuple {i : Int} : kIs [(.int i), .ty "tuple"] = some (.fz (.bl false)) := x_kis (by decide) rfl
theorem x_is_int_list {i : Int} : kIs [(.int i), .ty "list"] = some (.fz (.bl false)) := x_kis (by decide) rfl
theorem x_is_int_dict {i : Int} : kIs [(.int i), .ty "dict"] = some (.fz (.bl false)) := x_kis (by decide) rfl
theorem x_is_bl_int {i : Bool} : kIs [(.bl i), .ty "int"] = some (.fz (.bl true)) := x_kis (by decide) rfl
theorem x_is_bl_bool {i : Bool} : kIs [(.bl i), .ty "bool"] = some (.fz (.bl true)) := x_kis (by decide) rfl
theorem x_is_bl_str {i : Bool} : kIs [(.bl i), .ty "str"] = some (.fz (.bl false)) := x_kis (by decide) rfl
theorem x_is_bl_tuple {i : Bool} : kIs [(.bl i), .ty "tuple"] = some (.fz (.bl false)) := x_kis (by decide) rfl
theorem x_is_bl_list {i : Bool} : kIs [(.bl i), .ty "list"] = some (.fz (.bl false)) := x_kis (by decide) rfl
theorem x_is_bl_dict {i : Bool} : kIs [(.bl i), .ty "dict"] = some (.fz (.bl false)) := x_kis (by decide) rfl
theorem x_is_tup_int {i : List PV} : kIs [(.tup i), .ty "int"] = some (.fz (.bl false)) := x_kis (by decide) rfl
theorem x_is_tup_bool {i : List PV} : kIs [(.tup i), .ty "bool"] = some (.fz (.bl false)) := x_kis (by decide) rfl
theorem x_is_tup_str {i : List PV} : kIs [(.tup i), .ty "str"] = some (.fz (.bl false)) := x_kis (by decide) rfl
theorem x_is_tup_tuple {i : List PV} : kIs [(.tup i), .ty "tuple"] = some (.fz (.bl true)) := x_kis (by decide) rfl
theorem x_is_tup_list {i : List PV} : kIs [(.tup i), .ty "list"] = some (.fz (.bl false)) := x_kis (by decide) rfl
theorem x_is_tup_dict {i : List PV} : kIs [(.tup i), .ty "dict"] = some (.fz (.bl false)) := x_kis (by decide) rfl
theorem x_is_lst_int {i : List PV} : kIs [(.lst i), .ty "int"] = some (.fz (.bl false)) := x_kis (by decide) rfl
theorem x_is_lst_bool {i : List PV} : kIs [(.lst i), .ty "bool"] = some (.fz (.bl false)) := x_kis (by decide) rfl
theorem x_is_lst_str {i : List PV} : kIs [(.lst i), .ty "str"] = some (.fz (.bl false)) := x_kis (by decide) rfl
theorem x_is_lst_tuple {i : List PV} : kIs [(.lst i), .ty "tuple"] = some (.fz (.bl false)) := x_kis (by decide) rfl
theorem x_is_lst_list {i : List PV} : kIs [(.lst i), .ty "list"] = some (.fz (.bl true)) := x_kis (by decide) rfl
theorem x_is_lst_dict {i : List PV} : kIs [(.lst i), .ty "dict"] = some (.fz (.bl false)) := x_kis (by decide) rfl
theorem x_is_str_int {i : Str} : kIs [(.str i), .ty "int"] = some (.fz (.bl false)) := x_kis (by decide) rfl
theorem x_is_str_bool {i : Str} : kIs [(.str i), .ty "bool"] = some (.fz (.bl false)) := x_kis (by decide) rfl
theorem x_is_str_str {i : Str} : kIs [(.str i), .ty "str"] = some (.fz (.bl true)) := x_kis (by decide) rfl
theorem x_is_str_tuple {i : Str} : kIs [(.str i), .ty "tuple"] = some (.fz (.bl false)) := x_kis (by decide) rfl
theorem x_is_str_list {i : Str} : kIs [(.str i), .ty "list"] = some (.fz (.bl false)) := x_kis (by decide) rfl
theorem x_is_str_dict {i : Str} : kIs [(.str i), .ty "dict"] = some (.fz (.bl false)) := x_kis (by decide) rfl
theorem x_is_non_int  : kIs [.non, .ty "int"] = some (.fz (.bl false)) := x_kis (by decide) rfl
theorem x_is_non_bool  : kIs [.non, .ty "bool"] = some (.fz (.bl false)) := x_kis (by decide) rfl
theorem x_is_non_str  : kIs [.non, .ty "str"] = some (.fz (.bl false)) := x_kis (by decide) rfl
theorem x_is_non_tuple  : kIs [.non, .ty "tuple"] = some (.fz (.bl false)) := x_kis (by decide) rfl
theorem x_is_non_list  : kIs [.non, .ty "list"] = some (.fz (.bl false)) := x_kis (by decide) rfl
theorem x_is_non_dict  : kIs [.non, .ty "dict"] = some (.fz (.bl false)) := x_kis (by decide) rfl
theorem y_bind_some {α β : Type} {a : α} {f : α → Option β} : ((some a).bind f) = f a := Eq.trans rfl rfl
theorem y_bind_none {α β : Type} {f : α → Option β} : ((none : Option α).bind f) = none := Eq.trans rfl rfl
theorem y_map_some {α β : Type} {a : α} {f : α → β} : ((some a).map f) = some (f a) := Eq.trans rfl rfl
theorem y_map_none {α β : Type} {f : α → β} : ((none : Option α).map f) = none := Eq.trans rfl rfl
theorem y_map_cons {α β : Type} {a : α} {l : List α} {f : α → β} : ((a :: l).map f) = f a :: l.map f := Eq.trans rfl rfl
theorem y_map_nil {α β : Type} {f : α → β} : (([] : List α).map f) = [] := Eq.trans rfl rfl
theorem y_nil_app {α : Type} {l : List α} : ([] ++ l) = l := Eq.trans rfl rfl
theorem y_cons_app {α : Type} {a : α} {l m : List α} : ((a :: l) ++ m) = a :: (l ++ m) := Eq.trans rfl rfl
theorem y_len_cons {α : Type} {a : α} {l : List α} : ((a :: l).length) = l.length + 1 := Eq.trans rfl rfl
theorem y_len_nil {α : Type} : (([] : List α).length) = 0 := Eq.trans rfl rfl
theorem y_if_t {α : Type} {a b : α} : ((if True then a else b)) = a := Eq.trans rfl rfl
theorem y_if_f {α : Type} {a b : α} : ((if False then a else b)) = b := Eq.trans rfl rfl
theorem y_if_tt {α : Type} {a b : α} : ((if true = true then a else b)) = a := Eq.trans rfl rfl
theorem y_if_ff {α : Type} {a b : α} : ((if false = true then a else b)) = b := Eq.trans rfl rfl
theorem y_empty_c {α : Type} {a : α} {l : List α} : ((a :: l).isEmpty) = false := Eq.trans rfl rfl
theorem y_empty_n {α : Type} : (([] : List α).isEmpty) = true := Eq.trans rfl rfl
theorem y_plain_non  : (plain .non) = true := Eq.trans rfl rfl
theorem y_plain_bl {b : Bool} : (plain (.bl b)) = true := Eq.trans rfl rfl
theorem y_plain_int {b : Int} : (plain (.int b)) = true := Eq.trans rfl rfl
theorem y_plain_str {b : Str} : (plain (.str b)) = true := Eq.trans rfl rfl
theorem y_dep_non  : (dep .non) = 0 := Eq.trans rfl rfl
theorem y_dep_bl {b : Bool} : (dep (.bl b)) = 0 := Eq.trans rfl rfl
theorem y_dep_int {b : Int} : (dep (.int b)) = 0 := Eq.trans rfl rfl
theorem y_dep_str {b : Str} : (dep (.str b)) = 0 := Eq.trans rfl rfl
theorem y_nI {n : Nat} : (nI n) = PV.int n := Eq.trans rfl rfl
theorem y_isnon  : (isNon .non) = true := Eq.trans rfl rfl
theorem y_isnon_i {i : Int} : (isNon (.int i)) = false := Eq.trans rfl rfl
theorem y_isnon_b {i : Bool} : (isNon (.bl i)) = false := Eq.trans rfl rfl
theorem y_isnon_t {i : List PV} : (isNon (.tup i)) = false := Eq.trans rfl rfl
theorem y_isnon_l {i : List PV} : (isNon (.lst i)) = false := Eq.trans rfl rfl
theorem y_isnon_s {i : Str} : (isNon (.str i)) = false := Eq.trans rfl rfl
theorem y_okI {i : Int} : (okI i) = (decide (-4611686018427387904 ≤ i) && decide (i < 4611686018427387904)) := Eq.trans rfl rfl
theorem y_plain_t {ps : List PV} : plain (.tup ps) = plains ps := by rw [Pu.plain]
theorem y_plain_l {ps : List PV} : plain (.lst ps) = plains ps := by rw [Pu.plain]
theorem y_plains_n : plains [] = true := by rw [plains]
theorem y_plains_c {p : PV} {ps : List PV} : plains (p :: ps) = (plain p && plains ps) := by rw [plains]
theorem y_dep_t {ps : List PV} : dep (.tup ps) = deps ps + 1 := by rw [dep]
theorem y_dep_l {ps : List PV} : dep (.lst ps) = deps ps + 1 := by rw [dep]
theorem y_deps_n : deps [] = 0 := by rw [deps]
theorem y_deps_c {p : PV} {ps : List PV} : deps (p :: ps) = max (dep p) (deps ps) := by rw [deps]
noncomputable def E1 := (And.intro (And.intro @x_frzS (And.intro @x_mapM_cons @x_seq)) (And.intro @x_ol_nx (And.intro @x_ol_ct @x_ol_bk)))
noncomputable def E2 := (And.intro (And.intro @x_ol_rt (And.intro @x_ol_rn @x_ol0_s)) (And.intro @x_loop0 (And.intro @x_wl_nx @x_wl_ct)))
noncomputable def E3 := (And.intro (And.intro @x_wl_bk (And.intro @x_wl_rt @x_wh_t)) (And.intro @x_wh_f (And.intro @x_then_nx @x_then_rt)))
noncomputable def E4 := (And.intro (And.intro @x_then_rn (And.intro @x_then_bk @x_then_ct)) (And.intro @x_skip (And.intro @x_bk @x_ct)))
noncomputable def E5 := (And.intro (And.intro @x_drop (And.intro @x_drop_fz @x_ret)) (And.intro @x_ret_fz (And.intro @x_ret_nw @x_retV)))
noncomputable def E6 := (And.intro (And.intro @x_retV_v (And.intro @x_retV_o @x_if)) (And.intro @x_if_t (And.intro @x_if_f @x_set)))
noncomputable def E7 := (And.intro (And.intro @x_set_s (And.intro @x_own @x_own_fz)) (And.intro @x_own_nw (And.intro @x_asg @x_asg_s)))
noncomputable def E8 := (And.intro (And.intro @x_nx_s (And.intro @x_par @x_par_s)) (And.intro @x_frz (And.intro @x_frz0o @x_frz0v)))
noncomputable def E9 := (And.intro (And.intro @x_aug (And.intro @x_aug_s @x_app)) (And.intro @x_app_s (And.intro @x_put @x_put_s)))
noncomputable def E10 := (And.intro (And.intro @x_put_n (And.intro @x_for @x_for_s)) (And.intro @x_while (And.intro @x_res_nx @x_res_rt)))
noncomputable def E11 := (And.intro (And.intro @x_res_rn (And.intro @x_v @x_sl0)) (And.intro @x_slS (And.intro @x_slrv_v @x_slrv_o)))
noncomputable def E12 := (And.intro (And.intro @x_c (And.intro @x_op @x_pv_fz)) (And.intro @x_pv_nw (And.intro @x_pv_ln @x_fr_fz)))
noncomputable def E13 := (And.intro (And.intro @x_fr_nw (And.intro @x_fr_ln @x_t)) (And.intro @x_asB (And.intro @x_notB @x_andB)))
noncomputable def E14 := (And.intro (And.intro @x_orB (And.intro @x_fFr @x_andV)) (And.intro @x_orV (And.intro @x_notV @x_neg)))
noncomputable def E15 := (And.intro (And.intro @x_neg_s (And.intro @x_ifE @x_ch)) (And.intro @x_nil (And.intro @x_cons @x_mapM_nil)))
noncomputable def E16 := (And.intro (And.intro @x_tup (And.intro @x_lst @x_add_i)) (And.intro @x_add_l (And.intro @x_add_t @x_sub_i)))
noncomputable def E17 := (And.intro (And.intro @x_mul_i (And.intro @x_mul_l @x_mul_t)) (And.intro @x_div_i (And.intro @x_mod_i @x_pow_i)))
noncomputable def E18 := (And.intro (And.intro @x_band_i (And.intro @x_lt_i @x_le_i)) (And.intro @x_gt_i (And.intro @x_ge_i @x_eq_p)))
noncomputable def E19 := (And.intro (And.intro @x_ne_p (And.intro @x_in_l @x_in_t)) (And.intro @x_nin_l (And.intro @x_nin_t @x_is_n)))
noncomputable def E20 := (And.intro (And.intro @x_isnot_n (And.intro @x_ix_t @x_ix_l)) (And.intro @x_ix_s (And.intro @x_sl @x_no)))
noncomputable def E21 := (And.intro (And.intro @x_pt (And.intro @x_pt_s @x_sl_l)) (And.intro @x_sl_s (And.intro @x_sl_t @x_b)))
noncomputable def E22 := (And.intro (And.intro @x_len_l (And.intro @x_len_t @x_len_s)) (And.intro @x_abs_i (And.intro @x_max_i @x_min_i)))
noncomputable def E23 := (And.intro (And.intro @x_int_i (And.intro @x_int_b @x_all_l)) (And.intro @x_any_l (And.intro @x_tup_l @x_tup_t)))
noncomputable def E24 := (And.intro (And.intro @x_list_l (And.intro @x_list_t @x_sorted_l)) (And.intro @x_call (And.intro @x_call_s @x_call_n)))
noncomputable def E25 := (And.intro (And.intro @x_rv_v (And.intro @x_rv_n @x_tfR_v)) (And.intro @x_tfR_n (And.intro @x_it @x_items_t)))
noncomputable def E26 := (And.intro (And.intro @x_items_l (And.intro @x_items_s @x_rng)) (And.intro @x_rev (And.intro @x_lstOf_l @x_lstOf_s)))
noncomputable def E27 := (And.intro (And.intro @x_maxl (And.intro @x_minl @x_suml)) (And.intro @x_augIx (And.intro @x_augIx_s @x_augIx_n)))
noncomputable def E28 := (And.intro (And.intro @x_enum (And.intro @x_enum_l @x_gN)) (And.intro @x_g0 (And.intro @x_gC @x_gTn)))
noncomputable def E29 := (And.intro (And.intro @x_comp (And.intro @x_yes @x_sub_nil)) (And.intro @x_sub_none (And.intro @x_sub_some @x_set0)))
noncomputable def E30 := (And.intro (And.intro @x_setS (And.intro @x_is_int_int @x_is_int_bool)) (And.intro @x_is_int_str (And.intro @x_is_int_tuple @x_is_int_list)))
noncomputable def E31 := (And.intro (And.intro @x_is_int_dict (And.intro @x_is_bl_int @x_is_bl_bool)) (And.intro @x_is_bl_str (And.intro @x_is_bl_tuple @x_is_bl_list)))
noncomputable def E32 := (And.intro (And.intro @x_is_bl_dict (And.intro @x_is_tup_int @x_is_tup_bool)) (And.intro @x_is_tup_str (And.intro @x_is_tup_tuple @x_is_tup_list)))
noncomputable def E33 := (And.intro (And.intro @x_is_tup_dict (And.intro @x_is_lst_int @x_is_lst_bool)) (And.intro @x_is_lst_str (And.intro @x_is_lst_tuple @x_is_lst_list)))
noncomputable def E34 := (And.intro (And.intro @x_is_lst_dict (And.intro @x_is_str_int @x_is_str_bool)) (And.intro @x_is_str_str (And.intro @x_is_str_tuple @x_is_str_list)))
noncomputable def E35 := (And.intro (And.intro @x_is_str_dict (And.intro @x_is_non_int @x_is_non_bool)) (And.intro @x_is_non_str (And.intro @x_is_non_tuple @x_is_non_list)))
noncomputable def E36 := (And.intro (And.intro @x_is_non_dict (And.intro @y_bind_some @y_bind_none)) (And.intro @y_map_some (And.intro @y_map_none @y_map_cons)))
noncomputable def E37 := (And.intro (And.intro @y_map_nil (And.intro @y_nil_app @y_cons_app)) (And.intro @y_len_cons (And.intro @y_len_nil @y_if_t)))
noncomputable def E38 := (And.intro (And.intro @y_if_f (And.intro @y_if_tt @y_if_ff)) (And.intro @y_empty_c (And.intro @y_empty_n @y_plain_non)))
noncomputable def E39 := (And.intro (And.intro @y_plain_bl (And.intro @y_plain_int @y_plain_str)) (And.intro @y_dep_non (And.intro @y_dep_bl @y_dep_int)))
noncomputable def E40 := (And.intro (And.intro @y_dep_str (And.intro @y_nI @y_isnon)) (And.intro @y_isnon_i (And.intro @y_isnon_b @y_isnon_t)))
noncomputable def E41 := (And.intro (And.intro @y_isnon_l (And.intro @y_isnon_s @y_plain_t)) (And.intro @y_plain_l (And.intro @y_plains_n @y_plains_c)))
noncomputable def E42 := (And.intro (And.intro @y_dep_t (And.intro @y_dep_l @y_deps_n)) (And.intro @y_deps_c (And.intro @at0 @at1)))
noncomputable def E43 := (And.intro (And.intro @at2 (And.intro @at3 @peq_int)) (And.intro @peq_str (And.intro @peq_bl @peq_tup)))
noncomputable def E44 := (And.intro (And.intro @peq_lst (And.intro @peqs_cons @peqs_nil)) (And.intro @and_true (And.intro @true_and @false_and)))
noncomputable def E45 := (And.intro (And.intro @and_false (And.intro @Nat.add_zero @Nat.zero_add)) (And.intro @Int.toNat_natCast (And.intro @Bool.not_true @Bool.not_false)))
noncomputable def E46 := (And.intro (And.intro @Bool.true_and (And.intro @Bool.false_and @Bool.and_true)) (And.intro @Bool.and_false (And.intro @Bool.true_or @Bool.false_or)))
noncomputable def E47 := (And.intro (And.intro @Bool.or_true (And.intro @Bool.or_false @Nat.zero_le)) (And.intro @decide_true (And.intro @decide_false @nums_len)))
noncomputable def E48 := (And.intro (And.intro @plains_nums @deps_nums) (And.intro @Nat.max_self (And.intro @Nat.zero_max @Nat.max_zero)))
end Dp
end
section
namespace Dp
open PySem L2 Fo Pu
theorem go_map {t : FT} {f : FE} {ρ : PSt} (g : PV → PV) : ∀ {its : List PV}, (∀ p ∈ its, (t p ρ).bind (fun ρ2 => (f ρ2).bind RV.fr) = some (g p)) → goF t fYes f ρ its = some (its.map g) := fun {its} => by
  induction its with
  | nil => intro _; rfl
  | cons p ps ih =>
    intro h
    have h1 := h p List.mem_cons_self
    have h2 := ih fun q hq => h q (List.mem_cons_of_mem _ hq)
    obtain ⟨ρ2, e1, h1⟩ := Option.bind_eq_some_iff.mp h1
    obtain ⟨r, e2, h1⟩ := Option.bind_eq_some_iff.mp h1
    rw [goF, e1, h2]
    show (f ρ2).bind _ = _
    rw [e2]
    show r.fr.bind _ = _
    rw [h1]; rfl
theorem go_nums {t : FT} {f : FE} {ρ : PSt} (g : Nat → PV) {us : List Nat} (h : ∀ u ∈ us, (t (.int u) ρ).bind (fun ρ2 => (f ρ2).bind RV.fr) = some (g u)) : goF t fYes f ρ (nums us) = some (us.map g) := by
  have e : (nums us).map (fun p => match p with | .int i => g i.toNat | _ => .non) = us.map g := by
    unfold nums; rw [List.map_map]; exact List.map_congr_left fun u _ => rfl
  rw [← e]
  refine go_map _ fun p hp => ?_
  obtain ⟨u, hu, rfl⟩ := mem_nums hp
  exact h u hu
theorem go_filter {t : FT} {c : FB} {f : FE} {ρ : PSt} (b : PV → Bool) (g : PV → PV) : ∀ {its : List PV}, (∀ p ∈ its, ∃ ρ2, t p ρ = some ρ2 ∧ c ρ2 = some (b p) ∧ (b p = true → (f ρ2).bind RV.fr = some (g p))) → goF t c f ρ its = some ((its.filter b).map g) := fun {its} => by
  induction its with
  | nil => intro _; rfl
  | cons p ps ih =>
    intro h
    obtain ⟨ρ2, e1, e2, h1⟩ := h p List.mem_cons_self
    have h2 := ih fun q hq => h q (List.mem_cons_of_mem _ hq)
    rw [goF, e1]
    show (c ρ2).bind _ = _
    rw [e2]
    cases hb : b p with
    | true =>
      obtain ⟨r, e3, e4⟩ := Option.bind_eq_some_iff.mp (h1 hb)
      rw [List.filter_cons_of_pos hb]
      show (f ρ2).bind _ = _
      rw [e3]
      show r.fr.bind _ = _
      rw [e4, h2]; rfl
    | false =>
      rw [List.filter_cons_of_neg (by rw [hb]; exact Bool.false_ne_true)]
      exact h2
theorem bls_t {α : Type} (l : List α) : bls (l.map fun _ => PV.bl true) = some (l.map fun _ => true) := by
  induction l with
  | nil => rfl
  | cons a l ih => rw [List.map_cons, bls, ih]; rfl
theorem all_t {α : Type} (l : List α) : (l.map fun _ => true).all id = true := by induction l <;> simp_all
theorem map_int (f : Nat → Nat) (us : List Nat) : us.map (fun u => PV.int (f u)) = nums (us.map f) := by unfold nums; rw [List.map_map]; rfl
theorem K1 {n : Nat} (h : n ≤ 100000) : rng1 [.int n] = some (nums (List.range n)) ∧ kRng [.int n] = some (.fz (.rng 0 n)) ∧ kList [.rng 0 n] = some (.nw (nums (List.range n))) := by
  refine ⟨?_, ?_, ?_⟩
  · rw [x_rng1, y_okI, decide_eq_true (by omega), decide_eq_true (by omega), Int.toNat_natCast, ups0]; rfl
  · rw [x_rng_i, if_pos ⟨by omega, by omega⟩]
  · rw [x_list_r, if_pos ⟨rfl, by omega, by omega⟩, Int.toNat_natCast, ups0]
theorem K1i {j : Int} (h0 : 0 ≤ j) (h : j ≤ 100000) : rng1 [.int j] = some (nums (List.range j.toNat)) ∧ kRng [.int j] = some (.fz (.rng 0 j)) ∧ kList [.rng 0 j] = some (.nw (nums (List.range j.toNat))) := by
  have := K1 (n := j.toNat) (by omega)
  rwa [Int.toNat_of_nonneg h0] at this
theorem K2 {n : Nat} (h : n ≤ 100000) : rng2 [.int 1, .int n] = some (nums ((List.range (n - 1)).map (· + 1))) := by
  have a : okI 1 = true := by decide
  have b : okI n = true := by rw [y_okI, decide_eq_true (by omega), decide_eq_true (by omega)]; rfl
  rw [x_rng2, a, b, show ((n : Int) - 1).toNat = n - 1 by omega, ups1]; rfl
theorem t_whole (i : Int) : F_is_whole [.int i] = some (.v (.bl true)) := by
  simp only [q_F_is_whole, q_F_is_whole_s, E1, E2, E3, E4, E5, E6, E7, E8, E9, E10, E11, E12, E13, E14, E15, E16, E17, E18, E19, E20, E21, E22, E23, E24, E25, E26, E27, E28, E29, E30, E31, E32, E33, E34, E35, E36, E37, E38, E39, E40, E41, E42, E43, E44, E45, E46, E47, E48]
theorem t_many {i : Int} (h1 : 1 ≤ i) (h2 : i ≤ 40) : F_is_many [.int i] = some (.v (.bl true)) := by
  simp only [q_F_is_many, q_F_is_many_s, E1, E2, E3, E4, E5, E6, E7, E8, E9, E10, E11, E12, E13, E14, E15, E16, E17, E18, E19, E20, E21, E22, E23, E24, E25, E26, E27, E28, E29, E30, E31, E32, E33, E34, E35, E36, E37, E38, E39, E40, E41, E42, E43, E44, E45, E46, E47, E48, t_whole, decide_eq_true h1, decide_eq_true h2]
theorem t_thing (m x : Int) : F_is_thing [.int m, .int x] = some (.v (.bl (decide (0 ≤ x ∧ x < m)))) := by
  simp only [q_F_is_thing, q_F_is_thing_s, E1, E2, E3, E4, E5, E6, E7, E8, E9, E10, E11, E12, E13, E14, E15, E16, E17, E18, E19, E20, E21, E22, E23, E24, E25, E26, E27, E28, E29, E30, E31, E32, E33, E34, E35, E36, E37, E38, E39, E40, E41, E42, E43, E44, E45, E46, E47, E48, t_whole]
  by_cases h : 0 ≤ x
  · simp only [decide_eq_true h, E1, E2, E3, E4, E5, E6, E7, E8, E9, E10, E11, E12, E13, E14, E15, E16, E17, E18, E19, E20, E21, E22, E23, E24, E25, E26, E27, E28, E29, E30, E31, E32, E33, E34, E35, E36, E37, E38, E39, E40, E41, E42, E43, E44, E45, E46, E47, E48, h]
  · simp only [decide_eq_false h, E1, E2, E3, E4, E5, E6, E7, E8, E9, E10, E11, E12, E13, E14, E15, E16, E17, E18, E19, E20, E21, E22, E23, E24, E25, E26, E27, E28, E29, E30, E31, E32, E33, E34, E35, E36, E37, E38, E39, E40, E41, E42, E43, E44, E45, E46, E47, E48, h, false_and]
theorem leads_loop {us : List Nat} (hb : ∀ x, x < us.length → up us x < us.length) {s1 : Option Sl} : ∀ (vs : List PV) (x : Nat) (z : Option Sl), x < us.length →
    ∃ z', loopF (gN 3) F_leads_to_head_b1 vs [some (.val (.tup (nums us))), s1, some (.val (.int x)), z] = .nx [some (.val (.tup (nums us))), s1, some (.val (.int (Nat.repeat (up us) vs.length x : Nat))), z'] ∧ Nat.repeat (up us) vs.length x < us.length
  | [], x, z, hx => ⟨z, rfl, hx⟩
  | v :: vs, x, z, hx => by
    obtain ⟨z', e, h⟩ := leads_loop hb vs (up us x) (some (.val v)) (s1 := s1) (hb x hx)
    refine ⟨z', ?_, by rw [List.length_cons, iter_in]; exact h⟩
    rw [List.length_cons, iter_in, ← e]
    rw [loop_S]
    simp only [q_F_leads_to_head_b1, E1, E2, E3, E4, E5, E6, E7, E8, E9, E10, E11, E12, E13, E14, E15, E16, E17, E18, E19, E20, E21, E22, E23, E24, E25, E26, E27, E28, E29, E30, E31, E32, E33, E34, E35, E36, E37, E38, E39, E40, E41, E42, E43, E44, E45, E46, E47, E48, atI_nums hx]
theorem t_leads {us : List Nat} (f : Frst us) {x : Nat} (hx : x < us.length) : F_leads_to_head [.tup (nums us), .int x] = some (.v (.bl true)) := by
  have hm := f.most
  obtain ⟨z', e, h⟩ := leads_loop f.fst.bnd (s1 := some (.val (.int x))) (ups 0 us.length) x none hx
  rw [ups_len] at e h
  rw [ups0] at e
  obtain ⟨l, w, hl⟩ := f.fst.way hx
  simp only [q_F_leads_to_head, q_F_leads_to_head_s, E1, E2, E3, E4, E5, E6, E7, E8, E9, E10, E11, E12, E13, E14, E15, E16, E17, E18, E19, E20, E21, E22, E23, E24, E25, E26, E27, E28, E29, E30, E31, E32, E33, E34, E35, E36, E37, E38, E39, E40, E41, E42, E43, E44, E45, E46, E47, E48, K1 (show us.length ≤ 100000 by omega), e, atI_nums h, way_leads w _ (show l.length ≤ us.length + 1 by omega), Nat.reduceLeDiff]
theorem t_forest {us : List Nat} (f : Frst us) : F_is_forest [.tup (nums us)] = some (.v (.bl true)) := by
  have hm := f.most
  have h1 := f.one
  have h2 : us.length < 1000 := by omega
  have e1 : goF (gN 0) fYes F_is_forest_e1 [none, some (.val (.int us.length))] (nums us) = some (us.map fun _ => PV.bl true) := go_nums _ fun u hu => by
    obtain ⟨i, hi, rfl⟩ := List.mem_iff_getElem.mp hu
    have hb := f.fst.bnd i hi
    unfold up at hb
    rw [List.getD_eq_getElem?_getD, List.getElem?_eq_getElem hi] at hb
    have : decide ((0 : Int) ≤ (us[i] : Int) ∧ (us[i] : Int) < (us.length : Int)) = true := decide_eq_true ⟨by omega, by simpa using hb⟩
    simp only [q_F_is_forest_e1, E1, E2, E3, E4, E5, E6, E7, E8, E9, E10, E11, E12, E13, E14, E15, E16, E17, E18, E19, E20, E21, E22, E23, E24, E25, E26, E27, E28, E29, E30, E31, E32, E33, E34, E35, E36, E37, E38, E39, E40, E41, E42, E43, E44, E45, E46, E47, E48, t_thing, this]
  have e2 : goF (gN 0) fYes F_is_forest_e2 [none, some (.val (.tup (nums us)))] (nums (List.range us.length)) = some ((List.range us.length).map fun _ => PV.bl true) := go_nums _ fun u hu => by
    simp only [q_F_is_forest_e2, E1, E2, E3, E4, E5, E6, E7, E8, E9, E10, E11, E12, E13, E14, E15, E16, E17, E18, E19, E20, E21, E22, E23, E24, E25, E26, E27, E28, E29, E30, E31, E32, E33, E34, E35, E36, E37, E38, E39, E40, E41, E42, E43, E44, E45, E46, E47, E48, t_leads f (List.mem_range.mp hu)]
  simp only [q_F_is_forest, q_F_is_forest_s, E1, E2, E3, E4, E5, E6, E7, E8, E9, E10, E11, E12, E13, E14, E15, E16, E17, E18, E19, E20, E21, E22, E23, E24, E25, E26, E27, E28, E29, E30, E31, E32, E33, E34, E35, E36, E37, E38, E39, E40, E41, E42, E43, E44, E45, E46, E47, E48, t_many (show (1 : Int) ≤ us.length by omega) (show (us.length : Int) ≤ 40 by omega), K1 (show us.length ≤ 100000 by omega), h2, e1, e2, bls_t, all_t, List.length_range]
theorem t_cforest {us : List Nat} (f : Frst us) : F_check_forest [.tup (nums us)] = some (.v .non) := by
  simp only [q_F_check_forest, q_F_check_forest_s, E1, E2, E3, E4, E5, E6, E7, E8, E9, E10, E11, E12, E13, E14, E15, E16, E17, E18, E19, E20, E21, E22, E23, E24, E25, E26, E27, E28, E29, E30, E31, E32, E33, E34, E35, E36, E37, E38, E39, E40, E41, E42, E43, E44, E45, E46, E47, E48, t_forest f]
theorem t_cthing {m x : Int} (h0 : 0 ≤ x) (h1 : x < m) : F_check_thing [.int m, .int x] = some (.v .non) := by
  simp only [q_F_check_thing, q_F_check_thing_s, E1, E2, E3, E4, E5, E6, E7, E8, E9, E10, E11, E12, E13, E14, E15, E16, E17, E18, E19, E20, E21, E22, E23, E24, E25, E26, E27, E28, E29, E30, E31, E32, E33, E34, E35, E36, E37, E38, E39, E40, E41, E42, E43, E44, E45, E46, E47, E48, t_thing, decide_eq_true (show 0 ≤ x ∧ x < m from ⟨h0, h1⟩)]
theorem t_cft {us : List Nat} (f : Frst us) {x : Nat} (hx : x < us.length) : F_check_forest_and_thing [.tup (nums us), .int x] = some (.v .non) := by
  simp only [q_F_check_forest_and_thing, q_F_check_forest_and_thing_s, E1, E2, E3, E4, E5, E6, E7, E8, E9, E10, E11, E12, E13, E14, E15, E16, E17, E18, E19, E20, E21, E22, E23, E24, E25, E26, E27, E28, E29, E30, E31, E32, E33, E34, E35, E36, E37, E38, E39, E40, E41, E42, E43, E44, E45, E46, E47, E48, t_cforest f, t_cthing (show (0 : Int) ≤ x by omega) (show (x : Int) < us.length by omega)]
theorem way_loop {p : PV} {us : List Nat} (hp : p = .tup (nums us) ∨ p = .lst (nums us)) (hm : us.length ≤ 40) (hb : ∀ x, x < us.length → up us x < us.length) {s1 : Option Sl} {y : Nat} {l2 : List Nat} (w : Way us y l2) : ∀ (pre : List Nat), pre.length + l2.length ≤ us.length → y < us.length →
    ∀ n, l2.length < n → whileF F_way_up_c1 F_way_up_b2 n [some (.val p), s1, some (.own (nums (pre ++ [y])))] = .nx [some (.val p), s1, some (.own (nums (pre ++ l2)))] := by
  induction w with
  | @head y e =>
    intro pre hl hy n hn
    obtain ⟨n, rfl⟩ : ∃ k, n = k + 1 := ⟨n - 1, by simp at hn; omega⟩
    rw [while_S]
    rcases hp with rfl | rfl <;>
      simp only [q_F_way_up_c1, E1, E2, E3, E4, E5, E6, E7, E8, E9, E10, E11, E12, E13, E14, E15, E16, E17, E18, E19, E20, E21, E22, E23, E24, E25, E26, E27, E28, E29, E30, E31, E32, E33, E34, E35, E36, E37, E38, E39, E40, E41, E42, E43, E44, E45, E46, E47, E48, Nat.reduceAdd, Nat.reduceSub, Nat.reduceLeDiff, Nat.reduceLT, Nat.reduceEqDiff, Int.reduceLT, Int.reduceLE, Int.reduceAdd, Int.reduceSub, Int.reduceMul, Int.reduceMod, Int.reduceDiv, Int.reduceNeg, Int.reduceToNat, Int.reducePow, Int.reduceEq, Pu.atI_last, atI_nums hy, e]
  | @step y l ne w ih =>
    intro pre hl hy n hn
    obtain ⟨n, rfl⟩ : ∃ k, n = k + 1 := ⟨n - 1, by simp at hn; omega⟩
    have ih := ih (pre ++ [y]) (by simp at hl ⊢; omega) (hb y hy) n (by simp at hn; omega)
    rw [List.append_assoc, List.append_assoc] at ih
    have hne : decide ((up us y : Int) = (y : Int)) = false := decide_eq_false (by omega)
    have hpl : (pre ++ [y]).length ≤ 100000 := by simp at hl ⊢; omega
    rw [while_S]
    rcases hp with rfl | rfl <;>
      (simp only [q_F_way_up_c1, q_F_way_up_b2, E1, E2, E3, E4, E5, E6, E7, E8, E9, E10, E11, E12, E13, E14, E15, E16, E17, E18, E19, E20, E21, E22, E23, E24, E25, E26, E27, E28, E29, E30, E31, E32, E33, E34, E35, E36, E37, E38, E39, E40, E41, E42, E43, E44, E45, E46, E47, E48, Nat.reduceAdd, Nat.reduceSub, Nat.reduceLeDiff, Nat.reduceLT, Nat.reduceEqDiff, Int.reduceLT, Int.reduceLE, Int.reduceAdd, Int.reduceSub, Int.reduceMul, Int.reduceMod, Int.reduceDiv, Int.reduceNeg, Int.reduceToNat, Int.reducePow, Int.reduceEq, Pu.atI_last, atI_nums hy, hne, hpl, nums_snoc, List.append_assoc]; exact ih)
theorem t_way {p : PV} {us : List Nat} (hp : p = .tup (nums us) ∨ p = .lst (nums us)) (f : Frst us) {x : Nat} (hx : x < us.length) : F_way_up [p, .int x] = some (.n (nums (way us x))) := by
  have hl := way_len f.fst hx
  have hm := f.most
  have e := way_loop hp f.most f.fst.bnd (s1 := some (.val (.int x))) (way_ok f.fst hx) [] (by simpa using hl) hx 10000 (by omega)
  rw [List.nil_append, List.nil_append] at e
  have e' : whileF F_way_up_c1 F_way_up_b2 10000 [some (.val p), some (.val (.int x)), some (.own [.int x])] = _ := e
  simp only [q_F_way_up, q_F_way_up_s, E1, E2, E3, E4, E5, E6, E7, E8, E9, E10, E11, E12, E13, E14, E15, E16, E17, E18, E19, E20, E21, E22, E23, E24, E25, E26, E27, E28, E29, E30, E31, E32, E33, E34, E35, E36, E37, E38, E39, E40, E41, E42, E43, E44, E45, E46, E47, E48, Nat.reduceAdd, Nat.reduceSub, Nat.reduceLeDiff, Nat.reduceLT, Nat.reduceEqDiff, Int.reduceLT, Int.reduceLE, Int.reduceAdd, Int.reduceSub, Int.reduceMul, Int.reduceMod, Int.reduceDiv, Int.reduceNeg, Int.reduceToNat, Int.reducePow, Int.reduceEq, e']
theorem t_depth {us : List Nat} (f : Frst us) {x : Nat} (hx : x < us.length) : F_depth_of [.tup (nums us), .int x] = some (.v (.int (dp us x : Nat))) := by
  have hp := (way_ok f.fst hx).pos
  simp only [q_F_depth_of, q_F_depth_of_s, E1, E2, E3, E4, E5, E6, E7, E8, E9, E10, E11, E12, E13, E14, E15, E16, E17, E18, E19, E20, E21, E22, E23, E24, E25, E26, E27, E28, E29, E30, E31, E32, E33, E34, E35, E36, E37, E38, E39, E40, E41, E42, E43, E44, E45, E46, E47, E48, t_cft f hx, t_way (.inl rfl) f hx]
  unfold dp
  rw [show ((way us x).length : Int) - 1 = (((way us x).length - 1 : Nat) : Int) by omega]
theorem ix2 {a b : PV} {c : Bool} : L2.atI [a, b] (if c = true then 1 else 0) = some (if c = true then b else a) := by
  cases c <;> rfl
theorem numbers_loop {s0 s1 : Option Sl} (vs : List PV) : ∀ (xs : List Nat) (st dg : Int) (z : Option Sl), (∀ v ∈ vs, ∃ i : Int, v = .int i) → 0 ≤ st → st < 1999999973 → 0 ≤ dg → xs.length + vs.length ≤ 1000 →
    ∃ (xs' : List Nat) (st' dg' : Int) (z' : Option Sl), xs'.length = xs.length + vs.length ∧ loopF (gN 5) F__law_numbers_b1 vs [s0, s1, some (.own (nums xs)), some (.val (.int st)), some (.val (.int dg)), z] = .nx [s0, s1, some (.own (nums xs')), some (.val (.int st')), some (.val (.int dg')), z'] := by
  induction vs with
  | nil => intro xs st dg z _ _ _ _ _; exact ⟨xs, st, dg, z, rfl, rfl⟩
  | cons v vs ih =>
    intro xs st dg z hv h1 h2 h3 hl
    obtain ⟨i, rfl⟩ := hv v List.mem_cons_self
    have m1 := Int.emod_nonneg st (show (65521 : Int) ≠ 0 by decide)
    have cm1 : (st.natAbs < 2 ^ 64 ∨ (st % 65521 + 40487).natAbs < 2 ^ 64) = True := eq_true (.inl (by omega))
    have cm2 : ((7 : Int).natAbs < 2 ^ 64 ∨ i.natAbs < 2 ^ 64) = True := eq_true (.inl (by decide))
    have hlen : (nums xs).length ≤ 100000 := by rw [nums_len]; simp at hl; omega
    have b1 : 0 ≤ (st * (st % 65521 + 40487) + 7 * i + 5) % 1999999973 := Int.emod_nonneg _ (by decide)
    have b2 : (st * (st % 65521 + 40487) + 7 * i + 5) % 1999999973 < 1999999973 := Int.emod_lt_of_pos _ (by decide)
    have d1 := Int.emod_nonneg dg (show (1000000 : Int) ≠ 0 by decide)
    have hlen' : xs.length ≤ 100000 := by rwa [nums_len] at hlen
    rw [loop_S]
    simp only [q_F__law_numbers_b1, E1, E2, E3, E4, E5, E6, E7, E8, E9, E10, E11, E12, E13, E14, E15, E16, E17, E18, E19, E20, E21, E22, E23, E24, E25, E26, E27, E28, E29, E30, E31, E32, E33, E34, E35, E36, E37, E38, E39, E40, E41, E42, E43, E44, E45, E46, E47, E48, Nat.reduceAdd, Nat.reduceSub, Nat.reduceLeDiff, Nat.reduceLT, Nat.reduceEqDiff, Int.reduceLT, Int.reduceLE, Int.reduceAdd, Int.reduceSub, Int.reduceMul, Int.reduceMod, Int.reduceDiv, Int.reduceNeg, Int.reduceToNat, Int.reducePow, Int.reduceEq, cm1, cm2, ix2, hlen']
    generalize (st * (st % 65521 + 40487) + 7 * i + 5) % 1999999973 = st' at b1 b2
    have hv' : (if decide (0 < dg) = true then PV.int (dg % 1000000) else PV.int st') = nI (if decide (0 < dg) = true then dg % 1000000 else st').toNat := by
      split <;> rw [natOf (by omega)]
    rw [hv', nI, nums_snoc]
    obtain ⟨xs', st2, dg2, z2, e1, e2⟩ := ih (xs ++ [(if decide (0 < dg) = true then dg % 1000000 else st').toNat]) st' (dg / 1000000) (some (.val (.int i))) (fun u hu => hv u (List.mem_cons_of_mem _ hu)) b1 b2 (Int.ediv_nonneg h3 (by decide)) (by simp at hl ⊢; omega)
    exact ⟨xs', st2, dg2, z2, by rw [e1, List.length_append]; simp; omega, e2⟩
theorem t_numbers (c n : Int) (h0 : 0 ≤ n) (hn : n ≤ 1000) : ∃ xs : List Nat, xs.length = n.toNat ∧ F__law_numbers [.int c, .int n] = some (.n (nums xs)) := by
  have b1 : 0 ≤ (c % 1999999973 + 31) * 765432101 % 1999999973 := Int.emod_nonneg _ (by decide)
  have b2 : (c % 1999999973 + 31) * 765432101 % 1999999973 < 1999999973 := Int.emod_lt_of_pos _ (by decide)
  have cm : ((c % 1999999973 + 31).natAbs < 2 ^ 64 ∨ (765432101 : Int).natAbs < 2 ^ 64) = True := eq_true (.inr (by decide))
  have k1 := (K1i h0 (show n ≤ 100000 by omega)).1
  have ab : 0 ≤ (if c < 0 then -c else c) := by split <;> omega
  have fin : ∀ dg : Int, 0 ≤ dg → ∃ (xs : List Nat) (st' dg' : Int) (z' : Option Sl), xs.length = n.toNat ∧ loopF (gN 5) F__law_numbers_b1 (nums (List.range n.toNat)) [some (.val (.int c)), some (.val (.int n)), some (.own (nums [])), some (.val (.int ((c % 1999999973 + 31) * 765432101 % 1999999973))), some (.val (.int dg)), none] = .nx [some (.val (.int c)), some (.val (.int n)), some (.own (nums xs)), some (.val (.int st')), some (.val (.int dg')), z'] := fun dg hd => by
    obtain ⟨xs, st', dg', z', e1, e2⟩ := numbers_loop (s0 := some (.val (.int c))) (s1 := some (.val (.int n))) (ups 0 n.toNat) [] _ dg none (fun v hv => by obtain ⟨i, e, _⟩ := up_mem hv; exact ⟨i, e⟩) b1 b2 hd (by rw [ups_len]; simp; omega)
    rw [ups0] at e2
    exact ⟨xs, st', dg', z', by rw [e1, ups_len]; simp, e2⟩
  have hp : (10 : Int) ^ 18 = 1000000000000000000 := by decide
  by_cases hc : c < 0
  · obtain ⟨xs, st', dg', z', e1, e2⟩ := fin _ ab
    rw [nums_nil] at e2
    refine ⟨xs, e1, ?_⟩
    simp only [q_F__law_numbers, q_F__law_numbers_s, E1, E2, E3, E4, E5, E6, E7, E8, E9, E10, E11, E12, E13, E14, E15, E16, E17, E18, E19, E20, E21, E22, E23, E24, E25, E26, E27, E28, E29, E30, E31, E32, E33, E34, E35, E36, E37, E38, E39, E40, E41, E42, E43, E44, E45, E46, E47, E48, Nat.reduceAdd, Nat.reduceSub, Nat.reduceLeDiff, Nat.reduceLT, Nat.reduceEqDiff, Int.reduceLT, Int.reduceLE, Int.reduceAdd, Int.reduceSub, Int.reduceMul, Int.reduceMod, Int.reduceDiv, Int.reduceNeg, Int.reduceToNat, Int.reducePow, Int.reduceEq, cm, k1, decide_eq_true hc, e2]
  · by_cases hd : 1000000000000000000 ≤ c
    · obtain ⟨xs, st', dg', z', e1, e2⟩ := fin _ ab
      rw [nums_nil] at e2
      refine ⟨xs, e1, ?_⟩
      simp only [q_F__law_numbers, q_F__law_numbers_s, E1, E2, E3, E4, E5, E6, E7, E8, E9, E10, E11, E12, E13, E14, E15, E16, E17, E18, E19, E20, E21, E22, E23, E24, E25, E26, E27, E28, E29, E30, E31, E32, E33, E34, E35, E36, E37, E38, E39, E40, E41, E42, E43, E44, E45, E46, E47, E48, Nat.reduceAdd, Nat.reduceSub, Nat.reduceLeDiff, Nat.reduceLT, Nat.reduceEqDiff, Int.reduceLT, Int.reduceLE, Int.reduceAdd, Int.reduceSub, Int.reduceMul, Int.reduceMod, Int.reduceDiv, Int.reduceNeg, Int.reduceToNat, Int.reducePow, Int.reduceEq, cm, k1, decide_eq_false hc, show (0 : Int) ≤ 18 ∧ (18 : Int) ≤ 1000000 ∧ (10 : Int).natAbs < 2 ^ 64 from by decide, decide_eq_true hd, e2]
    · obtain ⟨xs, st', dg', z', e1, e2⟩ := fin 0 (by decide)
      rw [nums_nil] at e2
      refine ⟨xs, e1, ?_⟩
      simp only [q_F__law_numbers, q_F__law_numbers_s, E1, E2, E3, E4, E5, E6, E7, E8, E9, E10, E11, E12, E13, E14, E15, E16, E17, E18, E19, E20, E21, E22, E23, E24, E25, E26, E27, E28, E29, E30, E31, E32, E33, E34, E35, E36, E37, E38, E39, E40, E41, E42, E43, E44, E45, E46, E47, E48, Nat.reduceAdd, Nat.reduceSub, Nat.reduceLeDiff, Nat.reduceLT, Nat.reduceEqDiff, Int.reduceLT, Int.reduceLE, Int.reduceAdd, Int.reduceSub, Int.reduceMul, Int.reduceMod, Int.reduceDiv, Int.reduceNeg, Int.reduceToNat, Int.reducePow, Int.reduceEq, cm, k1, decide_eq_false hc, show (0 : Int) ≤ 18 ∧ (18 : Int) ≤ 1000000 ∧ (10 : Int).natAbs < 2 ^ 64 from by decide, decide_eq_false hd, e2]
theorem cell_loop {s0 s1 : Option Sl} (ns : List Int) : ∀ (st : Int) (z : Option Sl), ∃ (st' : Int) (z' : Option Sl), loopF (gN 3) F__law_cell_b1 (iL ns) [s0, s1, some (.val (.int st)), z] = .nx [s0, s1, some (.val (.int st')), z'] := by
  induction ns with
  | nil => intro st z; exact ⟨st, z, rfl⟩
  | cons n ns ih =>
    intro st z
    have cm : (st.natAbs < 2 ^ 64 ∨ (69621 : Int).natAbs < 2 ^ 64) = True := eq_true (.inr (by decide))
    show ∃ st' z', loopF (gN 3) F__law_cell_b1 (.int n :: iL ns) _ = _
    rw [loop_S]
    simp only [q_F__law_cell_b1, E1, E2, E3, E4, E5, E6, E7, E8, E9, E10, E11, E12, E13, E14, E15, E16, E17, E18, E19, E20, E21, E22, E23, E24, E25, E26, E27, E28, E29, E30, E31, E32, E33, E34, E35, E36, E37, E38, E39, E40, E41, E42, E43, E44, E45, E46, E47, E48, Nat.reduceAdd, Nat.reduceSub, Nat.reduceLeDiff, Nat.reduceLT, Nat.reduceEqDiff, Int.reduceLT, Int.reduceLE, Int.reduceAdd, Int.reduceSub, Int.reduceMul, Int.reduceMod, Int.reduceDiv, Int.reduceNeg, Int.reduceToNat, Int.reducePow, Int.reduceEq, cm]
    exact ih _ _
theorem t_cell (ns : List Int) (k : Int) (h0 : 0 ≤ k) (hk : k ≤ 1000) : ∃ i : Int, F__law_cell [.src (iL ns), .int k] = some (.v (.int i)) := by
  by_cases hl : k < ns.length
  · have hk' : k.toNat < ns.length := by omega
    have e : L2.atI (iL ns) k = some (.int ns[k.toNat]) := by
      have := atI_nat (ps := iL ns) (x := k.toNat) (p := .int ns[k.toNat]) (by unfold iL; rw [List.getElem?_map, List.getElem?_eq_getElem hk']; rfl)
      rwa [Int.toNat_of_nonneg h0] at this
    exact ⟨ns[k.toNat], by simp only [q_F__law_cell, q_F__law_cell_s, E1, E2, E3, E4, E5, E6, E7, E8, E9, E10, E11, E12, E13, E14, E15, E16, E17, E18, E19, E20, E21, E22, E23, E24, E25, E26, E27, E28, E29, E30, E31, E32, E33, E34, E35, E36, E37, E38, E39, E40, E41, E42, E43, E44, E45, E46, E47, E48, Nat.reduceAdd, Nat.reduceSub, Nat.reduceLeDiff, Nat.reduceLT, Nat.reduceEqDiff, Int.reduceLT, Int.reduceLE, Int.reduceAdd, Int.reduceSub, Int.reduceMul, Int.reduceMod, Int.reduceDiv, Int.reduceNeg, Int.reduceToNat, Int.reducePow, Int.reduceEq, iL_len, decide_eq_true hl, e]⟩
  · have c1 : (k.natAbs < 2 ^ 64) = True := eq_true (by omega)
    have c2 : ((48271 : Int).natAbs < 2 ^ 64) = True := eq_true (by decide)
    have c3 : ((7 : Int).natAbs < 2 ^ 64) = True := eq_true (by decide)
    obtain ⟨st', z', e⟩ := cell_loop (s0 := some (.val (.src (iL ns)))) (s1 := some (.val (.int k))) (cut ns none (some 3)) (48271 * (k * k + 7 * k + 11) % 2147483647) none
    refine ⟨st', ?_⟩
    simp only [q_F__law_cell, q_F__law_cell_s, E1, E2, E3, E4, E5, E6, E7, E8, E9, E10, E11, E12, E13, E14, E15, E16, E17, E18, E19, E20, E21, E22, E23, E24, E25, E26, E27, E28, E29, E30, E31, E32, E33, E34, E35, E36, E37, E38, E39, E40, E41, E42, E43, E44, E45, E46, E47, E48, Nat.reduceAdd, Nat.reduceSub, Nat.reduceLeDiff, Nat.reduceLT, Nat.reduceEqDiff, Int.reduceLT, Int.reduceLE, Int.reduceAdd, Int.reduceSub, Int.reduceMul, Int.reduceMod, Int.reduceDiv, Int.reduceNeg, Int.reduceToNat, Int.reducePow, Int.reduceEq, iL_len, decide_eq_false hl, c1, c2, c3, true_or, cut_iL, e]
theorem t_lmany (x : Nat) : ∃ n : Nat, 1 ≤ n ∧ n ≤ 40 ∧ F__law_many [.int x] = some (.v (.int n)) := by
  have a1 := Int.emod_nonneg ((x : Int) / 8) (show (12 : Int) ≠ 0 by decide)
  have a2 := Int.emod_lt_of_pos ((x : Int) / 8) (show (0 : Int) < 12 by decide)
  have a3 := Int.emod_nonneg ((x : Int) / 8) (show (40 : Int) ≠ 0 by decide)
  have a4 := Int.emod_lt_of_pos ((x : Int) / 8) (show (0 : Int) < 40 by decide)
  by_cases h : (x : Int) % 8 = 3
  · refine ⟨(1 + (x : Int) / 8 % 40).toNat, by omega, by omega, ?_⟩
    simp only [q_F__law_many, q_F__law_many_s, E1, E2, E3, E4, E5, E6, E7, E8, E9, E10, E11, E12, E13, E14, E15, E16, E17, E18, E19, E20, E21, E22, E23, E24, E25, E26, E27, E28, E29, E30, E31, E32, E33, E34, E35, E36, E37, E38, E39, E40, E41, E42, E43, E44, E45, E46, E47, E48, Nat.reduceAdd, Nat.reduceSub, Nat.reduceLeDiff, Nat.reduceLT, Nat.reduceEqDiff, Int.reduceLT, Int.reduceLE, Int.reduceAdd, Int.reduceSub, Int.reduceMul, Int.reduceMod, Int.reduceDiv, Int.reduceNeg, Int.reduceToNat, Int.reducePow, Int.reduceEq, ix2, decide_eq_true h]
    rw [Int.toNat_of_nonneg (by omega)]
  · refine ⟨(1 + (x : Int) / 8 % 12).toNat, by omega, by omega, ?_⟩
    simp only [q_F__law_many, q_F__law_many_s, E1, E2, E3, E4, E5, E6, E7, E8, E9, E10, E11, E12, E13, E14, E15, E16, E17, E18, E19, E20, E21, E22, E23, E24, E25, E26, E27, E28, E29, E30, E31, E32, E33, E34, E35, E36, E37, E38, E39, E40, E41, E42, E43, E44, E45, E46, E47, E48, Nat.reduceAdd, Nat.reduceSub, Nat.reduceLeDiff, Nat.reduceLT, Nat.reduceEqDiff, Int.reduceLT, Int.reduceLE, Int.reduceAdd, Int.reduceSub, Int.reduceMul, Int.reduceMod, Int.reduceDiv, Int.reduceNeg, Int.reduceToNat, Int.reducePow, Int.reduceEq, ix2, decide_eq_false h]
    rw [Int.toNat_of_nonneg (by omega)]
end Dp
end
section
namespace Dp
open PySem L2 Fo Pu
noncomputable def prs (g : Nat → Int) (l : List Nat) : List PV := l.map fun k => .tup [.int (g k), .int k]
theorem prs_len (g : Nat → Int) (l : List Nat) : (prs g l).length = l.length := List.length_map ..
theorem keys_prs (g : Nat → Int) : ∀ l : List Nat, keysOf (prs g l) = some (l.map fun k => [g k, (k : Int)])
  | [] => rfl
  | k :: l => by
    show keysOf (.tup [.int (g k), .int k] :: prs g l) = _
    rw [keysOf]
    rw [keys_prs g l]; rfl
noncomputable def ordr (g : Nat → Int) (n : Nat) : List Nat := ordI ((List.range n).map fun k => [g k, (k : Int)])
theorem ordr_perm (g : Nat → Int) (n : Nat) : (ordr g n).Perm (List.range n) := by
  have := ordI_perm ((List.range n).map fun k => [g k, (k : Int)])
  rwa [List.length_map, List.length_range] at this
theorem ordr_len (g : Nat → Int) (n : Nat) : (ordr g n).length = n := by rw [(ordr_perm g n).length_eq, List.length_range]
theorem sorted_prs (g : Nat → Int) (n : Nat) (hn : n < 64) : kSorted [.lst (prs g (List.range n))] = some (.nw (prs g (ordr g n))) := by
  simp only [E1, E2, E3, E4, E5, E6, E7, E8, E9, E10, E11, E12, E13, E14, E15, E16, E17, E18, E19, E20, E21, E22, E23, E24, E25, E26, E27, E28, E29, E30, E31, E32, E33, E34, E35, E36, E37, E38, E39, E40, E41, E42, E43, E44, E45, E46, E47, E48, keys_prs, prs_len, List.length_range, eq_true hn]
  congr 2
  unfold prs
  refine List.map_congr_left fun i hi => ?_
  have hi' : i < n := List.mem_range.mp ((ordr_perm g n).subset hi)
  rw [List.getD_eq_getElem?_getD, List.getElem?_map, List.getElem?_range hi']; rfl
theorem go_places {t : FT} {f : FE} {ρ : PSt} (g : Nat → Int) (l : List Nat) (h : ∀ a b : Int, (t (.tup [.int a, .int b]) ρ).bind (fun ρ2 => (f ρ2).bind RV.fr) = some (.int b)) : goF t fYes f ρ (prs g l) = some (nums l) := by
  have e : (prs g l).map (fun p => match p with | .tup [_, b] => b | _ => .non) = nums l := by
    unfold prs nums; rw [List.map_map]; exact List.map_congr_left fun u _ => rfl
  rw [← e]
  refine go_map _ fun p hp => ?_
  obtain ⟨u, _, rfl⟩ := List.mem_map.mp hp
  exact h _ _
theorem forest_loop {xs p : List Nat} {n : Nat} {kd : Int} {s2 : Option Sl} (hx : n < xs.length) (hn : n ≤ 40) (hp : p.Perm (List.range n)) (h0 : 0 ≤ kd) (h5 : kd < 5) (ks : List Nat) : ∀ (us : List Nat) (z6 z7 : Option Sl), (∀ k ∈ ks, 1 ≤ k ∧ k < n) → Ranked p us n →
    ∃ us' z6' z7', Ranked p us' n ∧ loopF (gN 6) F__law_forest_b3 (nums ks) [some (.val (.lst (nums xs))), some (.val (.int n)), s2, some (.val (.lst (nums p))), some (.own (nums us)), some (.val (.int kd)), z6, z7] = .nx [some (.val (.lst (nums xs))), some (.val (.int n)), s2, some (.val (.lst (nums p))), some (.own (nums us')), some (.val (.int kd)), z6', z7'] := by
  have hpl : p.length = n := by rw [hp.length_eq, List.length_range]
  have plt : ∀ k, k < n → up p k < n := fun k hk => by
    have hk' : k < p.length := by omega
    have e : up p k = p[k] := by simp [up, hk']
    rw [e]
    exact List.mem_range.mp (hp.subset (List.getElem_mem hk'))
  induction ks with
  | nil => intro us z6 z7 _ r; exact ⟨us, z6, z7, r, rfl⟩
  | cons k ks ih =>
    intro us z6 z7 hks r
    obtain ⟨k1, k2⟩ := hks k List.mem_cons_self
    have ih := fun us z6 z7 r => ih us z6 z7 (fun j hj => hks j (List.mem_cons_of_mem _ hj)) r
    have hpk := plt k k2
    have a0 := Int.emod_nonneg ((up xs (up p k) : Int) / 9973) (show (k : Int) ≠ 0 by omega)
    have a1 := Int.emod_lt_of_pos ((up xs (up p k) : Int) / 9973) (show (0 : Int) < k by omega)
    obtain ⟨c2, c3⟩ := and_low k (by omega)
    obtain ⟨v, hv, m, rfl, hm⟩ : ∃ v, L2.atI [PV.int ((up xs (up p k) : Int) / 9973 % (k : Int)), PV.int ((k : Int) - 1), PV.int 0, PV.int k, PV.int ((k : Int) - Builtin.bitAnd (k : Int) (0 - (k : Int)))] kd = some v ∧ ∃ m : Nat, v = PV.int m ∧ m ≤ k :=
      five h0 h5 ⟨_, natOf a0, by omega⟩ ⟨k - 1, by congr 1; omega, by omega⟩ ⟨0, rfl, by omega⟩ ⟨k, rfl, Nat.le_refl _⟩ ⟨_, natOf c2, by omega⟩
    have hmn : m < p.length := by omega
    have hul : up p k < us.length := by rw [r.len]; exact hpk
    have kp : ((0 : Int) < (k : Int)) = True := eq_true (by omega)
    rw [nums_cons, loop_S]
    by_cases hk0 : kd = 0
    · subst hk0
      by_cases hq : 0 < (up xs (up p k) : Int) / 1000 % 4
      · simp only [q_F__law_forest_b3, E1, E2, E3, E4, E5, E6, E7, E8, E9, E10, E11, E12, E13, E14, E15, E16, E17, E18, E19, E20, E21, E22, E23, E24, E25, E26, E27, E28, E29, E30, E31, E32, E33, E34, E35, E36, E37, E38, E39, E40, E41, E42, E43, E44, E45, E46, E47, E48, Nat.reduceAdd, Nat.reduceSub, Nat.reduceLeDiff, Nat.reduceLT, Nat.reduceEqDiff, Int.reduceLT, Int.reduceLE, Int.reduceAdd, Int.reduceSub, Int.reduceMul, Int.reduceMod, Int.reduceDiv, Int.reduceNeg, Int.reduceToNat, Int.reducePow, Int.reduceEq, atI_nums (show k < p.length by omega), atI_nums (show up p k < xs.length by omega), kp, hv, atI_nums hmn, ixN_nat hul, nums_set', decide_eq_true hq]
        exact ih _ _ _ (r.set k2 hm)
      · simp only [q_F__law_forest_b3, E1, E2, E3, E4, E5, E6, E7, E8, E9, E10, E11, E12, E13, E14, E15, E16, E17, E18, E19, E20, E21, E22, E23, E24, E25, E26, E27, E28, E29, E30, E31, E32, E33, E34, E35, E36, E37, E38, E39, E40, E41, E42, E43, E44, E45, E46, E47, E48, Nat.reduceAdd, Nat.reduceSub, Nat.reduceLeDiff, Nat.reduceLT, Nat.reduceEqDiff, Int.reduceLT, Int.reduceLE, Int.reduceAdd, Int.reduceSub, Int.reduceMul, Int.reduceMod, Int.reduceDiv, Int.reduceNeg, Int.reduceToNat, Int.reducePow, Int.reduceEq, atI_nums (show k < p.length by omega), atI_nums (show up p k < xs.length by omega), kp, hv, atI_nums hmn, ixN_nat hul, nums_set', decide_eq_false hq]
        exact ih _ _ _ r
    · simp only [q_F__law_forest_b3, E1, E2, E3, E4, E5, E6, E7, E8, E9, E10, E11, E12, E13, E14, E15, E16, E17, E18, E19, E20, E21, E22, E23, E24, E25, E26, E27, E28, E29, E30, E31, E32, E33, E34, E35, E36, E37, E38, E39, E40, E41, E42, E43, E44, E45, E46, E47, E48, Nat.reduceAdd, Nat.reduceSub, Nat.reduceLeDiff, Nat.reduceLT, Nat.reduceEqDiff, Int.reduceLT, Int.reduceLE, Int.reduceAdd, Int.reduceSub, Int.reduceMul, Int.reduceMod, Int.reduceDiv, Int.reduceNeg, Int.reduceToNat, Int.reducePow, Int.reduceEq, atI_nums (show k < p.length by omega), atI_nums (show up p k < xs.length by omega), kp, hv, atI_nums hmn, ixN_nat hul, nums_set', decide_eq_false hk0]
      exact ih _ _ _ (r.set k2 hm)
theorem t_lforest {xs : List Nat} {n : Nat} (hx : n < xs.length) (h1 : 1 ≤ n) (hn : n ≤ 40) : ∃ us : List Nat, Frst us ∧ us.length = n ∧ F__law_forest [.lst (nums xs), .int n] = some (.v (.tup (nums us))) := by
  generalize hg : (fun k : Nat => (up xs k : Int) % 9973) = g
  have e1 : goF (gN 0) fYes F__law_forest_e1 [none, some (.val (.lst (nums xs)))] (nums (List.range n)) = some (prs g (List.range n)) := go_nums _ fun u hu => by
    have hu' := List.mem_range.mp hu
    simp only [q_F__law_forest_e1, E1, E2, E3, E4, E5, E6, E7, E8, E9, E10, E11, E12, E13, E14, E15, E16, E17, E18, E19, E20, E21, E22, E23, E24, E25, E26, E27, E28, E29, E30, E31, E32, E33, E34, E35, E36, E37, E38, E39, E40, E41, E42, E43, E44, E45, E46, E47, E48, Nat.reduceAdd, Nat.reduceSub, Nat.reduceLeDiff, Nat.reduceLT, Nat.reduceEqDiff, Int.reduceLT, Int.reduceLE, Int.reduceAdd, Int.reduceSub, Int.reduceMul, Int.reduceMod, Int.reduceDiv, Int.reduceNeg, Int.reduceToNat, Int.reducePow, Int.reduceEq, atI_nums (show u < xs.length by omega), ← hg]
  have e2 : goF (gN 0) fYes F__law_forest_e2 [none] (prs g (ordr g n)) = some (nums (ordr g n)) := go_places g _ fun a b => by
    simp only [q_F__law_forest_e2, E1, E2, E3, E4, E5, E6, E7, E8, E9, E10, E11, E12, E13, E14, E15, E16, E17, E18, E19, E20, E21, E22, E23, E24, E25, E26, E27, E28, E29, E30, E31, E32, E33, E34, E35, E36, E37, E38, E39, E40, E41, E42, E43, E44, E45, E46, E47, E48, Nat.reduceAdd, Nat.reduceSub, Nat.reduceLeDiff, Nat.reduceLT, Nat.reduceEqDiff, Int.reduceLT, Int.reduceLE, Int.reduceAdd, Int.reduceSub, Int.reduceMul, Int.reduceMod, Int.reduceDiv, Int.reduceNeg, Int.reduceToNat, Int.reducePow, Int.reduceEq]
  have hk0 := Int.emod_nonneg (up xs n : Int) (show (5 : Int) ≠ 0 by decide)
  have hk5 := Int.emod_lt_of_pos (up xs n : Int) (show (0 : Int) < 5 by decide)
  obtain ⟨us, z6, z7, r, el⟩ := forest_loop (s2 := some (.val (.lst (prs g (ordr g n))))) hx hn (ordr_perm g n) hk0 hk5 ((List.range (n - 1)).map (· + 1)) (List.range n) none none (fun k hk => by
    obtain ⟨j, hj, rfl⟩ := List.mem_map.mp hk
    have := List.mem_range.mp hj
    omega) (.range (ordr_perm g n))
  refine ⟨us, ⟨by rw [r.len]; exact h1, by rw [r.len]; exact hn, ranked_fst r⟩, r.len, ?_⟩
  have hl : n < 1000 := by omega
  simp only [q_F__law_forest, q_F__law_forest_s, E1, E2, E3, E4, E5, E6, E7, E8, E9, E10, E11, E12, E13, E14, E15, E16, E17, E18, E19, E20, E21, E22, E23, E24, E25, E26, E27, E28, E29, E30, E31, E32, E33, E34, E35, E36, E37, E38, E39, E40, E41, E42, E43, E44, E45, E46, E47, E48, Nat.reduceAdd, Nat.reduceSub, Nat.reduceLeDiff, Nat.reduceLT, Nat.reduceEqDiff, Int.reduceLT, Int.reduceLE, Int.reduceAdd, Int.reduceSub, Int.reduceMul, Int.reduceMod, Int.reduceDiv, Int.reduceNeg, Int.reduceToNat, Int.reducePow, Int.reduceEq, K1 (show n ≤ 100000 by omega), K2 (show n ≤ 100000 by omega), List.length_range, hl, e1, sorted_prs g n (by omega), prs_len, ordr_len, e2, atI_nums hx, el]
end Dp
end
section
namespace Lo
open PySem PySem.Spec L2 Fo Pu Dp
theorem lotsN_succ (us : List Nat) (n : Nat) : lotsN us (n + 1) = putL (lotsN us n) (hd us n) n := by
  unfold lotsN; rw [List.range_succ, List.foldl_append]; rfl
theorem putL_len (acc : List (Nat × List Nat)) (h x : Nat) : (putL acc h x).length ≤ acc.length + 1 := by
  unfold putL; split
  · rw [List.length_map]; omega
  · rw [List.length_append]; simp
theorem lotsN_len (us : List Nat) : ∀ n, (lotsN us n).length ≤ n
  | 0 => Nat.le_refl _
  | n + 1 => by rw [lotsN_succ]; have := putL_len (lotsN us n) (hd us n) n; have := lotsN_len us n; omega
theorem putL_lens {acc : List (Nat × List Nat)} {h x m : Nat} (ha : ∀ t ∈ acc, t.2.length ≤ m) : ∀ t ∈ putL acc h x, t.2.length ≤ m + 1 := by
  unfold putL
  intro t ht
  split at ht
  · obtain ⟨u, hu, rfl⟩ := List.mem_map.mp ht
    have := ha u hu
    split
    · simp; omega
    · omega
  · rcases List.mem_append.mp ht with ht | ht
    · have := ha t ht; omega
    · rw [List.mem_singleton] at ht; subst ht; simp
theorem lotsN_lens (us : List Nat) : ∀ n, ∀ t ∈ lotsN us n, t.2.length ≤ n
  | 0 => fun t ht => absurd ht (List.not_mem_nil)
  | n + 1 => by rw [lotsN_succ]; exact putL_lens (lotsN_lens us n)
noncomputable abbrev At := Nat × List Nat × Addr
noncomputable def kv (t : At) : Key × V := (.inl (t.1 : Int), .ref t.2.2)
noncomputable def fgt (t : At) : Nat × List Nat := (t.1, t.2.1)
noncomputable def nv (n : Nat) : V := .int (n : Int)
noncomputable def putA (acc : List At) (h x : Nat) (l : Addr) : List At :=
  if acc.any (fun t => decide (t.1 = h)) then acc.map (fun t => if t.1 = h then (t.1, t.2.1 ++ [x], t.2.2) else t) else acc ++ [(h, [x], l)]
theorem any_fgt (acc : List At) (h : Nat) : (acc.map fgt).any (fun t => decide (t.1 = h)) = acc.any (fun t => decide (t.1 = h)) := by rw [List.any_map]; rfl
theorem fgt_putA (acc : List At) (h x : Nat) (l : Addr) : (putA acc h x l).map fgt = putL (acc.map fgt) h x := by
  unfold putA putL
  rw [any_fgt]
  split
  · rw [List.map_map, List.map_map]
    refine List.map_congr_left fun t _ => ?_
    show fgt (if t.1 = h then _ else _) = if t.1 = h then _ else _
    split <;> rfl
  · rw [List.map_append]; rfl
theorem key_dec (a b : Nat) : decide ((Sum.inl (a : Int) : Key) = Sum.inl (b : Int)) = decide (a = b) := by
  rw [Bool.eq_iff_iff, decide_eq_true_iff, decide_eq_true_iff]
  constructor
  · intro e; have := Sum.inl.inj e; omega
  · intro e; rw [e]
theorem val_kv (h : Nat) : ∀ acc : List At, valV (acc.map kv) (.inl (h : Int)) = (acc.find? fun t => decide (t.1 = h)).map fun t => .ref t.2.2
  | [] => rfl
  | t :: acc => by
    rw [List.map_cons, List.find?_cons]
    by_cases e : t.1 = h
    · rw [valV_pos (show (kv t).1 = _ by show (Sum.inl (t.1 : Int) : Key) = _; rw [e]), decide_eq_true e]; rfl
    · rw [valV_neg (show ¬ (kv t).1 = _ from fun z => e (by have := Sum.inl.inj z; omega)), decide_eq_false e]
      exact val_kv h acc
theorem any_kv (h : Nat) (acc : List At) : ((acc.map kv).any fun p => decide (p.1 = (Sum.inl (h : Int) : Key))) = acc.any (fun t => decide (t.1 = h)) := by
  rw [List.any_map]
  congr 1
  funext t
  exact key_dec t.1 h
structure St (F H F1 H1 : Hp) (d : Addr) (acc : List At) : Prop where
  gr : Grow F H F1 H1
  d0 : H d = none
  dF : F1 d = none
  dH : H1 d = some (.dK (acc.map kv))
  ls : ∀ t ∈ acc, H t.2.2 = none ∧ F1 t.2.2 = none ∧ H1 t.2.2 = some (.lst (t.2.1.map nv))
  nd : (acc.map (·.2.2)).Nodup
  nk : (acc.map (·.1)).Nodup
theorem St.grow {F H F1 H1 F2 H2 : Hp} {d : Addr} {acc : List At} (s : St F H F1 H1 d acc) (g : Grow F1 H1 F2 H2) : St F H F2 H2 d acc := by
  have k := g.keep s.dF s.dH
  refine ⟨s.gr.trans g, s.d0, k.1, k.2, fun t ht => ?_, s.nd, s.nk⟩
  obtain ⟨a, b, c⟩ := s.ls t ht
  have k := g.keep b c
  exact ⟨a, k.1, k.2⟩
theorem Grow.mut {F H F1 H1 : Hp} (g : Grow F H F1 H1) {l : Addr} {o : HO} (h0 : H l = none) (hF : F1 l = none) : Grow F H F1 (L2.upd H1 l o) := by
  refine ⟨fun b u e => ?_, g.ff, fun b u e => ?_, g.nw⟩
  · rw [upd_ne fun z => by subst z; rw [h0] at e; cases e]; exact g.hh b u e
  · rw [upd_ne fun z => by subst z; rw [hF] at e; cases e]; exact g.fh b u e
theorem find_mem {acc : List At} {h : Nat} {t : At} (e : acc.find? (fun t => decide (t.1 = h)) = some t) : t ∈ acc ∧ t.1 = h := ⟨List.mem_of_find?_eq_some e, by simpa using List.find?_some e⟩
theorem St.found {F H F1 H1 : Hp} {d : Addr} {acc : List At} (s : St F H F1 H1 d acc) {h x : Nat} {t : At} (e : acc.find? (fun t => decide (t.1 = h)) = some t) (l : Addr) : St F H F1 (L2.upd H1 t.2.2 (.lst (t.2.1.map nv ++ [nv x]))) d (putA acc h x l) := by
  obtain ⟨hm, hk⟩ := find_mem e
  obtain ⟨a, b, c⟩ := s.ls t hm
  have hany : acc.any (fun t => decide (t.1 = h)) = true := List.any_eq_true.mpr ⟨t, hm, by simpa using hk⟩
  have one : ∀ u ∈ acc, u.1 = h → u = t := fun u hu hh => by
    have nk := s.nk
    obtain ⟨i, hi, rfl⟩ := List.mem_iff_getElem.mp hu
    obtain ⟨j, hj, rfl⟩ := List.mem_iff_getElem.mp hm
    have : (acc.map (·.1))[i]'(by simpa using hi) = (acc.map (·.1))[j]'(by simpa using hj) := by simp [hh, hk]
    have := (List.getElem_inj nk).mp this
    subst this; rfl
  have ad : ∀ u ∈ acc, u ≠ t → u.2.2 ≠ t.2.2 := fun u hu hne z => by
    have nd := s.nd
    obtain ⟨i, hi, rfl⟩ := List.mem_iff_getElem.mp hu
    obtain ⟨j, hj, rfl⟩ := List.mem_iff_getElem.mp hm
    have : (acc.map (·.2.2))[i]'(by simpa using hi) = (acc.map (·.2.2))[j]'(by simpa using hj) := by simp [z]
    have := (List.getElem_inj nd).mp this
    subst this; exact hne rfl
  have hd : d ≠ t.2.2 := fun z => by rw [← z, s.dH] at c; cases c
  have e1 : (putA acc h x l).map kv = acc.map kv := by
    unfold putA; rw [if_pos hany, List.map_map]
    refine List.map_congr_left fun u _ => ?_
    show kv (if u.1 = h then _ else _) = kv u
    split <;> rfl
  have e2 : (putA acc h x l).map (·.2.2) = acc.map (·.2.2) := by
    unfold putA; rw [if_pos hany, List.map_map]
    refine List.map_congr_left fun u _ => ?_
    show (if u.1 = h then (u.1, u.2.1 ++ [x], u.2.2) else u).2.2 = u.2.2
    split <;> rfl
  have e3 : (putA acc h x l).map (·.1) = acc.map (·.1) := by
    unfold putA; rw [if_pos hany, List.map_map]
    refine List.map_congr_left fun u _ => ?_
    show (if u.1 = h then (u.1, u.2.1 ++ [x], u.2.2) else u).1 = u.1
    split <;> rfl
  refine ⟨Grow.mut s.gr a b, s.d0, s.dF, by rw [e1, upd_ne hd]; exact s.dH, fun u hu => ?_, by rw [e2]; exact s.nd, by rw [e3]; exact s.nk⟩
  unfold putA at hu; rw [if_pos hany] at hu
  obtain ⟨u, hu', rfl⟩ := List.mem_map.mp hu
  obtain ⟨a', b', c'⟩ := s.ls u hu'
  by_cases q : u.1 = h
  · rw [if_pos q]
    have := one u hu' q
    subst this
    exact ⟨a', b', by rw [upd_same, List.map_append]; rfl⟩
  · rw [if_neg q]
    refine ⟨a', b', ?_⟩
    rw [upd_ne (ad u hu' fun z => q (by rw [z]; exact hk))]; exact c'
theorem St.fresh {F H F1 H1 : Hp} {d : Addr} {acc : List At} (s : St F H F1 H1 d acc) {h x : Nat} {l : Addr} (e : acc.find? (fun t => decide (t.1 = h)) = none) (hl : H1 l = none) :
    St F H F1 (L2.upd (L2.upd (L2.upd H1 l (.lst [])) d (.dK (putK (acc.map kv) (.inl (h : Int)) (.ref l)))) l (.lst [nv x])) d (putA acc h x l) := by
  have hany : acc.any (fun t => decide (t.1 = h)) = false := by
    rw [Bool.eq_false_iff]
    intro z
    obtain ⟨t, ht, q⟩ := List.any_eq_true.mp z
    have := List.find?_eq_none.mp e t ht
    exact this q
  have hdl : d ≠ l := fun z => by rw [z] at s; rw [s.dH] at hl; cases hl
  have l0 : H l = none := s.gr.hh.free hl
  have lF : F1 l = none := s.gr.fh.free hl
  have ep : putK (acc.map kv) (.inl (h : Int)) (.ref l) = (putA acc h x l).map kv := by
    unfold putK putA
    rw [any_kv, hany]
    show (acc.map kv) ++ _ = (acc ++ _).map kv
    rw [List.map_append]; rfl
  have hne : ∀ t ∈ acc, t.2.2 ≠ l := fun t ht z => by have := (s.ls t ht).2.2; rw [z, hl] at this; cases this
  have hnd : ∀ t ∈ acc, t.2.2 ≠ d := fun t ht z => by have := (s.ls t ht).2.2; rw [z, s.dH] at this; cases this
  have pa : putA acc h x l = acc ++ [(h, [x], l)] := by unfold putA; rw [hany]; rfl
  refine ⟨Grow.mut (Grow.mut (Grow.mut s.gr l0 lF) s.d0 s.dF) l0 lF, s.d0, s.dF, ?_, fun t ht => ?_, ?_, ?_⟩
  · rw [upd_ne hdl, upd_same, ep]
  · rw [pa] at ht
    rcases List.mem_append.mp ht with ht | ht
    · obtain ⟨a, b, c⟩ := s.ls t ht
      exact ⟨a, b, by rw [upd_ne (hne t ht), upd_ne (hnd t ht), upd_ne (hne t ht)]; exact c⟩
    · rw [List.mem_singleton] at ht; subst ht
      exact ⟨l0, lF, upd_same⟩
  · rw [pa, List.map_append, List.nodup_append]
    refine ⟨s.nd, by simp, fun a ha b hb => ?_⟩
    obtain ⟨t, ht, rfl⟩ := List.mem_map.mp ha
    simp at hb; subst hb
    exact hne t ht
  · rw [pa, List.map_append, List.nodup_append]
    refine ⟨s.nk, by simp, fun a ha b hb => ?_⟩
    obtain ⟨t, ht, rfl⟩ := List.mem_map.mp ha
    simp at hb; subst hb
    have := List.find?_eq_none.mp e t ht
    simpa using this
noncomputable abbrev rLen (K : PySem.W.Frag) : List V → Hp → VK → Prop := fun xs H Q => ∃ x n, xs = [x] ∧ LenV K x H n ∧ Q (.int n) H
noncomputable abbrev rTup (K : PySem.W.Frag) : List V → Hp → VK → Prop := fun xs H Q => ∃ p ys, xs = [.ref p] ∧ ((SqL K H p ys ∧ ∀ l, H l = none → Q (.ref l) (L2.upd H l (.tup ys))) ∨ (SqT K H p ys ∧ Q (.ref p) H))
noncomputable def tLotsB (K : PySem.W.Frag) (spW : Sp) : TS := tSeq (tAsg (tOp (L2.rIx K) (tCall spW [] E0 (tCons (tVar 0) (tCons (tVar 2) tNil))) (tUn (rU fun i => .int (-i)) (tC (.int 1)))) (gName 3))
    (tDrop (tBM K "list" rAppend (tDSetD (tVar 1) (tVar 3) (tLst tNil)) (tCons (tVar 2) tNil)))
noncomputable def tLotsE (K : PySem.W.Frag) : TS := tRet (tComp [none] (iVals (tVar 1)) (gName 0) tYes (tCB (rTup K) (tCons (tVar 0) tNil)))
noncomputable def tLots (K : PySem.W.Frag) (spW : Sp) : TS := tSeq (tAsg tDNewK (gName 1)) (tSeq (tFor (iRng1 (tCons (tCB (rLen K) (tCons (tVar 0) tNil)) tNil)) (gName 2) (tLotsB K spW)) (tLotsE K))
theorem reps_nv {K : PySem.W.Frag} {F : Hp} : ∀ l : List Nat, Reps K F (nums l) (l.map nv)
  | [] => rfl
  | _ :: l => ⟨_, _, rfl, rfl, reps_nv l⟩
theorem lots_read {K : PySem.W.Frag} {F H : Hp} {u : Addr} {us : List Nat} (f : Frst us) (sm : Same F H) (hu : F u = some (.tup (us.map nv))) {Q : VK} {N : L2.St → Hp → Prop}
    (q : ∀ a vs F' H', Grow F H F' H' → H a = none → F' a = none → H' a = some (.lst vs) → Reps K F' (lotsV us) vs → Q (.ref a) H') : tLots K (spP K (fnP Dp.F_way_up)) { nx := N, rt := Q } [some (.ref u), none, none, none] H := by
  intro d hd
  have hm := f.most
  have hud : u ≠ d := fun z => by rw [← z, sm u _ hu] at hd; cases hd
  show tFor (iRng1 (tCons (tCB (rLen K) (tCons (tVar 0) tNil)) tNil)) (gName 2) (tLotsB K (spP K (fnP Dp.F_way_up))) { nx := tLotsE K { nx := N, rt := Q }, rt := Q } [some (V.ref u), some (V.ref d), none, none] (L2.upd H d (.dK []))
  refine rd_for_range (lo := 0) (n := us.length) (H1 := L2.upd H d (.dK [])) (fun i σ H' => ∃ F1 acc z2 z3, σ = [some (.ref u), some (.ref d), z2, z3] ∧ St F H F1 H' d acc ∧ acc.map fgt = lotsN us i) (fun R r => ?_) ?_ (fun i σ H' hi ⟨F1, acc, z2, z3, es, s, ea⟩ => ?_) (fun σ H' ⟨F1, acc, z2, z3, es, s, ea⟩ => ?_)
  · refine ⟨_, rfl, .ref u, us.length, rfl, .inr ⟨us.map nv, SqT.of (by rw [upd_ne hud]; exact sm u _ hu), by rw [List.length_map]⟩, (us.length : Int), rfl, by omega, by omega, ?_⟩
    rw [Int.toNat_natCast]; exact r
  · exact ⟨F, [], none, none, rfl, ⟨Grow.mut (.refl sm) hd (sm.free hd), hd, sm.free hd, upd_same, fun t ht => absurd ht (List.not_mem_nil), List.nodup_nil, List.nodup_nil⟩, rfl⟩
  · subst es
    have hla : acc.length ≤ i := by rw [← List.length_map (f := fgt), ea]; exact lotsN_len us i
    have hll : ∀ t ∈ acc, t.2.1.length ≤ i := fun t ht => lotsN_lens us i (fgt t) (by rw [← ea]; exact List.mem_map_of_mem ht)
    refine ⟨_, rfl, _, rfl, ?_⟩
    refine ⟨F1, [.tup (nums us), .int i], fun r => r = .n (nums (way us i)), s.gr.fh, ?_, ⟨_, Dp.t_way (.inl rfl) f hi, rfl⟩, fun r v F2 H2 er g rr => ?_⟩
    · refine ⟨_, _, rfl, ⟨u, _, rfl, s.gr.ff u _ hu, reps_nv us⟩, _, _, rfl, ?_, rfl⟩
      show V.int (0 + (i : Int)) = V.int i
      rw [Int.zero_add]
    · subst er
      obtain ⟨a, vs, rfl, h0, hF, hH, rs⟩ := rr
      have s2 := s.grow g
      have ne := (way_ok f.fst hi).ne
      obtain ⟨v, ev, rv⟩ := rs.atI (Pu.atI_last' ne)
      cases (show v = V.int (last (way us i) : Nat) from rv)
      refine ⟨1, rfl, .inl ⟨a, vs, -1, _, rfl, rfl, SqL.of hH, ev, ?_⟩⟩
      refine ⟨_, rfl, d, rfl, .inl ⟨_, .inl s2.dH⟩, _, rfl, Nat.zero_le _, fun l hl => ?_⟩
      have hdl : d ≠ l := fun z => by rw [← z, s2.dH] at hl; cases hl
      have s3 := s2.grow (Grow.newO s2.gr.fh hl (.lst []))
      have big : ∀ k, k ≤ 40 → k < sizeLine := fun k hk => Nat.lt_of_le_of_lt hk (by decide)
      refine ⟨acc.map kv, .inl ((Fo.hd us i : Nat) : Int), s3.dH, rfl, by rw [List.length_map]; exact big _ (by omega), fun v e => ?_, fun e => ?_⟩
      · rw [val_kv] at e
        obtain ⟨t, et, rfl⟩ := Option.map_eq_some_iff.mp e
        obtain ⟨tm, tk⟩ := find_mem et
        obtain ⟨b0, b1, b2⟩ := s3.ls t tm
        refine ⟨.inl ⟨rfl, _, SqL.of b2⟩, _, rfl, t.2.2, _, _, rfl, rfl, b2, by rw [List.length_map]; exact big _ (by have := hll t tm; omega), F2, putA acc (Fo.hd us i) i l, _, _, rfl, ?_, ?_⟩
        · have := s3.found et (x := i) l
          rw [show V.int (0 + (i : Int)) = nv i by rw [Int.zero_add]; rfl]
          exact this
        · rw [fgt_putA, ea, lotsN_succ]
      · rw [val_kv] at e
        have en : acc.find? (fun t => decide (t.1 = Fo.hd us i)) = none := Option.map_eq_none_iff.mp e
        have hl4 : (L2.upd (L2.upd H2 l (.lst [])) d (.dK (putK (acc.map kv) (.inl ((Fo.hd us i : Nat) : Int)) (.ref l)))) l = some (.lst []) := by rw [upd_ne (Ne.symm hdl), upd_same]
        refine ⟨.inl ⟨rfl, _, SqL.of hl4⟩, _, rfl, l, _, _, rfl, rfl, hl4, big 0 (by decide), F2, putA acc (Fo.hd us i) i l, _, _, rfl, ?_, ?_⟩
        · have := s2.fresh (x := i) en hl
          rw [show V.int (0 + (i : Int)) = nv i by rw [Int.zero_add]; rfl]
          exact this
        · rw [fgt_putA, ea, lotsN_succ]
  · subst es
    have hla : acc.length ≤ us.length := by rw [← List.length_map (f := fgt), ea]; exact lotsN_len us _
    refine ⟨_, rfl, d, acc.map kv, rfl, s.dH, fun ob => ?_⟩
    refine ⟨fun i ys Hc => i ≤ acc.length ∧ ∃ Fc, Grow F H Fc Hc ∧ Hc d = some (.frz ob (.dK (acc.map kv))) ∧ (∀ t ∈ acc, Hc t.2.2 = some (.lst (t.2.1.map nv))) ∧ Reps K Fc ((acc.take i).map fun t => PV.tup (nums t.2.1)) ys, acc.length, ⟨Nat.zero_le _, F1, Grow.mut s.gr s.d0 s.dF, upd_same, fun t ht => ?_, rfl⟩, fun i ys Hc ⟨hi, Fc, g, h1, h2, h3⟩ => ⟨hi, ?_⟩, fun i ys Hc ⟨hi, Fc, g, h1, h2, h3⟩ => ?_⟩
    · have := (s.ls t ht).2.2
      rw [upd_ne fun z => by rw [z, s.dH] at this; cases this]; exact this
    · rw [h3.length, List.length_map, List.length_take]
      exact Nat.lt_of_le_of_lt (show min i acc.length ≤ 40 by omega) (by decide)
    · by_cases hlt : i < acc.length
      · refine .inr ⟨⟨h1, by rw [List.length_map]; exact hlt⟩, fun x H'' ⟨eH, ex⟩ => ?_⟩
        subst eH
        rw [List.getElem?_map, List.getElem?_eq_getElem hlt] at ex
        cases ex
        have hmem : acc[i] ∈ acc := List.getElem_mem hlt
        have hc := h2 _ hmem
        refine ⟨_, rfl, acc[i].2.2, acc[i].2.1.map nv, rfl, .inl ⟨SqL.of hc, fun l hl => ⟨hlt, L2.upd Fc l (.tup (acc[i].2.1.map nv)), g.trans (.new g.fh hl _), ?_, fun t ht => ?_, ?_⟩⟩⟩
        · rw [upd_ne fun z => by rw [← z, h1] at hl; cases hl]; exact h1
        · have := h2 t ht
          rw [upd_ne fun z => by rw [z, hl] at this; cases this]; exact this
        · rw [List.take_succ_eq_append_getElem hlt, List.map_append]
          exact (h3.mono (same_new (g.fh.free hl) _)).app (.one ⟨l, _, rfl, upd_same, reps_nv _⟩)
      · have hi' : i = acc.length := by omega
        subst hi'
        refine .inl ⟨⟨h1, by rw [List.length_map]; exact Nat.le_refl _⟩, fun l hl => q l ys Fc _ (g.trans (.newO g.fh hl _)) (g.hh.free hl) (g.fh.free hl) upd_same ?_⟩
        have e : lotsV us = (acc.take acc.length).map fun t => PV.tup (nums t.2.1) := by
          unfold lotsV lots
          rw [List.take_length, ← ea, List.map_map, List.map_map]; rfl
        rw [e]; exact h3
end Lo
end
section
namespace Dp
open PySem PySem.Spec L2 Pu Fo Lo
theorem lots_def {P : Program} {w : World} {K : PySem.W.Frag} {mg : Str → Option Value} {base : Heap} {x : Str} {st : Stmt} {k : Nat} (F : FunD K mg x st ["ups"]) (S : FnScope ["ups", "lots", "x", "head"] ["ups"] (defScope st))
    (hb : ∀ (f : Addr) (cdv : Value) (A : Around) (outer : List Env) (s : Shared) (H : Hp) (E : XK), Room k (A.deeper (PyProof.Rows.envOfC x (defScope st) s.heap.objs.size f cdv)) → PSs (cxOf CX0 P w K mg base ["ups", "lots", "x", "head"] x (defScope st) f cdv A outer s H E).nox (defBody st) (tLots K (spP K (fnP F_way_up)))) :
    Def P w K mg base (k + 1) x ["ups"] (spP K (fnP F_lots_in)) := by
  refine F.ok S (fun vs H Q E ⟨F', qs, Qp, sm, r, ⟨res, e, q⟩, kk⟩ => ?_) (fun f cdv A outer s H vs Q E hr ⟨F', qs, Qp, sm, r, ⟨res, e, q⟩, kk⟩ => ⟨_, hb f cdv A outer s H E hr, ?_⟩)
  · unfold F_lots_in at e
    split at e
    · rw [r.length]; rfl
    · cases e
  · unfold F_lots_in at e
    split at e
    · split at e
      · next us eu =>
        split at e
        · next z =>
          cases e
          obtain ⟨v, t, rfl, ⟨u, ws, rfl, hu, ru⟩, ht⟩ := r
          cases (show t = [] from ht)
          rw [natsOf_ok eu] at ru
          have ew : ws = us.map nv := reps_nums_eq ru
          subst ew
          exact lots_read (isF_ok z) sm hu fun a vs F2 H2 g h0 hF hH rs => kk _ _ F2 H2 q g ⟨a, vs, rfl, h0, hF, hH, rs⟩
        · cases e
      · cases e
    · cases e
end Dp
end
section
namespace Fo
open PySem L2
structure Chn (p us : List Nat) : Prop where
  pos : 1 ≤ p.length
  nd : p.Nodup
  lt : ∀ k, k < p.length → up p k < us.length
  nx : ∀ k, k + 1 < p.length → up us (up p k) = up p (k + 1)
  tp : up us (up p (p.length - 1)) = up p (p.length - 1)
theorem s5 {y : Str} (hy : y ∈ manners) : y = "none" ∨ y = "whole" ∨ y = "halves" ∨ y = "splits" ∨ y = "one" := by simpa [manners] using hy
theorem n1 : (("halves" : Str) = "whole") = False := eq_false (by decide)
theorem n2 : (("halves" : Str) = "splits") = False := eq_false (by decide)
theorem n3 : (("splits" : Str) = "whole") = False := eq_false (by decide)
theorem n7 : (("none" : Str) = "whole") = False := eq_false (by decide)
end Fo
end
section
namespace Dp
open PySem L2 Fo Pu Lo
theorem lway_loop {p : PV} {us : List Nat} (hp : p = .tup (nums us) ∨ p = .lst (nums us)) (hm : us.length ≤ 40) (hb : ∀ x, x < us.length → up us x < us.length) {s1 : Option Sl} {y : Nat} {l2 : List Nat} (w : Way us y l2) : ∀ (pre : List Nat), pre.length + l2.length ≤ us.length → y < us.length →
    ∀ n, l2.length < n → whileF F__law_way_c1 F__law_way_b2 n [some (.val p), s1, some (.own (nums (pre ++ [y])))] = .nx [some (.val p), s1, some (.own (nums (pre ++ l2)))] := by
  induction w with
  | @head y e =>
    intro pre hl hy n hn
    obtain ⟨n, rfl⟩ : ∃ k, n = k + 1 := ⟨n - 1, by simp at hn; omega⟩
    rw [while_S]
    rcases hp with rfl | rfl <;>
      simp only [q_F__law_way_c1, E1, E2, E3, E4, E5, E6, E7, E8, E9, E10, E11, E12, E13, E14, E15, E16, E17, E18, E19, E20, E21, E22, E23, E24, E25, E26, E27, E28, E29, E30, E31, E32, E33, E34, E35, E36, E37, E38, E39, E40, E41, E42, E43, E44, E45, E46, E47, E48, Nat.reduceAdd, Nat.reduceSub, Nat.reduceLeDiff, Nat.reduceLT, Nat.reduceEqDiff, Int.reduceLT, Int.reduceLE, Int.reduceAdd, Int.reduceSub, Int.reduceMul, Int.reduceMod, Int.reduceDiv, Int.reduceNeg, Int.reduceToNat, Int.reducePow, Int.reduceEq, Pu.atI_last, atI_nums hy, e]
  | @step y l ne w ih =>
    intro pre hl hy n hn
    obtain ⟨n, rfl⟩ : ∃ k, n = k + 1 := ⟨n - 1, by simp at hn; omega⟩
    have ih := ih (pre ++ [y]) (by simp at hl ⊢; omega) (hb y hy) n (by simp at hn; omega)
    rw [List.append_assoc, List.append_assoc] at ih
    have pos := w.pos
    have hne : decide ((up us y : Int) = (y : Int)) = false := decide_eq_false (by omega)
    have hpl : (pre ++ [y]).length ≤ 100000 := by simp at hl ⊢; omega
    have hle : decide (((pre ++ [y]).length : Int) ≤ (us.length : Int)) = true := decide_eq_true (by simp at hl ⊢; omega)
    rw [while_S]
    rcases hp with rfl | rfl <;>
      (simp only [q_F__law_way_c1, q_F__law_way_b2, E1, E2, E3, E4, E5, E6, E7, E8, E9, E10, E11, E12, E13, E14, E15, E16, E17, E18, E19, E20, E21, E22, E23, E24, E25, E26, E27, E28, E29, E30, E31, E32, E33, E34, E35, E36, E37, E38, E39, E40, E41, E42, E43, E44, E45, E46, E47, E48, Nat.reduceAdd, Nat.reduceSub, Nat.reduceLeDiff, Nat.reduceLT, Nat.reduceEqDiff, Int.reduceLT, Int.reduceLE, Int.reduceAdd, Int.reduceSub, Int.reduceMul, Int.reduceMod, Int.reduceDiv, Int.reduceNeg, Int.reduceToNat, Int.reducePow, Int.reduceEq, Pu.atI_last, atI_nums hy, hne, hle, hpl, nums_snoc, List.append_assoc]; exact ih)
theorem t_lway {p : PV} {us : List Nat} (hp : p = .tup (nums us) ∨ p = .lst (nums us)) (f : Frst us) {x : Nat} (hx : x < us.length) : F__law_way [p, .int x] = some (.n (nums (way us x))) := by
  have hl := way_len f.fst hx
  have hm := f.most
  have e := lway_loop hp f.most f.fst.bnd (s1 := some (.val (.int x))) (way_ok f.fst hx) [] (by simpa using hl) hx 10000 (by omega)
  rw [List.nil_append, List.nil_append] at e
  have e' : whileF F__law_way_c1 F__law_way_b2 10000 [some (.val p), some (.val (.int x)), some (.own [.int x])] = _ := e
  simp only [q_F__law_way, q_F__law_way_s, E1, E2, E3, E4, E5, E6, E7, E8, E9, E10, E11, E12, E13, E14, E15, E16, E17, E18, E19, E20, E21, E22, E23, E24, E25, E26, E27, E28, E29, E30, E31, E32, E33, E34, E35, E36, E37, E38, E39, E40, E41, E42, E43, E44, E45, E46, E47, E48, Nat.reduceAdd, Nat.reduceSub, Nat.reduceLeDiff, Nat.reduceLT, Nat.reduceEqDiff, Int.reduceLT, Int.reduceLE, Int.reduceAdd, Int.reduceSub, Int.reduceMul, Int.reduceMod, Int.reduceDiv, Int.reduceNeg, Int.reduceToNat, Int.reducePow, Int.reduceEq, e']
theorem atI_hd {us : List Nat} (f : Frst us) {x : Nat} (hx : x < us.length) : L2.atI (nums (way us x)) (-1) = some (.int (hd us x : Nat)) := Pu.atI_last' (way_ok f.fst hx).ne
theorem t_head_of {us : List Nat} (f : Frst us) {x : Nat} (hx : x < us.length) : F_head_of [.tup (nums us), .int x] = some (.v (.int (hd us x : Nat))) := by
  simp only [q_F_head_of, q_F_head_of_s, E1, E2, E3, E4, E5, E6, E7, E8, E9, E10, E11, E12, E13, E14, E15, E16, E17, E18, E19, E20, E21, E22, E23, E24, E25, E26, E27, E28, E29, E30, E31, E32, E33, E34, E35, E36, E37, E38, E39, E40, E41, E42, E43, E44, E45, E46, E47, E48, Nat.reduceAdd, Nat.reduceSub, Nat.reduceLeDiff, Nat.reduceLT, Nat.reduceEqDiff, Int.reduceLT, Int.reduceLE, Int.reduceAdd, Int.reduceSub, Int.reduceMul, Int.reduceMod, Int.reduceDiv, Int.reduceNeg, Int.reduceToNat, Int.reducePow, Int.reduceEq, t_cft f hx, t_way (.inl rfl) f hx, atI_hd f hx]
theorem t_way_of {us : List Nat} (f : Frst us) {x : Nat} (hx : x < us.length) : F_way_of [.tup (nums us), .int x] = some (.v (.tup (nums (way us x)))) := by
  simp only [q_F_way_of, q_F_way_of_s, E1, E2, E3, E4, E5, E6, E7, E8, E9, E10, E11, E12, E13, E14, E15, E16, E17, E18, E19, E20, E21, E22, E23, E24, E25, E26, E27, E28, E29, E30, E31, E32, E33, E34, E35, E36, E37, E38, E39, E40, E41, E42, E43, E44, E45, E46, E47, E48, Nat.reduceAdd, Nat.reduceSub, Nat.reduceLeDiff, Nat.reduceLT, Nat.reduceEqDiff, Int.reduceLT, Int.reduceLE, Int.reduceAdd, Int.reduceSub, Int.reduceMul, Int.reduceMod, Int.reduceDiv, Int.reduceNeg, Int.reduceToNat, Int.reducePow, Int.reduceEq, t_cft f hx, t_way (.inl rfl) f hx]
theorem t_lots_of {us : List Nat} (f : Frst us) : F_lots_of [.tup (nums us)] = some (.n (lotsV us)) := by
  simp only [q_F_lots_of, q_F_lots_of_s, E1, E2, E3, E4, E5, E6, E7, E8, E9, E10, E11, E12, E13, E14, E15, E16, E17, E18, E19, E20, E21, E22, E23, E24, E25, E26, E27, E28, E29, E30, E31, E32, E33, E34, E35, E36, E37, E38, E39, E40, E41, E42, E43, E44, E45, E46, E47, E48, Nat.reduceAdd, Nat.reduceSub, Nat.reduceLeDiff, Nat.reduceLT, Nat.reduceEqDiff, Int.reduceLT, Int.reduceLE, Int.reduceAdd, Int.reduceSub, Int.reduceMul, Int.reduceMod, Int.reduceDiv, Int.reduceNeg, Int.reduceToNat, Int.reducePow, Int.reduceEq, t_cforest f, t_lots_in f]
theorem lots_congr {us us' : List Nat} (hl : us'.length = us.length) (h : ∀ t, t < us.length → hd us' t = hd us t) : lotsV us' = lotsV us := by
  have e : ∀ n, n ≤ us.length → lotsN us' n = lotsN us n := fun n => by
    induction n with
    | zero => intro _; rfl
    | succ n ih => intro hn; rw [lotsN_succ, lotsN_succ, ih (by omega), h n (by omega)]
  unfold lotsV lots
  rw [hl, e _ (Nat.le_refl _)]
theorem plains_tups : ∀ l : List (List Nat), plains (l.map fun u => PV.tup (nums u)) = true
  | [] => by rw [List.map_nil, plains]
  | u :: l => by rw [List.map_cons, plains, Pu.plain, plains_nums, plains_tups l]; rfl
theorem deps_tups : ∀ l : List (List Nat), deps (l.map fun u => PV.tup (nums u)) ≤ 1
  | [] => by rw [List.map_nil, deps]; omega
  | u :: l => by rw [List.map_cons, deps, dep, deps_nums]; have := deps_tups l; omega
theorem pin_nums (t : Nat) : ∀ l : List Nat, pin (.int t) (nums l) = decide (t ∈ l)
  | [] => rfl
  | u :: l => by
    show (peq (.int (u : Int)) (.int (t : Int)) || pin (.int t) (nums l)) = _
    rw [peq_int, pin_nums t l]
    by_cases h : u = t
    · subst h; simp
    · have h' : ¬ ((u : Int) = (t : Int)) := by omega
      rw [decide_eq_false h', Bool.false_or]
      have : t ≠ u := fun z => h z.symm
      simp [List.mem_cons, this]
end Dp
end
section
namespace Dp
open PySem L2 Fo Pu
theorem up_rev {p : List Nat} {k : Nat} (hk : k < p.length) : up p.reverse k = up p (p.length - 1 - k) := by
  unfold up
  rw [List.getD_eq_getElem?_getD, List.getD_eq_getElem?_getD, List.getElem?_reverse hk]
structure Lad (p us : List Nat) : Prop where
  len : us.length = p.length
  nx : ∀ k, k + 1 < p.length → up us (up p k) = up p (k + 1)
  tp : up us (up p (p.length - 1)) = up p (p.length - 1)
theorem lad_frst {p us : List Nat} (h1 : 1 ≤ p.length) (h40 : p.length ≤ 40) (hp : p.Perm (List.range p.length)) (L : Lad p us) : Frst us := by
  refine ⟨by rw [L.len]; exact h1, by rw [L.len]; exact h40, ?_⟩
  refine ranked_fst (p := p.reverse) (n := p.length) ⟨(List.reverse_perm p).trans hp, L.len, fun j hj => ⟨j - 1, by omega, ?_⟩⟩
  show up us (up p.reverse j) = up p.reverse (j - 1)
  rw [up_rev hj, up_rev (by omega)]
  by_cases h : j = 0
  · subst h; exact L.tp
  · rw [L.nx _ (by omega)]
    exact congrArg (up p) (by omega)
structure Hgt (us : List Nat) (h : Nat) : Prop where
  all : ∀ x, x < us.length → dp us x ≤ h
  one : ∃ x, x < us.length ∧ dp us x = h
theorem Hgt.lt {us : List Nat} {h : Nat} (f : Frst us) (g : Hgt us h) : h < us.length := by
  obtain ⟨x, hx, rfl⟩ := g.one
  exact dp_lt f.fst hx
theorem t_height {us : List Nat} (f : Frst us) : ∃ h : Nat, Hgt us h ∧ F_height_of [.tup (nums us)] = some (.v (.int h)) := by
  have hm := f.most
  have h1 := f.one
  have e : goF (gN 0) fYes F_height_of_e1 [none, some (.val (.tup (nums us)))] (nums (List.range us.length)) = some ((List.range us.length).map fun x => .int (dp us x : Nat)) := go_nums _ fun x hx => by
    have hx' := List.mem_range.mp hx
    have hp := (way_ok f.fst hx').pos
    have e1 : ((way us x).length : Int) - 1 = (dp us x : Nat) := by unfold dp; omega
    simp only [q_F_height_of_e1, E1, E2, E3, E4, E5, E6, E7, E8, E9, E10, E11, E12, E13, E14, E15, E16, E17, E18, E19, E20, E21, E22, E23, E24, E25, E26, E27, E28, E29, E30, E31, E32, E33, E34, E35, E36, E37, E38, E39, E40, E41, E42, E43, E44, E45, E46, E47, E48, Nat.reduceAdd, Nat.reduceSub, Nat.reduceLeDiff, Nat.reduceLT, Nat.reduceEqDiff, Int.reduceLT, Int.reduceLE, Int.reduceAdd, Int.reduceSub, Int.reduceMul, Int.reduceMod, Int.reduceDiv, Int.reduceNeg, Int.reduceToNat, Int.reducePow, Int.reduceEq, t_way (.inl rfl) f hx', e1]
  have hl : us.length < 1000 := by omega
  have ei : intsOf ((List.range us.length).map fun x => PV.int (dp us x : Nat)) = some ((List.range us.length).map fun x => ((dp us x : Nat) : Int)) := by
    have := intsOf_map ((List.range us.length).map fun x => ((dp us x : Nat) : Int))
    rwa [List.map_map] at this
  obtain ⟨m1, m2⟩ := maxI_ok (l := (List.range us.length).map fun x => ((dp us x : Nat) : Int)) (by rw [List.length_map, List.length_range]; omega)
  obtain ⟨x, hx, ex⟩ := List.mem_map.mp m1
  refine ⟨dp us x, ⟨fun t ht => ?_, x, List.mem_range.mp hx, rfl⟩, ?_⟩
  · have := m2 _ (List.mem_map.mpr ⟨t, List.mem_range.mpr ht, rfl⟩)
    rw [← ex] at this
    omega
  · have z : decide (us.length = 0) = false := decide_eq_false (by omega)
    have z' : ¬ us.length = 0 := by omega
    simp only [q_F_height_of, q_F_height_of_s, E1, E2, E3, E4, E5, E6, E7, E8, E9, E10, E11, E12, E13, E14, E15, E16, E17, E18, E19, E20, E21, E22, E23, E24, E25, E26, E27, E28, E29, E30, E31, E32, E33, E34, E35, E36, E37, E38, E39, E40, E41, E42, E43, E44, E45, E46, E47, E48, Nat.reduceAdd, Nat.reduceSub, Nat.reduceLeDiff, Nat.reduceLT, Nat.reduceEqDiff, Int.reduceLT, Int.reduceLE, Int.reduceAdd, Int.reduceSub, Int.reduceMul, Int.reduceMod, Int.reduceDiv, Int.reduceNeg, Int.reduceToNat, Int.reducePow, Int.reduceEq, t_cforest f, K1 (show us.length ≤ 100000 by omega), List.length_range, hl, e, ei, List.length_map, z', if_false, ← ex]
end Dp
end
section
namespace L2
open PySem PyProof.Rows PySem.W
theorem run_bind {α β : Type} {c : Nat → Nat → Bool} {f : α → KasT β} : ∀ {t : KasT α}, runT c (t.bind f) = runT c (f (runT c t))
  | .ret a => rfl
  | .ask i j k => run_bind (t := k (c i j))
structure LtOk (n : Nat) (lt : Nat → Nat → Bool) : Prop where
  tot : ∀ i j, i < n → j < n → i ≠ j → lt i j = false → lt j i = true
  tr : ∀ i j k, i < n → j < n → k < n → lt i j = true → lt j k = true → lt i k = true
noncomputable abbrev gp (p : Array Nat) (k : Nat) : Nat := p.getD k 0
noncomputable def Up (lt : Nat → Nat → Bool) (p : Array Nat) (m : Nat) : Prop := ∀ i j, i < j → j < m → lt (gp p i) (gp p j) = true
noncomputable def Dn (lt : Nat → Nat → Bool) (p : Array Nat) (m : Nat) : Prop := ∀ i j, i < j → j < m → lt (gp p j) (gp p i) = true
section
variable {n : Nat} {lt : Nat → Nat → Bool} {p : Array Nat}
theorem gp_eq (p : Array Nat) (k : Nat) : gp p k = (p[k]?).getD 0 := by
  unfold gp; rw [Array.getD_eq_getD_getElem?]
theorem OfN.size (h : OfN n p) : p.size = n := by have := h.length_eq; simpa using this
theorem OfN.lt' (h : OfN n p) {k : Nat} (hk : k < n) : gp p k < n := h.lt (by omega) k
theorem OfN.inj (h : OfN n p) {i j : Nat} (hi : i < n) (hj : j < n) (e : gp p i = gp p j) : i = j := by
  have nd : p.toList.Nodup := h.nodup_iff.mpr List.nodup_range
  have hs := h.size
  have a : ∀ {k : Nat} (hk : k < n), gp p k = p.toList[k]'(by rw [Array.length_toList]; omega) := fun {k} hk => by
    rw [gp_eq, Array.getElem?_eq_getElem (by omega)]; simp
  rw [a hi, a hj] at e
  exact (List.getElem_inj nd).mp e
theorem Up.snoc (L : LtOk n lt) (hp : OfN n p) {k : Nat} (h1 : 1 ≤ k) (hk : k < n) (u : Up lt p k) (h : lt (gp p (k - 1)) (gp p k) = true) : Up lt p (k + 1) := fun i j hij hj => by
  by_cases e : j = k
  · subst e
    by_cases e2 : i = j - 1
    · subst e2; exact h
    · exact L.tr _ _ _ (hp.lt' (by omega)) (hp.lt' (by omega)) (hp.lt' (by omega)) (u i (j - 1) (by omega) (by omega)) h
  · exact u i j hij (by omega)
theorem Dn.snoc (L : LtOk n lt) (hp : OfN n p) {k : Nat} (h1 : 1 ≤ k) (hk : k < n) (u : Dn lt p k) (h : lt (gp p k) (gp p (k - 1)) = true) : Dn lt p (k + 1) := fun i j hij hj => by
  by_cases e : j = k
  · subst e
    by_cases e2 : i = j - 1
    · subst e2; exact h
    · exact L.tr _ _ _ (hp.lt' (by omega)) (hp.lt' (by omega)) (hp.lt' (by omega)) h (u i (j - 1) (by omega) (by omega))
  · exact u i j hij (by omega)
theorem run_asc (L : LtOk n lt) (hp : OfN n p) : ∀ f k, 1 ≤ k → k + f ≤ n → Up lt p k → k ≤ runT lt (kas_asc p f k) ∧ runT lt (kas_asc p f k) ≤ k + f ∧ Up lt p (runT lt (kas_asc p f k)) ∧ (runT lt (kas_asc p f k) < k + f → lt (gp p (runT lt (kas_asc p f k))) (gp p (runT lt (kas_asc p f k) - 1)) = true)
  | 0, k, _, _, u => ⟨Nat.le_refl _, Nat.le_refl _, u, fun h => absurd h (Nat.lt_irrefl _)⟩
  | f + 1, k, h1, hn, u => by
    rw [show runT lt (kas_asc p (f + 1) k) = runT lt (if lt (gp p k) (gp p (k - 1)) = true then .ret k else kas_asc p f (k + 1)) from rfl]
    cases c : lt (gp p k) (gp p (k - 1)) with
    | true => exact ⟨Nat.le_refl _, Nat.le_add_right _ _, u, fun _ => c⟩
    | false =>
      have := L.tot _ _ (hp.lt' (k := k) (by omega)) (hp.lt' (k := k - 1) (by omega)) (fun e => by have := hp.inj (by omega) (by omega) e; omega) c
      obtain ⟨a, b, d, e⟩ := run_asc L hp f (k + 1) (by omega) (by omega) (u.snoc L hp h1 (by omega) this)
      rw [if_neg Bool.false_ne_true]
      exact ⟨by omega, by omega, d, fun h => e (by omega)⟩
theorem run_desc (L : LtOk n lt) (hp : OfN n p) : ∀ f k, 1 ≤ k → k + f ≤ n → Dn lt p k → ∃ m, runT lt (kas_desc f p k 0) = (p, m, 0) ∧ k ≤ m ∧ m ≤ k + f ∧ Dn lt p m
  | 0, k, _, _, u => ⟨k, rfl, Nat.le_refl _, Nat.le_refl _, u⟩
  | f + 1, k, h1, hn, u => by
    rw [show runT lt (kas_desc (f + 1) p k 0) = runT lt (if lt (gp p k) (gp p (k - 1)) = true then kas_desc f p (k + 1) 0 else .ask (gp p (k - 1)) (gp p k) fun d => if d = true then .ret (p, k, 0) else kas_desc f p (k + 1) 1) from rfl]
    cases c : lt (gp p k) (gp p (k - 1)) with
    | true =>
      obtain ⟨m, a, b, d, e⟩ := run_desc L hp f (k + 1) (by omega) (by omega) (u.snoc L hp h1 (by omega) c)
      exact ⟨m, a, by omega, by omega, e⟩
    | false =>
      have := L.tot _ _ (hp.lt' (k := k) (by omega)) (hp.lt' (k := k - 1) (by omega)) (fun e => by have := hp.inj (by omega) (by omega) e; omega) c
      refine ⟨k, ?_, Nat.le_refl _, by omega, u⟩
      rw [if_neg Bool.false_ne_true]
      show runT lt (if lt (gp p (k - 1)) (gp p k) = true then _ else _) = _
      rw [this]; rfl
theorem gp_rev {m k : Nat} (hm : m ≤ p.size) : gp (kas_rev p 0 m) k = if k < m then gp p (m - 1 - k) else gp p k := by
  rw [gp_eq, gp_eq, gp_eq]
  unfold kas_rev
  rw [getElem?_mirror_all hm]
  by_cases h : k < m
  · rw [if_pos ⟨Nat.zero_le _, h⟩, if_pos h, Nat.zero_add]
  · rw [if_neg fun z => h z.2, if_neg h]
structure Run (n : Nat) (lt : Nat → Nat → Bool) (r : Nat × Array Nat) : Prop where
  pos : 1 ≤ r.1
  le : r.1 ≤ n
  of : OfN n r.2
  up : Up lt r.2 r.1
theorem run_tail (L : LtOk n lt) (hp : OfN n p) {m : Nat} (h1 : 1 ≤ m) (hm : m ≤ n) (u : Dn lt p m) : Run n lt (runT lt (kas_tail3 m n p)) := by
  have hr := OfN.rev hp 0 m
  have hs := hp.size
  obtain ⟨a, b, c, _⟩ := run_asc L hr (n - m) m h1 (by omega) (fun i j hij hj => by
    rw [gp_rev (by omega), gp_rev (by omega), if_pos (by omega), if_pos hj]
    exact u _ _ (by omega) (by omega))
  unfold kas_tail3
  rw [run_bind]
  exact ⟨Nat.le_trans h1 a, by show runT lt (kas_asc (kas_rev p 0 m) (n - m) m) ≤ n; omega, hr, c⟩
theorem run_count (L : LtOk n lt) (hp : OfN n p) (hn : 1 ≤ n) : Run n lt (runT lt (kas_count n p)) := by
  unfold kas_count
  rw [run_bind]
  obtain ⟨a, b, c, d⟩ := run_asc L hp (n - 1) 1 (Nat.le_refl _) (by omega) (fun i j hij hj => by omega)
  generalize runT lt (kas_asc p (n - 1) 1) = m at *
  split
  · exact ⟨a, by show m ≤ n; omega, hp, c⟩
  · next ne =>
    have ne : m ≠ n := fun e => ne (by subst e; exact beq_self_eq_true _)
    split
    · next h =>
      rw [show runT lt (KasT.ask (p.getD 0 0) (p.getD (m - 1) 0) fun c => if c = true then KasT.ret (m, p) else kas_descPart m n (kas_rev p 0 m)) = runT lt (if lt (gp p 0) (gp p (m - 1)) = true then KasT.ret (m, p) else kas_descPart m n (kas_rev p 0 m)) from rfl, if_pos (c 0 (m - 1) (by omega) (by omega))]
      exact ⟨a, by show m ≤ n; omega, hp, c⟩
    · have e : m = 1 := by omega
      subst e
      have d := d (by omega)
      unfold kas_descPart
      rw [run_bind]
      obtain ⟨m, e1, e2, e3, e4⟩ := run_desc L hp (n - (1 + 1)) (1 + 1) (by omega) (by omega) (fun i j hij hj => by
        obtain ⟨rfl, rfl⟩ : i = 0 ∧ j = 1 := by omega
        exact d)
      rw [e1, if_neg (Nat.lt_irrefl 0)]
      have ne2 : 2 ≤ n := by omega
      exact run_tail (m := m) L hp (by omega) (by omega) e4
theorem run_place (L : LtOk n lt) (hp : OfN n p) {k : Nat} (hk : k < n) (u : Up lt p k) : ∀ f l r, r - l ≤ f → l ≤ r → r ≤ k → (∀ i, i < l → lt (gp p i) (gp p k) = true) → (∀ i, r ≤ i → i < k → lt (gp p k) (gp p i) = true) →
    ∃ m, runT lt (kas_place p k f l r) = m ∧ m ≤ k ∧ (∀ i, i < m → lt (gp p i) (gp p k) = true) ∧ ∀ i, m ≤ i → i < k → lt (gp p k) (gp p i) = true
  | 0, l, r, hf, hl, hr, a, b => ⟨l, rfl, by omega, a, fun i hi hik => b i (by omega) hik⟩
  | f + 1, l, r, hf, hl, hr, a, b => by
    rw [show runT lt (kas_place p k (f + 1) l r) = runT lt (if l ≥ r then .ret l else .ask (gp p k) (gp p ((l + r) / 2)) fun c => if c = true then kas_place p k f l ((l + r) / 2) else kas_place p k f ((l + r) / 2 + 1) r) from rfl]
    by_cases h : l ≥ r
    · rw [if_pos h]; exact ⟨l, rfl, by omega, a, fun i hi hik => b i (by omega) hik⟩
    · rw [if_neg h]
      show ∃ m, runT lt (if lt (gp p k) (gp p ((l + r) / 2)) = true then _ else _) = m ∧ _
      cases c : lt (gp p k) (gp p ((l + r) / 2)) with
      | true =>
        rw [if_pos rfl]
        refine run_place L hp hk u f l ((l + r) / 2) (by omega) (by omega) (by omega) a fun i hi hik => ?_
        by_cases e : i = (l + r) / 2
        · subst e; exact c
        · exact L.tr _ _ _ (hp.lt' hk) (hp.lt' (by omega)) (hp.lt' (by omega)) c (u _ i (by omega) hik)
      | false =>
        rw [if_neg Bool.false_ne_true]
        have := L.tot _ _ (hp.lt' hk) (hp.lt' (k := (l + r) / 2) (by omega)) (fun e => by have := hp.inj hk (by omega) e; omega) c
        refine run_place L hp hk u f ((l + r) / 2 + 1) r (by omega) (by omega) (by omega) (fun i hi => ?_) b
        by_cases e : i = (l + r) / 2
        · subst e; exact this
        · exact L.tr _ _ _ (hp.lt' (by omega)) (hp.lt' (by omega)) (hp.lt' hk) (u i _ (by omega) (by omega)) this
theorem run_bin (L : LtOk n lt) : ∀ f (p : Array Nat) k, OfN n p → 1 ≤ k → k + f = n → Up lt p k → OfN n (runT lt (kas_bin f p k)) ∧ Up lt (runT lt (kas_bin f p k)) n
  | 0, p, k, hp, _, hk, u => ⟨hp, by obtain rfl : k = n := by omega
                                     exact u⟩
  | f + 1, p, k, hp, h1, hk, u => by
    rw [show runT lt (kas_bin (f + 1) p k) = runT lt ((kas_place p k k 0 k).bind fun l => kas_bin f (bubble p k (k - l)) (k + 1)) from rfl, run_bind]
    obtain ⟨m, e, hm, a, b⟩ := run_place L hp (by omega) u k 0 k (by omega) (by omega) (Nat.le_refl _) (fun i hi => by omega) (fun i hi hik => by omega)
    rw [e]
    have hs := hp.size
    have g : ∀ i, gp (bubble p k (k - m)) i = if i = m then gp p k else if m < i ∧ i ≤ k then gp p (i - 1) else gp p i := fun i => by
      rw [gp_eq, getElem?_bubble (by omega) (k - m) (by omega), show k - (k - m) = m by omega]
      split
      · rw [gp_eq]
      · split <;> rw [gp_eq]
    refine run_bin L f _ (k + 1) (hp.bub _ _) (by omega) (by omega) fun i j hij hj => ?_
    rw [g, g]
    by_cases e1 : i = m
    · rw [if_pos e1, if_neg (by omega), if_pos (by omega)]; exact b _ (by omega) (by omega)
    · rw [if_neg e1]
      by_cases e2 : j = m
      · rw [if_pos e2, if_neg (by omega)]; exact a i (by omega)
      · rw [if_neg e2]
        by_cases e3 : i < m
        · rw [if_neg (by omega)]
          by_cases e4 : m < j ∧ j ≤ k
          · rw [if_pos e4]; exact u i (j - 1) (by omega) (by omega)
          · rw [if_neg e4]; exact u i j hij (by omega)
        · rw [if_pos (by omega), if_pos (by omega)]; exact u _ _ (by omega) (by omega)
theorem run_sort (L : LtOk n lt) (hn : 1 ≤ n) : OfN n (runT lt (kas_sort n)) ∧ Up lt (runT lt (kas_sort n)) n := by
  unfold kas_sort
  rw [run_bind]
  have R := run_count L (show OfN n (List.toArray (List.range n)) from .refl _) hn
  generalize runT lt (kas_count n (List.range n).toArray) = r at *
  have h1 := R.pos
  have h2 := R.le
  split
  · next h =>
    rw [show max r.1 1 = r.1 by omega]
    exact run_bin L (n - r.1) r.2 r.1 R.of h1 (by omega) R.up
  · next h =>
    have : r.1 = n := by omega
    exact ⟨R.of, this ▸ R.up⟩
end
theorem ltI_nil (y : Int) (ys : List Int) : ltI [] (y :: ys) = true := by unfold ltI; rw [List.zip_nil_left]; exact decide_eq_true (by simp)
theorem ltI_nil' (xs : List Int) : ltI xs [] = false := by unfold ltI; rw [List.zip_nil_right]; exact decide_eq_false (by simp)
theorem ltI_cons (x y : Int) (xs ys : List Int) : ltI (x :: xs) (y :: ys) = if x = y then ltI xs ys else decide (x < y) := by
  unfold ltI
  rw [List.zip_cons_cons, lexZ]
  simp only [List.length_cons, Nat.add_lt_add_iff_right]
theorem ltI_tot : ∀ xs ys : List Int, xs ≠ ys → ltI xs ys = false → ltI ys xs = true
  | [], [], h, _ => absurd rfl h
  | [], y :: ys, _, h => by rw [ltI_nil] at h; cases h
  | x :: xs, [], _, _ => ltI_nil x xs
  | x :: xs, y :: ys, h, e => by
    rw [ltI_cons] at e ⊢
    by_cases q : x = y
    · subst q
      rw [if_pos rfl] at e ⊢
      exact ltI_tot xs ys (fun z => h (by rw [z])) e
    · rw [if_neg q] at e
      rw [if_neg fun z => q z.symm]
      have := of_decide_eq_false e
      exact decide_eq_true (by omega)
theorem ltI_tr : ∀ xs ys zs : List Int, ltI xs ys = true → ltI ys zs = true → ltI xs zs = true
  | _, _, [], _, h => by rw [ltI_nil'] at h; cases h
  | _, [], _ :: _, h, _ => by rw [ltI_nil'] at h; cases h
  | [], _, z :: zs, _, _ => ltI_nil z zs
  | x :: xs, y :: ys, z :: zs, h, h' => by
    rw [ltI_cons] at h h' ⊢
    by_cases q : x = y
    · subst q
      rw [if_pos rfl] at h
      by_cases r : x = z
      · rw [if_pos r] at h' ⊢; exact ltI_tr xs ys zs h h'
      · rw [if_neg r] at h' ⊢; exact h'
    · rw [if_neg q] at h
      have h := of_decide_eq_true h
      by_cases r : y = z
      · subst r; rw [if_neg q]; exact decide_eq_true h
      · rw [if_neg r] at h'
        have h' := of_decide_eq_true h'
        rw [if_neg (by omega)]
        exact decide_eq_true (by omega)
theorem ltI_irr : ∀ xs : List Int, ltI xs xs = false
  | [] => ltI_nil' []
  | x :: xs => by rw [ltI_cons, if_pos rfl]; exact ltI_irr xs
theorem ordI_up {ks : List (List Int)} (nd : ks.Nodup) : ((ordI ks).map fun i => ks.getD i []).Perm ks ∧ ((ordI ks).map fun i => ks.getD i []).Pairwise fun a b => ltI a b = true := by
  have at' : ∀ {i : Nat} (hi : i < ks.length), ks.getD i [] = ks[i] := fun {i} hi => by simp [hi]
  constructor
  · refine ((ordI_perm ks).map _).trans (List.Perm.of_eq ?_)
    refine List.ext_getElem (by simp) fun i h1 h2 => ?_
    simp [h2]
  · unfold ordI
    split
    · next h => 
      match ks, h with
      | [], _ => exact .nil
      | [a], _ => exact List.pairwise_singleton ..
    · next h =>
      have L : LtOk ks.length fun i j => ltI (ks.getD i []) (ks.getD j []) := ⟨fun i j hi hj ne e => ltI_tot _ _ (fun z => by
        rw [at' hi, at' hj] at z; exact ne ((List.getElem_inj nd).mp z)) e, fun i j k _ _ _ a b => ltI_tr _ _ _ a b⟩
      obtain ⟨hp, u⟩ := run_sort L (by omega)
      generalize runT _ (kas_sort ks.length) = p at *
      rw [List.pairwise_map, List.pairwise_iff_getElem]
      intro i j hi hj hij
      have hs := hp.size
      have := u i j hij (by simpa [hs] using hj)
      rw [gp_eq, gp_eq, Array.getElem?_eq_getElem (by simpa using hi), Array.getElem?_eq_getElem (by simpa using hj)] at this
      simpa using this
theorem rise_eq {α : Type} {lt : α → α → Prop} (irr : ∀ a, ¬ lt a a) (tr : ∀ a b c, lt a b → lt b c → lt a c) : ∀ {l l' : List α}, l.Pairwise lt → l'.Pairwise lt → (∀ a, a ∈ l ↔ a ∈ l') → l = l'
  | [], [], _, _, _ => rfl
  | [], b :: l', _, _, h => absurd ((h b).mpr List.mem_cons_self) List.not_mem_nil
  | a :: l, [], _, _, h => absurd ((h a).mp List.mem_cons_self) List.not_mem_nil
  | a :: l, b :: l', p, p', h => by
    have q := List.pairwise_cons.mp p
    have q' := List.pairwise_cons.mp p'
    have e : a = b := by
      rcases List.mem_cons.mp ((h a).mp List.mem_cons_self) with e | m
      · exact e
      · rcases List.mem_cons.mp ((h b).mpr List.mem_cons_self) with e | m'
        · exact e.symm
        · exact absurd (tr _ _ _ (q.1 b m') (q'.1 a m)) (irr a)
    subst e
    refine congrArg (a :: ·) (rise_eq irr tr q.2 q'.2 fun c => ⟨fun hc => ?_, fun hc => ?_⟩)
    · rcases List.mem_cons.mp ((h c).mp (List.mem_cons_of_mem _ hc)) with e | m
      · subst e; exact absurd (q.1 c hc) (irr c)
      · exact m
    · rcases List.mem_cons.mp ((h c).mpr (List.mem_cons_of_mem _ hc)) with e | m
      · subst e; exact absurd (q'.1 c hc) (irr c)
      · exact m
end L2
end
section
namespace L2
open PySem PySem.Spec PyProof.Rows PySem.W
noncomputable def srtI (is : List Int) : List Int := is.mergeSort fun a b => decide (a ≤ b)
theorem srtI_perm (is : List Int) : (srtI is).Perm is := List.mergeSort_perm ..
theorem srtI_up (is : List Int) : (srtI is).Pairwise (· ≤ ·) := by
  have := List.pairwise_mergeSort (le := fun a b : Int => decide (a ≤ b)) (fun a b c h1 h2 => by simp only [decide_eq_true_eq] at *; omega) (fun a b => by simp only [Bool.or_eq_true, decide_eq_true_eq]; omega) is
  exact this.imp fun h => by simpa using h
theorem srtI_eq {is js : List Int} (p : js.Perm is) (u : js.Pairwise (· ≤ ·)) : js = srtI is :=
  List.Perm.eq_of_pairwise (fun a b _ _ h1 h2 => Int.le_antisymm h1 h2) u (srtI_up is) (p.trans (srtI_perm is).symm)
theorem intsAre_vals : ∀ {is : List Int} {vs : List Value}, Vals (is.map V.int) vs → IntsAre vs is
  | [], _, r => by cases r; exact .nil
  | i :: is, _, r => by
    cases r with
    | cons r1 r2 => obtain ⟨t, rfl⟩ := r1; exact .cons i t (intsAre_vals r2)
theorem vals_intsAre {is : List Int} {vs : List Value} (h : IntsAre vs is) : Vals (is.map V.int) vs := by
  induction h with
  | nil => exact .nil
  | cons n t _ ih => exact .cons ⟨t, rfl⟩ ih
theorem sorted_seq {prog : Program} {w : World} {A : Around} {E : Value → Shared → Prop} {s : Shared} {p : Addr} {T : String} {o : Obj} {vs : List Value} {n : Nat} {is : List Int} {Q : Value → Shared → Prop} (hT : T = "list" ∨ T = "tuple")
    (ho : s.heap.get? p = some o) (hc : o.cls = .type T) (hd : o.data = .seq vs.toArray n) (hi : IntsAre vs is) (h64 : vs.length < 64)
    (h : ∀ (h1 h' : Heap) (D : Addr) (out : List Value) (js : List Int) (e : Nat), (∀ b u, s.heap.get? b = some u → h1.get? b = some u) → (∀ b u, h1.get? b = some u → h'.get? b = some u) → h1.objs.size ≤ D → h'.get? D = some (seqObj "list" out.toArray e) → IntsAre out js → js.Perm is → js.Pairwise (· ≤ ·) → Q (.ref D) { s with heap := h' }) :
    wpAny (model prog w) A (call (.builtin "sorted") [.ref p]) Q E s := by
  refine Calls.call_function_entry kind_sorted plain_sorted entry_sorted (args_sorted1 _) ?_
  unfold Builtin.«sorted»
  refine wpAny_bind (m := checkCount "sorted" 1 1 _) (wpAny_pure (wpAny_bind (wpAny_collect_seq p hT ho hc hd (fun h' keep => wpAny_bind (wpAny_newList ?_ (by show vs.length ≤ _; rw [sizeLine_eq]; omega))) (by rw [List.size_toArray, sizeLine_eq]; omega))))
  have hoL : (h'.push (seqObj "list" vs.toArray 0)).get? h'.objs.size = some (seqObj "list" vs.toArray 0) := Heap.get?_push_size _ rfl
  show wpAny _ _ _ _ _ { s with heap := h'.push (seqObj "list" vs.toArray 0) }
  refine wpAny_bind (wpAny_holding (wpAny_call_entry slot_list_sort ⟨_, hoL, rfl⟩ entry_list_sort (list_sort_tree hoL hi h64 fun out ns h1 h2 h3 => ⟨_, rfl, ?_⟩) (args_list_sort _)))
  obtain ⟨e, he⟩ := sortedHeap_at (vs := vs) (out := out) hoL
  exact wpAny_pure ⟨_, rfl, h h' _ _ out.toList ns e keep (fun b u z1 => by
    have z2 := Heap.get?_push_of_some (seqObj "list" vs.toArray 0) z1
    rw [sortedHeap_old (Nat.ne_of_lt (Heap.lt_size z1)) (Heap.lt_size z2)]; exact z2) (Nat.le_refl _) (by rw [he]) h1 h2 h3⟩
theorem call_sortedI {X : Cx} : CallR X (.builtin "sorted") (fun xs H Q => ∃ p is, xs = [.ref p] ∧ (SqL X.K H p (is.map V.int) ∨ SqT X.K H p (is.map V.int)) ∧ is.length < 64 ∧ ∀ l, H l = none → Q (.ref l) (upd H l (.lst ((srtI is).map V.int)))) := by
  intro pins s σ H xs us Q I r h
  obtain ⟨p, is, rfl, hq, h64, q⟩ := h
  obtain ⟨u, rfl, rx⟩ := vals1 r
  cases rx
  have main : ∀ (its : List Value) (T : String) (o : Obj) (n : Nat), (T = "list" ∨ T = "tuple") → s.heap.get? p = some o → o.cls = .type T → o.data = .seq its.toArray n → Vals (is.map V.int) its →
      wpAny (model X.prog X.w) X.A (call (.builtin "sorted") [.ref p]) (EP X pins σ Q) X.xe s := fun its T o n hT ho hc hd rv => by
    have hl := rv.length
    rw [List.length_map] at hl
    refine sorted_seq hT ho hc hd (intsAre_vals rv) (by omega) fun h1 h' D out js e k1 k2 hD hh hi hp hu => ?_
    rw [srtI_eq hp hu] at hi
    have r2 := vals_intsAre hi
    have hz : ((srtI is).map V.int).length ≤ sizeLine := by rw [List.length_map, (srtI_perm is).length_eq, sizeLine_eq]; omega
    have I1 : Inv X pins σ H { s with heap := h1 } := I.kept (t' := s.toks) k1
    exact ⟨.ref D, _, I1.laid (t' := s.toks) k2 hD (show ObjOk X.prog X.w _ _ _ (.lst _) from ⟨hz, out, e, r2, hh⟩), rfl, q _ (I1.hok.fresh hD)⟩
  rcases hq with hq | hq
  · obtain ⟨its, rv, ⟨o, n, h1, h2, _, h3⟩, _⟩ := I.list hq
    exact main its "list" o n (.inl rfl) h1 h2 h3 rv
  · obtain ⟨its, rv, ⟨o, h1, h2, n, h3⟩, _⟩ := I.tuple hq
    exact main its "tuple" o n (.inr rfl) h1 h2 h3 rv
end L2
end
section
namespace Dp
open PySem PySem.Spec L2 Pu
section
variable {X : Cx} {st : Stmt} {i : Nat}
noncomputable def kSortI : List PV → Option RV
  | [p] => (items p).bind fun ps => (intsOf ps).bind fun is => if is.length < 64 then some (.nw ((srtI is).map PV.int)) else none
  | _ => none
noncomputable def cSortedI : PGN := fun ps Q => One ps fun p => OkS p fun ps => ∃ is, intsOf ps = some is ∧ is.length < 64 ∧ Q ((srtI is).map PV.int)
theorem reps_ints {K : PySem.W.Frag} {F : Hp} : ∀ is : List Int, Reps K F (is.map PV.int) (is.map V.int)
  | [] => rfl
  | i :: is => ⟨.int i, _, rfl, rfl, reps_ints is⟩
theorem rc_sortedI : RefN X.K (fun xs H Q => ∃ p is, xs = [.ref p] ∧ (SqL X.K H p (is.map V.int) ∨ SqT X.K H p (is.map V.int)) ∧ is.length < 64 ∧ ∀ l, H l = none → Q (.ref l) (upd H l (.lst ((srtI is).map V.int)))) cSortedI := fun F H xs ps Qp Q s r h k => by
  obtain ⟨p, v, rfl, rfl, r, h⟩ := h.rd r
  obtain ⟨a, vs, ps, rfl, hs, ei, rs, is, e, h64, h⟩ := h.rd s r
  rw [intsOf_ok e] at rs
  rw [reps_int rs] at hs
  exact ⟨a, is, rfl, hs, h64, fun l hl => k _ l _ F _ h (.newO s hl _) hl (s.free hl) upd_same (reps_ints _)⟩
theorem kSortI_ok : ∀ ps r, kSortI ps = some r → ∃ p, r = .nw p ∧ cSortedI ps (fun z => z = p) := fun ps r h => by
  unfold kSortI at h
  split at h
  · obtain ⟨qs, e1, h⟩ := Option.bind_eq_some_iff.mp h
    obtain ⟨is, e2, h⟩ := Option.bind_eq_some_iff.mp h
    split at h
    · next z =>
      cases h
      refine ⟨_, rfl, ?_⟩
      show OkS _ _
      unfold OkS
      rw [e1]
      exact ⟨is, e2, z, rfl⟩
    · cases h
  · cases h
theorem reps_rev {K : PySem.W.Frag} {F : Hp} : ∀ {ps : List PV} {vs : List V}, Reps K F ps vs → Reps K F ps.reverse vs.reverse
  | [], _, h => by rw [show _ = [] from h]; rfl
  | p :: ps, _, ⟨v, r, e, h, t⟩ => by
    rw [e, List.reverse_cons, List.reverse_cons]
    exact (reps_rev t).app (.one h)
noncomputable def sRev (i : Nat) : FS := fun ρ => match sl ρ i with
  | some (.own ps) => .nx (ρ.set i (some (.own ps.reverse)))
  | _ => .bad
noncomputable def pRev (i : Nat) : PTS := fun D ρ => go ρ i fun ps => D.nx (ρ.set i (some (.own ps.reverse)))
theorem pus_rev (h : PS X st (tDrop (tBM0 X.K "list" rReverse (tVar i)))) : PuS X st (pRev i) := PS.weak h fun D σ H hh_ => hh_.elim fun F0 H0 F ρ Dp br h ft => by
  obtain ⟨ps, e, h⟩ := h.ex
  obtain ⟨a, vs, ev, o, h1, h2, h3⟩ := br.ownAt e
  exact ⟨_, ev, .inl ⟨rfl, vs, SqL.of h1⟩, a, vs, rfl, rfl, h1, ft.nx F _ σ _ h (br.mut (s := .own _) o rfl ⟨a, _, rfl, upd_same, h2, reps_rev h3⟩)⟩
theorem s_rev (h : PS X st (tDrop (tBM0 X.K "list" rReverse (tVar i)))) : DS X st (sRev i) := PuS_weak (pus_rev h) fun D ρ q => by
  unfold fnS sRev at q
  split at q
  · next ps e1 =>
    unfold pRev go
    rw [sl_some e1]
    exact q
  · exact q.elim
end
end Dp
end
section
namespace Dp
open PySem PySem.Spec L2 Pu
noncomputable def ItOkC (K : PySem.W.Frag) (F H : Hp) (J : It) (its : List PV) : Prop := ∀ F1 H1 (i : Nat), Same F F1 → Same F1 H1 → Same H H1 →
  (∀ p, its[i]? = some p → J.go i H1 ∧ ∀ x H2, J.yld i H1 x H2 → ∃ F2, Grow F1 H1 F2 H2 ∧ Rep K F2 p x) ∧ (its.length ≤ i → J.stop i H1)
noncomputable def lIc (K : PySem.W.Frag) (ti : PTI) : TI := fun σ H R => ∃ F ρ, ∃ Qp : List PV → Prop, ER K F H σ ρ ∧ ti ρ Qp ∧ ∀ its J F' H', Qp its → Grow F H F' H' → ItOkC K F' H' J its → R J H'
theorem lIc.elim {K : PySem.W.Frag} {ti : PTI} {σ : St} {H : Hp} {R} {C : Prop} (h : lIc K ti σ H R) (k : ∀ F ρ (Qp : List PV → Prop), ER K F H σ ρ → ti ρ Qp → (∀ its J F' H', Qp its → Grow F H F' H' → ItOkC K F' H' J its → R J H') → C) : C := by obtain ⟨F, ρ, Qp, a, b, c⟩ := h; exact k F ρ Qp a b c
section
variable {X : Cx} {e l tg iter : Expr} {te tl : PTE} {f : FE}
theorem pui_listT (hl : PuT X l tl) : PI X tg l (lIc X.K (pItL tl)) := PI.weak (pi_list hl) fun σ H R hh_ => hh_.elim fun F ρ Qp er q k => ⟨F, ρ, _, er, q, fun p v F1 H1 h1 g1 r1 => by
  obtain ⟨a, vs, ps, rfl, hs, rs, h⟩ := OkL.rd h1 g1.fh r1
  refine ⟨a, rfl, ⟨vs, hs⟩, k ps _ F1 H1 h g1 fun F2 H2 i s1 s2 s3 => ?_⟩
  have h2 := s3.seq hs
  refine ⟨fun p e => ?_, fun hl => ⟨vs, h2, by rw [rs.length]; exact hl⟩⟩
  obtain ⟨v, ev, rv⟩ := rs.get e
  refine ⟨⟨vs, v, h2, ev⟩, fun x H3 y => ?_⟩
  obtain ⟨e2, y⟩ := y
  subst e2
  have := y vs h2
  rw [ev] at this
  cases this
  exact ⟨F2, .refl s2, rv.mono s1⟩⟩
theorem comp_liftC {K : PySem.W.Frag} {fm : List (Option Nat)} {ti : PTI} {g0 : TG} {g : PTG} {tc : PTB} (hg : GRef K g0 g) : ∀ σ H Q, lN K (pComp fm ti g tc te) σ H Q → tComp fm (lIc K ti) g0 (lB K tc) (lE K te) σ H Q := fun σ H Q hh_ => hh_.elim fun F ρ Qp er q k =>
  ⟨F, ρ, _, er, q, fun its J F1 H1 hq g1 it => by
    obtain ⟨hlen, h1⟩ := hq
    refine ⟨fun i ys H' => ∃ F' acc, Grow F1 H1 F' H' ∧ Reps K F' acc ys ∧ i ≤ its.length ∧ acc.length ≤ i ∧ pGo g tc te (subρ fm ρ) (its.drop i) acc Qp, its.length, ⟨F1, [], .refl g1.fh, rfl, Nat.zero_le _, Nat.le_refl _, h1⟩, ?_, ?_⟩
    · rintro i ys H' ⟨F', acc, g2, rs, hi, ha, _⟩
      refine ⟨hi, small1000 ?_⟩
      rw [rs.length]; omega
    · rintro i ys H' ⟨F', acc, g2, rs, hi, ha, h2⟩
      obtain ⟨it1, it2⟩ := it F' H' i g2.ff g2.fh g2.hh
      by_cases hl : i < its.length
      · obtain ⟨go, yl⟩ := it1 _ (List.getElem?_eq_getElem hl)
        refine .inr ⟨go, fun x H2 hy => ?_⟩
        obtain ⟨F2, g3, rx⟩ := yl x H2 hy
        rw [List.drop_eq_getElem_cons hl] at h2
        have er2 : ER K F2 H2 (subσ fm σ) (subρ fm ρ) := (er.grow ((g1.trans g2).trans g3)).sub fm
        refine hg F2 H2 (subσ fm σ) (subρ fm ρ) _ x _ _ g3.fh rx h2 fun σ2 ρ2 h3 u => ?_
        refine ⟨F2, ρ2, _, er2.upd u, h3, fun b F3 H3 h4 g4 => ?_⟩
        cases b with
        | true =>
          rw [if_pos rfl] at h4 ⊢
          refine ⟨F3, ρ2, _, (er2.upd u).grow g4, h4, fun y v F4 H4 h5 g5 ry => ?_⟩
          have gg := ((g2.trans g3).trans g4).trans g5
          exact ⟨F4, acc ++ [y], gg, (rs.mono ((g3.ff.trans g4.ff).trans g5.ff)).app (.one ry), hl, by rw [List.length_append]; simp; omega, h5⟩
        | false =>
          rw [if_neg Bool.false_ne_true] at h4 ⊢
          exact ⟨F3, acc, (g2.trans g3).trans g4, rs.mono (g3.ff.trans g4.ff), hl, by omega, h4⟩
      · have e : its.drop i = [] := List.drop_eq_nil_of_le (by omega)
        rw [e] at h2
        exact .inl ⟨it2 (by omega), fun l hl => k acc l ys F' _ h2 ((g1.trans g2).trans (.newO g2.fh hl _)) ((g1.trans g2).hh.free hl) (g2.fh.free hl) upd_same rs⟩⟩
noncomputable def DIc (X : Cx) (tg iter : Expr) (f : FI) : Prop := PI X tg iter (lIc X.K (tIt f))
noncomputable def fItT (f : FE) : FI := fun ρ => (f ρ).bind fun r => lstOf r.pv
theorem i_seqT (h : DE X iter f) : DIc X tg iter (fItT f) := PI.weak (pui_listT h.tt) fun σ H R hh_ => hh_.elim fun F ρ Qp er q k => by
  obtain ⟨its, e, q⟩ := q
  obtain ⟨r, e1, e⟩ := Option.bind_eq_some_iff.mp e
  exact ⟨F, ρ, Qp, er, ⟨r, e1, lstOf_ok e q⟩, k⟩
theorem d_compT {fm : List (Option Nat)} {it : FI} {h0 : TG} {t : FT} {c : FB} (hg : GRef X.K h0 (qT t)) (h : PE X e (tComp fm (lIc X.K (tIt it)) h0 (lB X.K (tBo c)) (lE X.K (tF f)))) : DE X e (fComp fm it t c f) := .ofN (PE.weak h (comp_liftC hg)) fun ρ r e => comp_ok e
end
end Dp
end
section
namespace Pt
open L2 Fo
noncomputable def cl (n : Nat) (c : Nat → Nat) (x : Nat) : List Nat := (List.range n).filter fun y => decide (c y = c x)
theorem mem_cl {n : Nat} {c : Nat → Nat} {x y : Nat} : y ∈ cl n c x ↔ y < n ∧ c y = c x := by
  unfold cl; rw [List.mem_filter, List.mem_range, decide_eq_true_eq]
theorem cl_congr {n : Nat} {c c' : Nat → Nat} {x x' : Nat} (h : ∀ y, y < n → (c y = c x ↔ c' y = c' x')) : cl n c x = cl n c' x' :=
  List.filter_congr fun y hy => by rw [decide_eq_decide]; exact h y (List.mem_range.mp hy)
theorem cl_eq {n : Nat} {c : Nat → Nat} {x y : Nat} (hx : x < n) : cl n c x = cl n c y ↔ c x = c y := by
  constructor
  · intro e
    exact (mem_cl.mp (e ▸ mem_cl.mpr ⟨hx, rfl⟩)).2
  · intro e; exact cl_congr fun z _ => by rw [e]
theorem cl_up (n : Nat) (c : Nat → Nat) (x : Nat) : (cl n c x).Pairwise (· < ·) := (List.pairwise_lt_range).filter _
theorem cl_len (n : Nat) (c : Nat → Nat) (x : Nat) : (cl n c x).length ≤ n := by
  have := List.length_filter_le (fun y => decide (c y = c x)) (List.range n)
  rwa [List.length_range] at this
structure Part (n : Nat) (c : Nat → Nat) (ls : List (List Nat)) : Prop where
  cls : ∀ l ∈ ls, ∃ x, x < n ∧ l = cl n c x
  all : ∀ x, x < n → cl n c x ∈ ls
  nd : ls.Nodup
  len : ls.length ≤ n
theorem Part.pick {n : Nat} {c : Nat → Nat} {ls : List (List Nat)} (P : Part n c ls) {x : Nat} (hx : x < n) : ls.filter (fun l => decide (x ∈ l)) = [cl n c x] := by
  have e : ls.filter (fun l => decide (x ∈ l)) = ls.filter fun l => l == cl n c x := List.filter_congr fun l hl => by
    obtain ⟨z, hz, rfl⟩ := P.cls l hl
    rw [Bool.eq_iff_iff, decide_eq_true_eq, beq_iff_eq, mem_cl, cl_eq hz]
    exact ⟨fun h => h.2.symm, fun h => ⟨hx, h.symm⟩⟩
  rw [e, List.filter_beq, P.nd.count, if_pos (P.all x hx)]; rfl
theorem part_id (n : Nat) : Part n id ((List.range n).map fun x => [x]) := by
  have e : ∀ x, x < n → cl n id x = [x] := fun x hx => by
    have : cl n id x = (List.range n).filter (· == x) := List.filter_congr fun y _ => by rw [Bool.eq_iff_iff, decide_eq_true_eq, beq_iff_eq]; exact Iff.rfl
    rw [this, List.filter_beq, List.nodup_range.count, if_pos (List.mem_range.mpr hx)]; rfl
  refine ⟨fun l hl => ?_, fun x hx => ?_, ?_, ?_⟩
  · obtain ⟨x, hx, rfl⟩ := List.mem_map.mp hl
    exact ⟨x, List.mem_range.mp hx, (e x (List.mem_range.mp hx)).symm⟩
  · rw [e x hx]; exact List.mem_map.mpr ⟨x, List.mem_range.mpr hx, rfl⟩
  · refine List.nodup_range.map _ fun a b h z => h (by simpa using z)
  · rw [List.length_map, List.length_range]; exact Nat.le_refl _
noncomputable def jn (c : Nat → Nat) (x y : Nat) : Nat → Nat := fun z => if c z = c x then c y else c z
theorem jn_same {c : Nat → Nat} {x y : Nat} (h : c x = c y) : jn c x y = c := funext fun z => by
  unfold jn; split
  · next e => rw [e, h]
  · rfl
theorem cl_jn {n : Nat} {c : Nat → Nat} {x y : Nat} (h : c x ≠ c y) : srtI ((cl n c x ++ cl n c y).map Int.ofNat) = (cl n (jn c x y) x).map Int.ofNat := by
  refine (srtI_eq (List.Perm.map _ ?_) ?_).symm
  · refine (List.perm_ext_iff_of_nodup ((cl_up n _ x).imp fun h => Nat.ne_of_lt h) ?_).mpr fun z => ?_
    · refine List.nodup_append.mpr ⟨(cl_up n _ x).imp fun h => Nat.ne_of_lt h, (cl_up n _ y).imp fun h => Nat.ne_of_lt h, fun a ha b hb e => ?_⟩
      subst e
      exact h ((mem_cl.mp ha).2.symm.trans (mem_cl.mp hb).2)
    · rw [List.mem_append, mem_cl, mem_cl, mem_cl]
      unfold jn
      rw [if_pos rfl]
      by_cases e : c z = c x
      · rw [if_pos e]; exact ⟨fun q => .inl ⟨q.1, e⟩, fun q => ⟨q.elim (·.1) (·.1), rfl⟩⟩
      · rw [if_neg e]; exact ⟨fun q => .inr q, fun q => q.elim (fun q => absurd q.2 e) id⟩
  · rw [List.pairwise_map]
    exact (cl_up n _ x).imp fun h => by show Int.ofNat _ ≤ Int.ofNat _; exact Int.ofNat_le.mpr (Nat.le_of_lt h)
theorem Part.join {n : Nat} {c : Nat → Nat} {ls : List (List Nat)} (P : Part n c ls) {x y : Nat} (hx : x < n) (hy : y < n) (h : c x ≠ c y) : Part n (jn c x y) (ls.filter (fun l => !(decide (l = cl n c x) || decide (l = cl n c y))) ++ [cl n (jn c x y) x]) := by
  have keep : ∀ z, c z ≠ c x → c z ≠ c y → cl n (jn c x y) z = cl n c z := fun z h1 h2 => cl_congr fun w _ => by
    unfold jn
    rw [if_neg h1]
    by_cases e : c w = c x
    · rw [if_pos e, e]; exact ⟨fun q => absurd q.symm h2, fun q => absurd q.symm h1⟩
    · rw [if_neg e]
  have jx : ∀ z, c z = c x ∨ c z = c y → jn c x y z = jn c x y x := fun z hz => by
    unfold jn
    rw [if_pos rfl]
    rcases hz with e | e
    · rw [if_pos e]
    · rw [e]; split <;> rfl
  refine ⟨fun l hl => ?_, fun z hz => ?_, ?_, ?_⟩
  · rcases List.mem_append.mp hl with hl | hl
    · obtain ⟨h1, h2⟩ := List.mem_filter.mp hl
      obtain ⟨z, hz, rfl⟩ := P.cls l h1
      rw [Bool.not_eq_true', Bool.or_eq_false_iff, decide_eq_false_iff_not, decide_eq_false_iff_not, cl_eq hz, cl_eq hz] at h2
      exact ⟨z, hz, (keep z h2.1 h2.2).symm⟩
    · exact ⟨x, hx, List.mem_singleton.mp hl⟩
  · by_cases e : c z = c x ∨ c z = c y
    · exact List.mem_append_right _ (List.mem_singleton.mpr ((cl_eq hz).mpr (jx z e)))
    · have e1 : c z ≠ c x := fun q => e (.inl q)
      have e2 : c z ≠ c y := fun q => e (.inr q)
      rw [keep z e1 e2]
      refine List.mem_append_left _ (List.mem_filter.mpr ⟨P.all z hz, ?_⟩)
      rw [Bool.not_eq_true', Bool.or_eq_false_iff, decide_eq_false_iff_not, decide_eq_false_iff_not, cl_eq hz, cl_eq hz]
      exact ⟨e1, e2⟩
  · refine List.nodup_append.mpr ⟨P.nd.filter _, (by simp), fun a ha b hb e => ?_⟩
    subst e
    obtain ⟨h1, h2⟩ := List.mem_filter.mp ha
    obtain ⟨z, hz, rfl⟩ := P.cls a h1
    rw [Bool.not_eq_true', Bool.or_eq_false_iff, decide_eq_false_iff_not, decide_eq_false_iff_not, cl_eq hz, cl_eq hz] at h2
    have hm : x ∈ cl n c z := by rw [List.mem_singleton.mp hb]; exact mem_cl.mpr ⟨hx, rfl⟩
    exact h2.1 (mem_cl.mp hm).2.symm
  · rw [List.length_append, List.length_singleton]
    have : (ls.filter (fun l => !(decide (l = cl n c x) || decide (l = cl n c y)))).length < ls.length := List.length_filter_lt_length_iff_exists.mpr ⟨_, P.all x hx, by simp⟩
    have := P.len
    omega
noncomputable def lab (ps : List (Nat × Nat)) (c : Nat → Nat) : Nat → Nat := ps.foldl (fun c p => jn c p.1 p.2) c
theorem lab_cons (p : Nat × Nat) (ps : List (Nat × Nat)) (c : Nat → Nat) : lab (p :: ps) c = lab ps (jn c p.1 p.2) := rfl
theorem lab_keep : ∀ (ps : List (Nat × Nat)) (c : Nat → Nat) (a b : Nat), c a = c b → lab ps c a = lab ps c b
  | [], _, _, _, h => h
  | p :: ps, c, a, b, h => by
    rw [lab_cons]
    exact lab_keep ps _ a b (by unfold jn; rw [h])
theorem lab_pair : ∀ (ps : List (Nat × Nat)) (c : Nat → Nat) (a b : Nat), (a, b) ∈ ps → lab ps c a = lab ps c b
  | p :: ps, c, a, b, h => by
    rw [lab_cons]
    rcases List.mem_cons.mp h with e | h
    · cases e
      refine lab_keep ps _ a b ?_
      unfold jn
      rw [if_pos rfl]
      split <;> rfl
    · exact lab_pair ps _ a b h
theorem lab_fine {f : Nat → Nat} : ∀ (ps : List (Nat × Nat)) (c : Nat → Nat), (∀ p ∈ ps, f p.1 = f p.2) → (∀ a b, c a = c b → f a = f b) → ∀ a b, lab ps c a = lab ps c b → f a = f b
  | [], _, _, h => h
  | p :: ps, c, hp, h => by
    rw [lab_cons]
    have e := hp p List.mem_cons_self
    refine lab_fine ps _ (fun q hq => hp q (List.mem_cons_of_mem _ hq)) fun a b z => ?_
    unfold jn at z
    by_cases h1 : c a = c p.1
    · rw [if_pos h1] at z
      by_cases h2 : c b = c p.1
      · exact h a b (h1.trans h2.symm)
      · rw [if_neg h2] at z
        rw [h a p.1 h1, e]; exact h _ _ z
    · rw [if_neg h1] at z
      by_cases h2 : c b = c p.1
      · rw [if_pos h2] at z
        rw [h b p.1 h2, e]; exact h _ _ z
      · rw [if_neg h2] at z; exact h _ _ z
noncomputable def lst1 (c : Nat → Nat) (x : Nat) : Bool := decide (∀ y, y < x → c y ≠ c x)
noncomputable def lotsC (n : Nat) (c : Nat → Nat) : List (List Nat) := ((List.range n).filter (lst1 c)).map (cl n c)
theorem least {c : Nat → Nat} : ∀ x, ∃ z, z ≤ x ∧ c z = c x ∧ lst1 c z = true := fun x => by
  induction x using Nat.strongRecOn with
  | _ x ih =>
    by_cases h : lst1 c x = true
    · exact ⟨x, Nat.le_refl _, rfl, h⟩
    · unfold lst1 at h
      rw [decide_eq_true_eq] at h
      have : ∃ y, y < x ∧ c y = c x := Decidable.byContradiction fun q => h fun y hy e => q ⟨y, hy, e⟩
      obtain ⟨y, hy, e⟩ := this
      obtain ⟨z, h1, h2, h3⟩ := ih y hy
      exact ⟨z, by omega, h2.trans e, h3⟩
theorem mem_lots {n : Nat} {c : Nat → Nat} {l : List Nat} : l ∈ lotsC n c ↔ ∃ x, x < n ∧ l = cl n c x := by
  unfold lotsC
  rw [List.mem_map]
  constructor
  · rintro ⟨x, hx, rfl⟩
    exact ⟨x, List.mem_range.mp (List.mem_filter.mp hx).1, rfl⟩
  · rintro ⟨x, hx, rfl⟩
    obtain ⟨z, h1, h2, h3⟩ := least (c := c) x
    exact ⟨z, List.mem_filter.mpr ⟨List.mem_range.mpr (by omega), h3⟩, (cl_eq (by omega)).mpr h2⟩
theorem cl_least {n : Nat} {c : Nat → Nat} {x : Nat} (hx : x < n) (h : lst1 c x = true) : ∃ t, cl n c x = x :: t := by
  unfold lst1 at h
  rw [decide_eq_true_eq] at h
  cases e : cl n c x with
  | nil =>
    have : x ∈ cl n c x := mem_cl.mpr ⟨hx, rfl⟩
    rw [e] at this; cases this
  | cons a t =>
    have u := cl_up n c x
    rw [e, List.pairwise_cons] at u
    have hm : x ∈ cl n c x := mem_cl.mpr ⟨hx, rfl⟩
    have ha : a ∈ cl n c x := by rw [e]; exact List.mem_cons_self
    rw [e] at hm
    rcases List.mem_cons.mp hm with rfl | hm
    · exact ⟨t, rfl⟩
    · exact absurd (mem_cl.mp ha).2 (h a (u.1 x hm))
theorem lots_rise (n : Nat) (c : Nat → Nat) : ((lotsC n c).map fun l => l.map Int.ofNat).Pairwise fun a b => ltI a b = true := by
  unfold lotsC
  rw [List.map_map, List.pairwise_map]
  refine ((List.pairwise_lt_range).filter _).imp_of_mem fun {a b} ha hb h => ?_
  obtain ⟨ha1, ha2⟩ := List.mem_filter.mp ha
  obtain ⟨hb1, hb2⟩ := List.mem_filter.mp hb
  obtain ⟨t, e⟩ := cl_least (List.mem_range.mp ha1) ha2
  obtain ⟨t', e'⟩ := cl_least (List.mem_range.mp hb1) hb2
  show ltI ((cl n c a).map Int.ofNat) ((cl n c b).map Int.ofNat) = true
  rw [e, e', List.map_cons, List.map_cons, ltI_cons, if_neg (fun z => by have := Int.ofNat.inj z; omega)]
  exact decide_eq_true (Int.ofNat_lt.mpr h)
theorem lots_congr {n : Nat} {c c' : Nat → Nat} (h : ∀ x y, x < n → y < n → (c x = c y ↔ c' x = c' y)) : lotsC n c = lotsC n c' := by
  unfold lotsC
  have e : (List.range n).filter (lst1 c) = (List.range n).filter (lst1 c') := List.filter_congr fun x hx => by
    have hx := List.mem_range.mp hx
    unfold lst1
    rw [decide_eq_decide]
    exact ⟨fun q y hy z => q y hy ((h y x (by omega) hx).mpr z), fun q y hy z => q y hy ((h y x (by omega) hx).mp z)⟩
  rw [e]
  exact List.map_congr_left fun x hx => cl_congr fun y hy => h y x hy (List.mem_range.mp (List.mem_filter.mp hx).1)
theorem Part.sorted {n : Nat} {c : Nat → Nat} {ls : List (List Nat)} (P : Part n c ls) {ks : List (List Int)} (e : ks = ls.map fun l => l.map Int.ofNat) : (ordI ks).map (fun i => ks.getD i []) = (lotsC n c).map fun l => l.map Int.ofNat := by
  have inj : ∀ a b : List Nat, a ≠ b → a.map Int.ofNat ≠ b.map Int.ofNat := fun a b h z => h (List.map_inj_right (fun _ _ q => Int.ofNat.inj q) |>.mp z)
  have nd : ks.Nodup := by rw [e]; exact P.nd.map _ inj
  obtain ⟨hp, hu⟩ := ordI_up nd
  refine rise_eq (lt := fun a b => ltI a b = true) (fun a z => by rw [ltI_irr] at z; cases z) (fun a b d => ltI_tr a b d) hu (lots_rise n c) fun a => ?_
  rw [hp.mem_iff, e, List.mem_map, List.mem_map]
  constructor
  · rintro ⟨l, hl, rfl⟩
    exact ⟨l, mem_lots.mpr (P.cls l hl), rfl⟩
  · rintro ⟨l, hl, rfl⟩
    obtain ⟨x, hx, rfl⟩ := mem_lots.mp hl
    exact ⟨_, P.all x hx, rfl⟩
theorem lots_pick {n : Nat} {c : Nat → Nat} {x : Nat} (hx : x < n) : (lotsC n c).filter (fun l => decide (x ∈ l)) = [cl n c x] := by
  have nd : (lotsC n c).Nodup := by
    have := lots_rise n c
    rw [List.pairwise_map] at this
    exact this.imp fun {a b} h z => by subst z; rw [ltI_irr] at h; cases h
  have e : (lotsC n c).filter (fun l => decide (x ∈ l)) = (lotsC n c).filter fun l => l == cl n c x := List.filter_congr fun l hl => by
    obtain ⟨z, hz, rfl⟩ := mem_lots.mp hl
    rw [Bool.eq_iff_iff, decide_eq_true_eq, beq_iff_eq, mem_cl, cl_eq hz]
    exact ⟨fun h => h.2.symm, fun h => ⟨hx, h.symm⟩⟩
  rw [e, List.filter_beq, nd.count, if_pos (mem_lots.mpr ⟨x, hx, rfl⟩)]; rfl
end Pt
end
section
namespace Pt
open L2 Fo Lo
theorem cl_succ (m : Nat) (c : Nat → Nat) (x : Nat) : cl (m + 1) c x = cl m c x ++ if c m = c x then [m] else [] := by
  unfold cl
  rw [List.range_succ, List.filter_append]
  congr 1
  rw [List.filter_cons]
  by_cases h : c m = c x
  · rw [if_pos (decide_eq_true h), if_pos h]; rfl
  · rw [if_neg (by rw [decide_eq_true_eq]; exact h), if_neg h]; rfl
theorem lotsN_is (us : List Nat) : ∀ m, lotsN us m = ((List.range m).filter (lst1 (hd us))).map fun x => (hd us x, cl m (hd us) x)
  | 0 => rfl
  | m + 1 => by
    rw [lotsN_succ, lotsN_is us m]
    generalize hd us = c
    have anyE : (((List.range m).filter (lst1 c)).map fun x => (c x, cl m c x)).any (fun t => decide (t.1 = c m)) = !lst1 c m := by
      rw [List.any_map]
      rw [Bool.eq_iff_iff, List.any_eq_true, Bool.not_eq_true']
      constructor
      · rintro ⟨x, hx, e⟩
        have e : c x = c m := of_decide_eq_true e
        refine decide_eq_false fun q => ?_
        exact q x (List.mem_range.mp (List.mem_filter.mp hx).1) e
      · intro q
        unfold lst1 at q
        rw [decide_eq_false_iff_not] at q
        have : ∃ y, y < m ∧ c y = c m := Decidable.byContradiction fun z => q fun y hy e => z ⟨y, hy, e⟩
        obtain ⟨y, hy, e⟩ := this
        obtain ⟨z, h1, h2, h3⟩ := least (c := c) y
        exact ⟨z, List.mem_filter.mpr ⟨List.mem_range.mpr (by omega), h3⟩, decide_eq_true (h2.trans e)⟩
    unfold putL
    rw [anyE, List.range_succ, List.filter_append, List.map_append]
    cases h : lst1 c m with
    | true =>
      have h' := h
      unfold lst1 at h'
      rw [decide_eq_true_eq] at h'
      rw [Bool.not_true, if_neg Bool.false_ne_true, List.filter_cons, if_pos h]
      congr 1
      · refine List.map_congr_left fun x hx => ?_
        rw [cl_succ, if_neg fun z => h' x (List.mem_range.mp (List.mem_filter.mp hx).1) z.symm, List.append_nil]
      · have : cl m c m = [] := List.filter_eq_nil_iff.mpr fun y hy => by rw [decide_eq_true_eq]; exact h' y (List.mem_range.mp hy)
        rw [List.filter_nil, List.map_cons, List.map_nil, cl_succ, if_pos rfl, this]; rfl
    | false =>
      rw [Bool.not_false, if_pos rfl, List.filter_cons, if_neg (by rw [h]; exact Bool.false_ne_true), List.filter_nil, List.map_nil, List.append_nil, List.map_map]
      refine List.map_congr_left fun x hx => ?_
      show (if c x = c m then (c x, cl m c x ++ [m]) else (c x, cl m c x)) = _
      rw [cl_succ]
      by_cases e : c x = c m
      · rw [if_pos e, if_pos e.symm]
      · rw [if_neg e, if_neg fun z => e z.symm, List.append_nil]
theorem lots_is (us : List Nat) : lots us = lotsC us.length (hd us) := by
  unfold lots lotsC
  rw [lotsN_is, List.map_map]; rfl
theorem lab_heads {us : List Nat} (f : Fst us) {ps : List (Nat × Nat)} (e : ps = (List.range us.length).map fun x => (x, up us x)) : ∀ x y, x < us.length → y < us.length → (lab ps id x = lab ps id y ↔ hd us x = hd us y) := by
  have step : ∀ x, x < us.length → lab ps id x = lab ps id (up us x) := fun x hx => lab_pair ps id _ _ (by rw [e]; exact List.mem_map.mpr ⟨x, List.mem_range.mpr hx, rfl⟩)
  have walk : ∀ {x : Nat} {l : List Nat}, Way us x l → x < us.length → lab ps id x = lab ps id (last l) := fun {x l} w => by
    induction w with
    | head _ => intro _; rfl
    | @step y l n w ih => intro hx; rw [step y hx, ih (f.bnd y hx), last_cons w.ne]
  have toHd : ∀ x, x < us.length → lab ps id x = lab ps id (hd us x) := fun x hx => walk (way_ok f hx) hx
  intro x y hx hy
  constructor
  · intro z
    have := lab_fine (f := fun t => if t < us.length then hd us t else t + us.length) ps id (fun p hp => by
      rw [e] at hp
      obtain ⟨t, ht, rfl⟩ := List.mem_map.mp hp
      have ht := List.mem_range.mp ht
      show (if t < us.length then hd us t else _) = if up us t < us.length then hd us (up us t) else _
      rw [if_pos ht, if_pos (f.bnd t ht), hd_up f ht]) (fun a b q => by rw [show a = b from q]) x y z
    simpa only [if_pos hx, if_pos hy] using this
  · intro z; rw [toHd x hx, toHd y hy, z]
end Pt
end
section
namespace Dp
open PySem L2 Fo Pu
noncomputable def F__law_sizes_b1 : FS := (sPut 1 (fV 3) (fOp rAdd (fOp rIx (fV 1) (fV 3)) (fC (.int 1))))
theorem q_F__law_sizes_b1 {ρ : PSt} : F__law_sizes_b1 ρ = (sPut 1 (fV 3) (fOp rAdd (fOp rIx (fV 1) (fV 3)) (fC (.int 1)))) ρ := Eq.trans rfl rfl
noncomputable def F__law_sizes_b2 : FS := (sFor (fIt (fCall F__law_way (fCons (fV 0) (fCons (fV 2) fNil)))) (gN 3) F__law_sizes_b1)
theorem q_F__law_sizes_b2 {ρ : PSt} : F__law_sizes_b2 ρ = (sFor (fIt (fCall F__law_way (fCons (fV 0) (fCons (fV 2) fNil)))) (gN 3) F__law_sizes_b1) ρ := Eq.trans rfl rfl
noncomputable def F__law_sizes_s : FS := (sSeq (sOwn 1 (fOp rMul (fLst (fCons (fC (.int 0)) fNil)) (fB kLen (fCons (fV 0) fNil))))
    (sSeq (sFor (fRng rng1 (fCons (fB kLen (fCons (fV 0) fNil)) fNil)) (gN 2) F__law_sizes_b2)
    (sRetV 1)))
theorem q_F__law_sizes_s {ρ : PSt} : F__law_sizes_s ρ = (sSeq (sOwn 1 (fOp rMul (fLst (fCons (fC (.int 0)) fNil)) (fB kLen (fCons (fV 0) fNil))))
    (sSeq (sFor (fRng rng1 (fCons (fB kLen (fCons (fV 0) fNil)) fNil)) (gN 2) F__law_sizes_b2)
    (sRetV 1))) ρ := Eq.trans rfl rfl
noncomputable def F__law_sizes : List PV → Option PR := run 1 4 F__law_sizes_s
theorem q_F__law_sizes {a0 : PV} : F__law_sizes [a0] = (F__law_sizes_s [some (.val a0), none, none, none]).res := Eq.trans rfl rfl
noncomputable def F__law_lots_by_e1 : FE := (fTup (fCons (fV 0) fNil))
theorem q_F__law_lots_by_e1 {ρ : PSt} : F__law_lots_by_e1 ρ = (fTup (fCons (fV 0) fNil)) ρ := Eq.trans rfl rfl
noncomputable def F__law_lots_by_c2 : FB := (fT (fOp rIn (fV 1) (fV 0)))
theorem q_F__law_lots_by_c2 {ρ : PSt} : F__law_lots_by_c2 ρ = (fT (fOp rIn (fV 1) (fV 0))) ρ := Eq.trans rfl rfl
noncomputable def F__law_lots_by_e3 : FE := (fV 0)
theorem q_F__law_lots_by_e3 {ρ : PSt} : F__law_lots_by_e3 ρ = (fV 0) ρ := Eq.trans rfl rfl
noncomputable def F__law_lots_by_c4 : FB := (fT (fOp rNotIn (fV 0) (fTup (fCons (fV 1) (fCons (fV 2) fNil)))))
theorem q_F__law_lots_by_c4 {ρ : PSt} : F__law_lots_by_c4 ρ = (fT (fOp rNotIn (fV 0) (fTup (fCons (fV 1) (fCons (fV 2) fNil))))) ρ := Eq.trans rfl rfl
noncomputable def F__law_lots_by_b5 : FS := (sSeq (sSet 5 (fOp rIx (fComp [none, some 3] (fIt (fV 2)) (gN 0) F__law_lots_by_c2 F__law_lots_by_e3) (fC (.int 0))))
    (sSeq (sSet 6 (fOp rIx (fComp [none, some 4] (fIt (fV 2)) (gN 0) F__law_lots_by_c2 F__law_lots_by_e3) (fC (.int 0))))
    (sIf (fT (fOp rNe (fV 5) (fV 6))) (sSet 2 (fOp rAdd (fComp [none, some 5, some 6] (fIt (fV 2)) (gN 0) F__law_lots_by_c4 F__law_lots_by_e3) (fLst (fCons (fB kTup (fCons (fB kSortI (fCons (fOp rAdd (fV 5) (fV 6)) fNil)) fNil)) fNil)))) sSkip)))
theorem q_F__law_lots_by_b5 {ρ : PSt} : F__law_lots_by_b5 ρ = (sSeq (sSet 5 (fOp rIx (fComp [none, some 3] (fIt (fV 2)) (gN 0) F__law_lots_by_c2 F__law_lots_by_e3) (fC (.int 0))))
    (sSeq (sSet 6 (fOp rIx (fComp [none, some 4] (fIt (fV 2)) (gN 0) F__law_lots_by_c2 F__law_lots_by_e3) (fC (.int 0))))
    (sIf (fT (fOp rNe (fV 5) (fV 6))) (sSet 2 (fOp rAdd (fComp [none, some 5, some 6] (fIt (fV 2)) (gN 0) F__law_lots_by_c4 F__law_lots_by_e3) (fLst (fCons (fB kTup (fCons (fB kSortI (fCons (fOp rAdd (fV 5) (fV 6)) fNil)) fNil)) fNil)))) sSkip))) ρ := Eq.trans rfl rfl
noncomputable def F__law_lots_by_s : FS := (sSeq (sSet 2 (fComp [none] (fRng rng1 (fCons (fV 0) fNil)) (gN 0) fYes F__law_lots_by_e1))
    (sSeq (sFor (fIt (fV 1)) (gTn 2 (gC (gN 3) (gC (gN 4) g0))) F__law_lots_by_b5)
    (sRet (fB kSorted (fCons (fV 2) fNil)))))
theorem q_F__law_lots_by_s {ρ : PSt} : F__law_lots_by_s ρ = (sSeq (sSet 2 (fComp [none] (fRng rng1 (fCons (fV 0) fNil)) (gN 0) fYes F__law_lots_by_e1))
    (sSeq (sFor (fIt (fV 1)) (gTn 2 (gC (gN 3) (gC (gN 4) g0))) F__law_lots_by_b5)
    (sRet (fB kSorted (fCons (fV 2) fNil))))) ρ := Eq.trans rfl rfl
noncomputable def F__law_lots_by : List PV → Option PR := run 2 7 F__law_lots_by_s
theorem q_F__law_lots_by {a0 a1 : PV} : F__law_lots_by [a0, a1] = (F__law_lots_by_s [some (.val a0), some (.val a1), none, none, none, none, none]).res := Eq.trans rfl rfl
noncomputable def F__law_whole_s : FS := (sRet (fAndV (fB kIs (fCons (fV 0) (fCons (fC (.ty "int")) fNil))) (fFr (fNotV (fB kIs (fCons (fV 0) (fCons (fC (.ty "bool")) fNil)))))))
theorem q_F__law_whole_s {ρ : PSt} : F__law_whole_s ρ = (sRet (fAndV (fB kIs (fCons (fV 0) (fCons (fC (.ty "int")) fNil))) (fFr (fNotV (fB kIs (fCons (fV 0) (fCons (fC (.ty "bool")) fNil))))))) ρ := Eq.trans rfl rfl
noncomputable def F__law_whole : List PV → Option PR := run 1 1 F__law_whole_s
theorem q_F__law_whole {a0 : PV} : F__law_whole [a0] = (F__law_whole_s [some (.val a0)]).res := Eq.trans rfl rfl
noncomputable def F__law_some_s : FS := (sSeq (sIf (fT (fOp rLt (fV 0) (fC (.int 13)))) (sRet (fB kList (fCons (fB kRng (fCons (fV 0) fNil)) fNil))) sSkip)
    (sRet (fLst (fCons (fC (.int 0)) (fCons (fC (.int 1)) (fCons (fOp rDiv (fV 0) (fC (.int 2))) (fCons (fOp rSub (fV 0) (fC (.int 2))) (fCons (fOp rSub (fV 0) (fC (.int 1))) fNil))))))))
theorem q_F__law_some_s {ρ : PSt} : F__law_some_s ρ = (sSeq (sIf (fT (fOp rLt (fV 0) (fC (.int 13)))) (sRet (fB kList (fCons (fB kRng (fCons (fV 0) fNil)) fNil))) sSkip)
    (sRet (fLst (fCons (fC (.int 0)) (fCons (fC (.int 1)) (fCons (fOp rDiv (fV 0) (fC (.int 2))) (fCons (fOp rSub (fV 0) (fC (.int 2))) (fCons (fOp rSub (fV 0) (fC (.int 1))) fNil)))))))) ρ := Eq.trans rfl rfl
noncomputable def F__law_some : List PV → Option PR := run 1 1 F__law_some_s
theorem q_F__law_some {a0 : PV} : F__law_some [a0] = (F__law_some_s [some (.val a0)]).res := Eq.trans rfl rfl
end Dp
end
section
namespace Dp
open PySem L2 Fo Pu Lo Pt
theorem x_sortI_t {ps : List PV} : kSortI [.tup ps] = (intsOf ps).bind fun is => if is.length < 64 then some (.nw ((srtI is).map PV.int)) else none := Eq.trans rfl rfl
noncomputable def oRev (o : Option Sl) (i : Nat) (ρ : PSt) : Out := match o with
  | some (.own ps) => .nx (ρ.set i (some (.own ps.reverse)))
  | _ => .bad
theorem x_rvs {i : Nat} {ρ : PSt} : sRev i ρ = oRev (sl ρ i) i ρ := Eq.trans rfl rfl
theorem x_rvs_s {i : Nat} {ps : List PV} {ρ : PSt} : oRev (some (.own ps)) i ρ = .nx (ρ.set i (some (.own ps.reverse))) := Eq.trans rfl rfl
noncomputable def tupsV (ls : List (List Nat)) : List PV := ls.map fun l => .tup (nums l)
theorem tupsV_len (ls : List (List Nat)) : (tupsV ls).length = ls.length := List.length_map ..
theorem nums_of (l : List Nat) : (l.map Int.ofNat).map PV.int = nums l := by unfold nums; rw [List.map_map]; rfl
theorem nums_len (l : List Nat) : (nums l).length = l.length := List.length_map ..
theorem nums_app (l m : List Nat) : nums l ++ nums m = nums (l ++ m) := by unfold nums; rw [List.map_append]
theorem intsOf_nums (l : List Nat) : intsOf (nums l) = some (l.map Int.ofNat) := by rw [← nums_of, intsOf_map]
theorem sortI_nums {l m : List Nat} (h : srtI (l.map Int.ofNat) = m.map Int.ofNat) (h64 : l.length < 64) : kSortI [.tup (nums l)] = some (.nw (nums m)) := by
  rw [x_sortI_t, intsOf_nums]
  show (if (l.map Int.ofNat).length < 64 then _ else _) = _
  rw [List.length_map, if_pos h64, h, nums_of]
theorem keysOf_tups : ∀ {ls : List (List Nat)}, (∀ l ∈ ls, l ≠ []) → keysOf (tupsV ls) = some (ls.map fun l => l.map Int.ofNat)
  | [], _ => rfl
  | l :: ls, h => by
    show (intsOf (nums l)).bind _ = _
    rw [intsOf_nums]
    show (if (l.map Int.ofNat).isEmpty = true then none else (keysOf (tupsV ls)).map _) = _
    rw [keysOf_tups fun m hm => h m (List.mem_cons_of_mem _ hm), if_neg]
    · rfl
    · cases l with
      | nil => exact absurd rfl (h [] List.mem_cons_self)
      | cons => exact Bool.false_ne_true
theorem cl_ne {n : Nat} {c : Nat → Nat} {x : Nat} (hx : x < n) : cl n c x ≠ [] := fun e => by
  have : x ∈ cl n c x := mem_cl.mpr ⟨hx, rfl⟩
  rw [e] at this; cases this
theorem sorted_part {n : Nat} {c : Nat → Nat} {ls : List (List Nat)} (P : Part n c ls) (h40 : n ≤ 40) : kSorted [.lst (tupsV ls)] = some (.nw (tupsV (lotsC n c))) := by
  have hl := P.len
  rw [x_sorted_l, keysOf_tups fun l h => by obtain ⟨x, hx, rfl⟩ := P.cls l h; exact cl_ne hx]
  show (if (tupsV ls).length < 64 then _ else _) = _
  rw [tupsV_len, if_pos (by omega)]
  have e : ∀ i ∈ ordI (ls.map fun l => l.map Int.ofNat), (tupsV ls).getD i .non = PV.tup (((ls.map fun l => l.map Int.ofNat).getD i []).map PV.int) := fun i hi => by
    have := List.mem_range.mp ((ordI_perm _).subset hi)
    rw [List.length_map] at this
    unfold tupsV
    rw [List.getD_eq_getElem?_getD, List.getD_eq_getElem?_getD, List.getElem?_map, List.getElem?_map, List.getElem?_eq_getElem this]
    show PV.tup (nums _) = PV.tup ((List.map Int.ofNat _).map PV.int)
    rw [nums_of]
  rw [List.map_congr_left e, show (fun i => PV.tup (((ls.map fun l => l.map Int.ofNat).getD i []).map PV.int)) = (fun k : List Int => PV.tup (k.map PV.int)) ∘ (fun i => (ls.map fun l => l.map Int.ofNat).getD i []) from rfl, ← List.map_map, P.sorted rfl, List.map_map]
  unfold tupsV
  refine congrArg (fun z => some (RV.nw z)) (List.map_congr_left fun l _ => ?_)
  show PV.tup ((l.map Int.ofNat).map PV.int) = _
  rw [nums_of]
noncomputable def prsV (ps : List (Nat × Nat)) : List PV := ps.map fun p => .tup [.int p.1, .int p.2]
theorem lby_pick {n : Nat} {c : Nat → Nat} {ls : List (List Nat)} (P : Part n c ls) {x : Nat} (hx : x < n) : goF (gN 0) F__law_lots_by_c2 F__law_lots_by_e3 [none, some (.val (.int x))] (tupsV ls) = some [.tup (nums (cl n c x))] := by
  have e := go_filter (t := gN 0) (c := F__law_lots_by_c2) (f := F__law_lots_by_e3) (ρ := [none, some (.val (.int x))]) (fun p => match p with | .tup q => pin (.int x) q | _ => false) id (its := tupsV ls) (fun p hp => by
    obtain ⟨l, hl, rfl⟩ := List.mem_map.mp hp
    refine ⟨_, rfl, ?_, fun _ => ?_⟩
    · simp only [q_F__law_lots_by_c2, E1, E2, E3, E4, E5, E6, E7, E8, E9, E10, E11, E12, E13, E14, E15, E16, E17, E18, E19, E20, E21, E22, E23, E24, E25, E26, E27, E28, E29, E30, E31, E32, E33, E34, E35, E36, E37, E38, E39, E40, E41, E42, E43, E44, E45, E46, E47, E48, Nat.reduceAdd, Nat.reduceSub, Nat.reduceLeDiff, Nat.reduceLT, Nat.reduceEqDiff, Int.reduceLT, Int.reduceLE, Int.reduceAdd, Int.reduceSub, Int.reduceMul, Int.reduceMod, Int.reduceDiv, Int.reduceNeg, Int.reduceToNat, Int.reducePow, Int.reduceEq, plains_nums, deps_nums]
    · simp only [q_F__law_lots_by_e3, E1, E2, E3, E4, E5, E6, E7, E8, E9, E10, E11, E12, E13, E14, E15, E16, E17, E18, E19, E20, E21, E22, E23, E24, E25, E26, E27, E28, E29, E30, E31, E32, E33, E34, E35, E36, E37, E38, E39, E40, E41, E42, E43, E44, E45, E46, E47, E48, Nat.reduceAdd, Nat.reduceSub, Nat.reduceLeDiff, Nat.reduceLT, Nat.reduceEqDiff, Int.reduceLT, Int.reduceLE, Int.reduceAdd, Int.reduceSub, Int.reduceMul, Int.reduceMod, Int.reduceDiv, Int.reduceNeg, Int.reduceToNat, Int.reducePow, Int.reduceEq, id])
  rw [e]
  unfold tupsV
  have q : ((fun p => match p with | .tup q => pin (.int x) q | _ => false) ∘ fun l => PV.tup (nums l)) = fun l => decide (x ∈ l) := funext fun l => pin_nums x l
  rw [List.filter_map, List.map_id, q, P.pick hx]
  rfl
theorem pin_two (x a b : PV) : pin x [a, b] = (peq a x || peq b x) := by unfold pin; rw [List.any_cons, List.any_cons, List.any_nil, Bool.or_false]
theorem lby_rest {l1 l2 : List Nat} {ls : List (List Nat)} : goF (gN 0) F__law_lots_by_c4 F__law_lots_by_e3 [none, some (.val (.tup (nums l1))), some (.val (.tup (nums l2)))] (tupsV ls) = some (tupsV (ls.filter fun l => !(decide (l = l1) || decide (l = l2)))) := by
  have e := go_filter (t := gN 0) (c := F__law_lots_by_c4) (f := F__law_lots_by_e3) (ρ := [none, some (.val (.tup (nums l1))), some (.val (.tup (nums l2)))]) (fun p => !(peq (.tup (nums l1)) p || peq (.tup (nums l2)) p)) id (its := tupsV ls) (fun p hp => by
    obtain ⟨l, hl, rfl⟩ := List.mem_map.mp hp
    refine ⟨_, rfl, ?_, fun _ => ?_⟩
    · simp only [q_F__law_lots_by_c4, E1, E2, E3, E4, E5, E6, E7, E8, E9, E10, E11, E12, E13, E14, E15, E16, E17, E18, E19, E20, E21, E22, E23, E24, E25, E26, E27, E28, E29, E30, E31, E32, E33, E34, E35, E36, E37, E38, E39, E40, E41, E42, E43, E44, E45, E46, E47, E48, Nat.reduceAdd, Nat.reduceSub, Nat.reduceLeDiff, Nat.reduceLT, Nat.reduceEqDiff, Int.reduceLT, Int.reduceLE, Int.reduceAdd, Int.reduceSub, Int.reduceMul, Int.reduceMod, Int.reduceDiv, Int.reduceNeg, Int.reduceToNat, Int.reducePow, Int.reduceEq, plains_nums, deps_nums, pin_two, peq_tup]
    · simp only [q_F__law_lots_by_e3, E1, E2, E3, E4, E5, E6, E7, E8, E9, E10, E11, E12, E13, E14, E15, E16, E17, E18, E19, E20, E21, E22, E23, E24, E25, E26, E27, E28, E29, E30, E31, E32, E33, E34, E35, E36, E37, E38, E39, E40, E41, E42, E43, E44, E45, E46, E47, E48, Nat.reduceAdd, Nat.reduceSub, Nat.reduceLeDiff, Nat.reduceLT, Nat.reduceEqDiff, Int.reduceLT, Int.reduceLE, Int.reduceAdd, Int.reduceSub, Int.reduceMul, Int.reduceMod, Int.reduceDiv, Int.reduceNeg, Int.reduceToNat, Int.reducePow, Int.reduceEq, id])
  rw [e]
  unfold tupsV
  have q : ((fun p => !(peq (.tup (nums l1)) p || peq (.tup (nums l2)) p)) ∘ fun l => PV.tup (nums l)) = fun l => !(decide (l = l1) || decide (l = l2)) := funext fun l => by
    show (!(peq (.tup (nums l1)) (.tup (nums l)) || peq (.tup (nums l2)) (.tup (nums l)))) = _
    rw [peq_tup, peq_tup, peqs_nums, peqs_nums, show decide (l1 = l) = decide (l = l1) from decide_eq_decide.mpr eq_comm, show decide (l2 = l) = decide (l = l2) from decide_eq_decide.mpr eq_comm]
  rw [List.filter_map, List.map_id, q]
theorem lby_loop {n : Nat} (h40 : n ≤ 40) {s0 s1 : Option Sl} : ∀ (ps : List (Nat × Nat)) (c : Nat → Nat) (ls : List (List Nat)) (z3 z4 z5 z6 : Option Sl), Part n c ls → (∀ p ∈ ps, p.1 < n ∧ p.2 < n) →
    ∃ ls' z3' z4' z5' z6', Part n (lab ps c) ls' ∧ loopF (gTn 2 (gC (gN 3) (gC (gN 4) g0))) F__law_lots_by_b5 (prsV ps) [s0, s1, some (.val (.lst (tupsV ls))), z3, z4, z5, z6] = .nx [s0, s1, some (.val (.lst (tupsV ls'))), z3', z4', z5', z6']
  | [], c, ls, z3, z4, z5, z6, P, _ => ⟨ls, z3, z4, z5, z6, P, rfl⟩
  | (x, y) :: ps, c, ls, z3, z4, z5, z6, P, hp => by
    have hx : x < n := (hp (x, y) List.mem_cons_self).1
    have hy : y < n := (hp (x, y) List.mem_cons_self).2
    have hl := P.len
    have h1 : (tupsV ls).length < 1000 := by rw [tupsV_len]; omega
    have a0 : ∀ v : PV, L2.atI [v] 0 = some v := fun v => rfl
    by_cases h : c x = c y
    · obtain ⟨ls', z3', z4', z5', z6', P', e⟩ := lby_loop h40 (s0 := s0) (s1 := s1) ps (jn c x y) ls (some (.val (.int x))) (some (.val (.int y))) (some (.val (.tup (nums (cl n c x))))) (some (.val (.tup (nums (cl n c y))))) (by rw [jn_same h]; exact P) fun p q => hp p (List.mem_cons_of_mem _ q)
      refine ⟨ls', z3', z4', z5', z6', P', ?_⟩
      rw [show prsV ((x, y) :: ps) = .tup [.int x, .int y] :: prsV ps from rfl, loop_S, ← e]
      have d : decide (cl n c x = cl n c y) = true := decide_eq_true ((cl_eq hx).mpr h)
      simp only [q_F__law_lots_by_b5, E1, E2, E3, E4, E5, E6, E7, E8, E9, E10, E11, E12, E13, E14, E15, E16, E17, E18, E19, E20, E21, E22, E23, E24, E25, E26, E27, E28, E29, E30, E31, E32, E33, E34, E35, E36, E37, E38, E39, E40, E41, E42, E43, E44, E45, E46, E47, E48, Nat.reduceAdd, Nat.reduceSub, Nat.reduceLeDiff, Nat.reduceLT, Nat.reduceEqDiff, Int.reduceLT, Int.reduceLE, Int.reduceAdd, Int.reduceSub, Int.reduceMul, Int.reduceMod, Int.reduceDiv, Int.reduceNeg, Int.reduceToNat, Int.reducePow, Int.reduceEq, h1, lby_pick P hx, lby_pick P hy, a0, plains_nums, deps_nums, peq_tup, peqs_nums, d]
    · obtain ⟨ls', z3', z4', z5', z6', P', e⟩ := lby_loop h40 (s0 := s0) (s1 := s1) ps (jn c x y) _ (some (.val (.int x))) (some (.val (.int y))) (some (.val (.tup (nums (cl n c x))))) (some (.val (.tup (nums (cl n c y))))) (P.join hx hy h) fun p q => hp p (List.mem_cons_of_mem _ q)
      refine ⟨ls', z3', z4', z5', z6', P', ?_⟩
      rw [show prsV ((x, y) :: ps) = .tup [.int x, .int y] :: prsV ps from rfl, loop_S, ← e]
      have d : decide (cl n c x = cl n c y) = false := decide_eq_false fun q => h ((cl_eq hx).mp q)
      have l1 := cl_len n c x
      have l2 := cl_len n c y
      have hs : kSortI [.tup (nums (cl n c x ++ cl n c y))] = some (.nw (nums (cl n (jn c x y) x))) := sortI_nums (cl_jn h) (by
        have := congrArg List.length (cl_jn (n := n) h)
        rw [(srtI_perm _).length_eq, List.length_map, List.length_map] at this
        have := cl_len n (jn c x y) x
        omega)
      have ne : (nums (cl n c x)).isEmpty = false := by
        cases q : cl n c x with
        | nil => exact absurd q (cl_ne hx)
        | cons => rfl
      have h2 : (cl n c x).length + (cl n c y).length ≤ 100000 := by omega
      have h3 : (tupsV (ls.filter fun l => !(decide (l = cl n c x) || decide (l = cl n c y)))).length + 1 ≤ 100000 := by
        rw [tupsV_len]
        have := List.length_filter_le (fun l => !(decide (l = cl n c x) || decide (l = cl n c y))) ls
        omega
      have h4 : tupsV (ls.filter fun l => !(decide (l = cl n c x) || decide (l = cl n c y))) ++ [.tup (nums (cl n (jn c x y) x))] = tupsV (ls.filter (fun l => !(decide (l = cl n c x) || decide (l = cl n c y))) ++ [cl n (jn c x y) x]) := by unfold tupsV; rw [List.map_append]; rfl
      simp only [q_F__law_lots_by_b5, E1, E2, E3, E4, E5, E6, E7, E8, E9, E10, E11, E12, E13, E14, E15, E16, E17, E18, E19, E20, E21, E22, E23, E24, E25, E26, E27, E28, E29, E30, E31, E32, E33, E34, E35, E36, E37, E38, E39, E40, E41, E42, E43, E44, E45, E46, E47, E48, Nat.reduceAdd, Nat.reduceSub, Nat.reduceLeDiff, Nat.reduceLT, Nat.reduceEqDiff, Int.reduceLT, Int.reduceLE, Int.reduceAdd, Int.reduceSub, Int.reduceMul, Int.reduceMod, Int.reduceDiv, Int.reduceNeg, Int.reduceToNat, Int.reducePow, Int.reduceEq, h1, lby_pick P hx, lby_pick P hy, a0, plains_nums, deps_nums, peq_tup, peqs_nums, d, lby_rest, ne, h2, h3, nums_app, hs, h4, and_self]
theorem t_lots_by {n : Nat} (h40 : n ≤ 40) {ps : List (Nat × Nat)} (hp : ∀ p ∈ ps, p.1 < n ∧ p.2 < n) : F__law_lots_by [.int n, .lst (prsV ps)] = some (.n (tupsV (lotsC n (lab ps id)))) := by
  obtain ⟨ls', z3', z4', z5', z6', P', e⟩ := lby_loop h40 (s0 := some (.val (.int n))) (s1 := some (.val (.lst (prsV ps)))) ps id _ none none none none (part_id n) hp
  have e0 : goF (gN 0) fYes F__law_lots_by_e1 [none] (nums (List.range n)) = some (tupsV ((List.range n).map fun x => [x])) := by
    rw [go_nums (fun u => PV.tup [.int u]) fun u hu => by simp only [q_F__law_lots_by_e1, E1, E2, E3, E4, E5, E6, E7, E8, E9, E10, E11, E12, E13, E14, E15, E16, E17, E18, E19, E20, E21, E22, E23, E24, E25, E26, E27, E28, E29, E30, E31, E32, E33, E34, E35, E36, E37, E38, E39, E40, E41, E42, E43, E44, E45, E46, E47, E48, Nat.reduceAdd, Nat.reduceSub, Nat.reduceLeDiff, Nat.reduceLT, Nat.reduceEqDiff, Int.reduceLT, Int.reduceLE, Int.reduceAdd, Int.reduceSub, Int.reduceMul, Int.reduceMod, Int.reduceDiv, Int.reduceNeg, Int.reduceToNat, Int.reducePow, Int.reduceEq]]
    unfold tupsV; rw [List.map_map]; rfl
  have h1 : (List.range n).length < 1000 := by rw [List.length_range]; omega
  have hn : n < 1000 := by omega
  simp only [q_F__law_lots_by, q_F__law_lots_by_s, E1, E2, E3, E4, E5, E6, E7, E8, E9, E10, E11, E12, E13, E14, E15, E16, E17, E18, E19, E20, E21, E22, E23, E24, E25, E26, E27, E28, E29, E30, E31, E32, E33, E34, E35, E36, E37, E38, E39, E40, E41, E42, E43, E44, E45, E46, E47, E48, Nat.reduceAdd, Nat.reduceSub, Nat.reduceLeDiff, Nat.reduceLT, Nat.reduceEqDiff, Int.reduceLT, Int.reduceLE, Int.reduceAdd, Int.reduceSub, Int.reduceMul, Int.reduceMod, Int.reduceDiv, Int.reduceNeg, Int.reduceToNat, Int.reducePow, Int.reduceEq, K1 (show n ≤ 100000 by omega), h1, hn, List.length_range, e0, e, sorted_part P' h40]
noncomputable def inc (acc l : List Nat) : List Nat := l.foldl (fun a t => a.set t (up a t + 1)) acc
noncomputable def sz (us : List Nat) : List Nat := (List.range us.length).foldl (fun acc x => inc acc (way us x)) (List.replicate us.length 0)
theorem inc_len : ∀ (l acc : List Nat), (inc acc l).length = acc.length
  | [], _ => rfl
  | t :: l, acc => by
    show (inc (acc.set t (up acc t + 1)) l).length = _
    rw [inc_len l, List.length_set]
theorem sz_in {n : Nat} {b : FS} {s0 z2 : Option Sl} (hb : ∀ (acc : List Nat) (t : Nat), t < acc.length → b [s0, some (.own (nums acc)), z2, some (.val (.int t))] = .nx [s0, some (.own (nums (acc.set t (up acc t + 1)))), z2, some (.val (.int t))]) :
    ∀ (l acc : List Nat) (z3 : Option Sl), (∀ t ∈ l, t < n) → acc.length = n → ∃ z3', loopF (gN 3) b (nums l) [s0, some (.own (nums acc)), z2, z3] = .nx [s0, some (.own (nums (inc acc l))), z2, z3']
  | [], acc, z3, _, _ => ⟨z3, rfl⟩
  | t :: l, acc, z3, hl, ha => by
    obtain ⟨z3', e⟩ := sz_in hb l (acc.set t (up acc t + 1)) (some (.val (.int t))) (fun u hu => hl u (List.mem_cons_of_mem _ hu)) (by rw [List.length_set]; exact ha)
    refine ⟨z3', ?_⟩
    show _ = Out.nx [s0, some (.own (nums (inc (acc.set t (up acc t + 1)) l))), z2, z3']
    rw [← e, nums_cons, loop_S]
    have := hb acc t (by rw [ha]; exact hl t List.mem_cons_self)
    simp only [E1, E2, E3, E4, E5, E6, E7, E8, E9, E10, E11, E12, E13, E14, E15, E16, E17, E18, E19, E20, E21, E22, E23, E24, E25, E26, E27, E28, E29, E30, E31, E32, E33, E34, E35, E36, E37, E38, E39, E40, E41, E42, E43, E44, E45, E46, E47, E48, Nat.reduceAdd, Nat.reduceSub, Nat.reduceLeDiff, Nat.reduceLT, Nat.reduceEqDiff, Int.reduceLT, Int.reduceLE, Int.reduceAdd, Int.reduceSub, Int.reduceMul, Int.reduceMod, Int.reduceDiv, Int.reduceNeg, Int.reduceToNat, Int.reducePow, Int.reduceEq, this]
theorem sz_out {us : List Nat} (f : Frst us) {b2 : FS} {s0 : Option Sl} (hb : ∀ (acc : List Nat) (x : Nat) (z3 : Option Sl), x < us.length → acc.length = us.length → ∃ z3', b2 [s0, some (.own (nums acc)), some (.val (.int x)), z3] = .nx [s0, some (.own (nums (inc acc (way us x)))), some (.val (.int x)), z3']) :
    ∀ (xs acc : List Nat) (z2 z3 : Option Sl), (∀ t ∈ xs, t < us.length) → acc.length = us.length → ∃ z2' z3', loopF (gN 2) b2 (nums xs) [s0, some (.own (nums acc)), z2, z3] = .nx [s0, some (.own (nums (xs.foldl (fun acc x => inc acc (way us x)) acc))), z2', z3']
  | [], acc, z2, z3, _, _ => ⟨z2, z3, rfl⟩
  | x :: xs, acc, z2, z3, hl, ha => by
    obtain ⟨w3, e1⟩ := hb acc x z3 (hl x List.mem_cons_self) ha
    obtain ⟨z2', z3', e⟩ := sz_out f hb xs (inc acc (way us x)) (some (.val (.int x))) w3 (fun u hu => hl u (List.mem_cons_of_mem _ hu)) (by rw [inc_len]; exact ha)
    refine ⟨z2', z3', ?_⟩
    rw [List.foldl_cons, ← e, nums_cons, loop_S]
    simp only [E1, E2, E3, E4, E5, E6, E7, E8, E9, E10, E11, E12, E13, E14, E15, E16, E17, E18, E19, E20, E21, E22, E23, E24, E25, E26, E27, E28, E29, E30, E31, E32, E33, E34, E35, E36, E37, E38, E39, E40, E41, E42, E43, E44, E45, E46, E47, E48, Nat.reduceAdd, Nat.reduceSub, Nat.reduceLeDiff, Nat.reduceLT, Nat.reduceEqDiff, Int.reduceLT, Int.reduceLE, Int.reduceAdd, Int.reduceSub, Int.reduceMul, Int.reduceMod, Int.reduceDiv, Int.reduceNeg, Int.reduceToNat, Int.reducePow, Int.reduceEq, e1]
theorem repl0 : ∀ n : Nat, (List.replicate n [PV.int 0]).flatten = nums (List.replicate n 0)
  | 0 => rfl
  | n + 1 => by rw [List.replicate_succ, List.flatten_cons, repl0 n]; rfl
theorem mul0 {n : Nat} (h : n ≤ 1000) : rMul (.lst [.int 0]) (.int n) = some (.nw (nums (List.replicate n 0))) := by
  show (if ((n : Int) ≤ 1000 ∧ -1000 ≤ (n : Int) ∧ [PV.int 0].length ≤ 100) then some (RV.nw (List.replicate (n : Int).toNat [PV.int 0]).flatten) else none) = _
  rw [if_pos ⟨by omega, by omega, by decide⟩, Int.toNat_natCast, repl0]
theorem nums_set'' (us : List Nat) (i v : Nat) : (nums us).set i (PV.int ((v : Int) + 1)) = nums (us.set i (v + 1)) := nums_set us i (v + 1)
theorem nums_at {acc : List Nat} {t : Nat} (ht : t < acc.length) : (nums acc)[t]? = some (.int (up acc t : Nat)) := by
  unfold nums up
  rw [List.getElem?_map, List.getElem?_eq_getElem ht]
  simp [ht, nI]
theorem t_sizes {us : List Nat} (f : Frst us) : F_sizes_in [.tup (nums us)] = some (.n (nums (sz us))) := by
  have hm := f.most
  obtain ⟨z2, z3, e⟩ := sz_out f (b2 := F_sizes_in_b2) (s0 := some (.val (.tup (nums us)))) (fun acc x z3 hx ha => by
    obtain ⟨z3', e⟩ := sz_in (n := us.length) (b := F_sizes_in_b1) (s0 := some (.val (.tup (nums us)))) (z2 := some (.val (.int x))) (fun acc t ht => by
      have hz : (0 : Int) ≤ (t : Int) := by omega
      simp only [q_F_sizes_in_b1, E1, E2, E3, E4, E5, E6, E7, E8, E9, E10, E11, E12, E13, E14, E15, E16, E17, E18, E19, E20, E21, E22, E23, E24, E25, E26, E27, E28, E29, E30, E31, E32, E33, E34, E35, E36, E37, E38, E39, E40, E41, E42, E43, E44, E45, E46, E47, E48, Nat.reduceAdd, Nat.reduceSub, Nat.reduceLeDiff, Nat.reduceLT, Nat.reduceEqDiff, Int.reduceLT, Int.reduceLE, Int.reduceAdd, Int.reduceSub, Int.reduceMul, Int.reduceMod, Int.reduceDiv, Int.reduceNeg, Int.reduceToNat, Int.reducePow, Int.reduceEq, hz, nums_at ht, atI_nums ht, ixN_nat ht, nums_set'', Int.toNat_natCast]) (way us x) acc z3 (fun t ht => way_mem_lt f.fst hx ht) ha
    refine ⟨z3', ?_⟩
    simp only [q_F_sizes_in_b2, E1, E2, E3, E4, E5, E6, E7, E8, E9, E10, E11, E12, E13, E14, E15, E16, E17, E18, E19, E20, E21, E22, E23, E24, E25, E26, E27, E28, E29, E30, E31, E32, E33, E34, E35, E36, E37, E38, E39, E40, E41, E42, E43, E44, E45, E46, E47, E48, Nat.reduceAdd, Nat.reduceSub, Nat.reduceLeDiff, Nat.reduceLT, Nat.reduceEqDiff, Int.reduceLT, Int.reduceLE, Int.reduceAdd, Int.reduceSub, Int.reduceMul, Int.reduceMod, Int.reduceDiv, Int.reduceNeg, Int.reduceToNat, Int.reducePow, Int.reduceEq, t_way (.inl rfl) f hx, e]) (List.range us.length) (List.replicate us.length 0) none none (fun t ht => List.mem_range.mp ht) (List.length_replicate ..)
  simp only [q_F_sizes_in, q_F_sizes_in_s, E1, E2, E3, E4, E5, E6, E7, E8, E9, E10, E11, E12, E13, E14, E15, E16, E17, E18, E19, E20, E21, E22, E23, E24, E25, E26, E27, E28, E29, E30, E31, E32, E33, E34, E35, E36, E37, E38, E39, E40, E41, E42, E43, E44, E45, E46, E47, E48, Nat.reduceAdd, Nat.reduceSub, Nat.reduceLeDiff, Nat.reduceLT, Nat.reduceEqDiff, Int.reduceLT, Int.reduceLE, Int.reduceAdd, Int.reduceSub, Int.reduceMul, Int.reduceMod, Int.reduceDiv, Int.reduceNeg, Int.reduceToNat, Int.reducePow, Int.reduceEq, mul0 (show us.length ≤ 1000 by omega), K1 (show us.length ≤ 100000 by omega), e]
  rfl
theorem t_lsizes {us : List Nat} (f : Frst us) : F__law_sizes [.tup (nums us)] = some (.n (nums (sz us))) := by
  have hm := f.most
  obtain ⟨z2, z3, e⟩ := sz_out f (b2 := F__law_sizes_b2) (s0 := some (.val (.tup (nums us)))) (fun acc x z3 hx ha => by
    obtain ⟨z3', e⟩ := sz_in (n := us.length) (b := F__law_sizes_b1) (s0 := some (.val (.tup (nums us)))) (z2 := some (.val (.int x))) (fun acc t ht => by
      simp only [q_F__law_sizes_b1, E1, E2, E3, E4, E5, E6, E7, E8, E9, E10, E11, E12, E13, E14, E15, E16, E17, E18, E19, E20, E21, E22, E23, E24, E25, E26, E27, E28, E29, E30, E31, E32, E33, E34, E35, E36, E37, E38, E39, E40, E41, E42, E43, E44, E45, E46, E47, E48, Nat.reduceAdd, Nat.reduceSub, Nat.reduceLeDiff, Nat.reduceLT, Nat.reduceEqDiff, Int.reduceLT, Int.reduceLE, Int.reduceAdd, Int.reduceSub, Int.reduceMul, Int.reduceMod, Int.reduceDiv, Int.reduceNeg, Int.reduceToNat, Int.reducePow, Int.reduceEq, atI_nums ht, ixN_nat ht, nums_set'']) (way us x) acc z3 (fun t ht => way_mem_lt f.fst hx ht) ha
    refine ⟨z3', ?_⟩
    simp only [q_F__law_sizes_b2, E1, E2, E3, E4, E5, E6, E7, E8, E9, E10, E11, E12, E13, E14, E15, E16, E17, E18, E19, E20, E21, E22, E23, E24, E25, E26, E27, E28, E29, E30, E31, E32, E33, E34, E35, E36, E37, E38, E39, E40, E41, E42, E43, E44, E45, E46, E47, E48, Nat.reduceAdd, Nat.reduceSub, Nat.reduceLeDiff, Nat.reduceLT, Nat.reduceEqDiff, Int.reduceLT, Int.reduceLE, Int.reduceAdd, Int.reduceSub, Int.reduceMul, Int.reduceMod, Int.reduceDiv, Int.reduceNeg, Int.reduceToNat, Int.reducePow, Int.reduceEq, t_lway (.inl rfl) f hx, e]) (List.range us.length) (List.replicate us.length 0) none none (fun t ht => List.mem_range.mp ht) (List.length_replicate ..)
  simp only [q_F__law_sizes, q_F__law_sizes_s, E1, E2, E3, E4, E5, E6, E7, E8, E9, E10, E11, E12, E13, E14, E15, E16, E17, E18, E19, E20, E21, E22, E23, E24, E25, E26, E27, E28, E29, E30, E31, E32, E33, E34, E35, E36, E37, E38, E39, E40, E41, E42, E43, E44, E45, E46, E47, E48, Nat.reduceAdd, Nat.reduceSub, Nat.reduceLeDiff, Nat.reduceLT, Nat.reduceEqDiff, Int.reduceLT, Int.reduceLE, Int.reduceAdd, Int.reduceSub, Int.reduceMul, Int.reduceMod, Int.reduceDiv, Int.reduceNeg, Int.reduceToNat, Int.reducePow, Int.reduceEq, mul0 (show us.length ≤ 1000 by omega), K1 (show us.length ≤ 100000 by omega), e]
  rfl
theorem sz_len {us : List Nat} : (sz us).length = us.length := by
  have : ∀ (xs acc : List Nat), (xs.foldl (fun acc x => inc acc (way us x)) acc).length = acc.length := fun xs => by
    induction xs with
    | nil => intro acc; rfl
    | cons x xs ih => intro acc; rw [List.foldl_cons, ih, inc_len]
  unfold sz; rw [this, List.length_replicate]
theorem t_size_of {us : List Nat} (f : Frst us) {x : Nat} (hx : x < us.length) : F_size_of [.tup (nums us), .int x] = some (.v (.int (up (sz us) x : Nat))) := by
  simp only [q_F_size_of, q_F_size_of_s, E1, E2, E3, E4, E5, E6, E7, E8, E9, E10, E11, E12, E13, E14, E15, E16, E17, E18, E19, E20, E21, E22, E23, E24, E25, E26, E27, E28, E29, E30, E31, E32, E33, E34, E35, E36, E37, E38, E39, E40, E41, E42, E43, E44, E45, E46, E47, E48, Nat.reduceAdd, Nat.reduceSub, Nat.reduceLeDiff, Nat.reduceLT, Nat.reduceEqDiff, Int.reduceLT, Int.reduceLE, Int.reduceAdd, Int.reduceSub, Int.reduceMul, Int.reduceMod, Int.reduceDiv, Int.reduceNeg, Int.reduceToNat, Int.reducePow, Int.reduceEq, t_cft f hx, t_sizes f, atI_nums (show x < (sz us).length by rw [sz_len]; exact hx)]
theorem t_lot_with {us : List Nat} (f : Frst us) {x : Nat} (hx : x < us.length) : F_lot_with [.tup (nums us), .int x] = some (.v (.tup (nums (cl us.length (hd us) x)))) := by
  have hm := f.most
  have e := go_filter (t := gN 0) (c := F_lot_with_c1) (f := F_lot_with_e2) (ρ := [none, some (.val (.tup (nums us))), some (.val (.int (hd us x : Nat)))]) (fun p => match p with | .int i => decide (hd us i.toNat = hd us x) | _ => false) id (its := nums (List.range us.length)) (fun p hp => by
    obtain ⟨y, hy, rfl⟩ := mem_nums hp
    have hy := List.mem_range.mp hy
    refine ⟨_, rfl, ?_, fun _ => ?_⟩
    · have d : decide ((hd us y : Int) = (hd us x : Int)) = decide (hd us y = hd us x) := decide_eq_decide.mpr (by omega)
      simp only [q_F_lot_with_c1, E1, E2, E3, E4, E5, E6, E7, E8, E9, E10, E11, E12, E13, E14, E15, E16, E17, E18, E19, E20, E21, E22, E23, E24, E25, E26, E27, E28, E29, E30, E31, E32, E33, E34, E35, E36, E37, E38, E39, E40, E41, E42, E43, E44, E45, E46, E47, E48, Nat.reduceAdd, Nat.reduceSub, Nat.reduceLeDiff, Nat.reduceLT, Nat.reduceEqDiff, Int.reduceLT, Int.reduceLE, Int.reduceAdd, Int.reduceSub, Int.reduceMul, Int.reduceMod, Int.reduceDiv, Int.reduceNeg, Int.reduceToNat, Int.reducePow, Int.reduceEq, t_way (.inl rfl) f hy, atI_hd f hy, d, Int.toNat_natCast]
    · simp only [q_F_lot_with_e2, E1, E2, E3, E4, E5, E6, E7, E8, E9, E10, E11, E12, E13, E14, E15, E16, E17, E18, E19, E20, E21, E22, E23, E24, E25, E26, E27, E28, E29, E30, E31, E32, E33, E34, E35, E36, E37, E38, E39, E40, E41, E42, E43, E44, E45, E46, E47, E48, Nat.reduceAdd, Nat.reduceSub, Nat.reduceLeDiff, Nat.reduceLT, Nat.reduceEqDiff, Int.reduceLT, Int.reduceLE, Int.reduceAdd, Int.reduceSub, Int.reduceMul, Int.reduceMod, Int.reduceDiv, Int.reduceNeg, Int.reduceToNat, Int.reducePow, Int.reduceEq, id])
  have e2 : (nums (List.range us.length)).filter (fun p => match p with | .int i => decide (hd us i.toNat = hd us x) | _ => false) = nums (cl us.length (hd us) x) := by
    unfold nums cl
    rw [List.filter_map]; rfl
  rw [List.map_id, e2] at e
  have hn : us.length < 1000 := by omega
  simp only [q_F_lot_with, q_F_lot_with_s, E1, E2, E3, E4, E5, E6, E7, E8, E9, E10, E11, E12, E13, E14, E15, E16, E17, E18, E19, E20, E21, E22, E23, E24, E25, E26, E27, E28, E29, E30, E31, E32, E33, E34, E35, E36, E37, E38, E39, E40, E41, E42, E43, E44, E45, E46, E47, E48, Nat.reduceAdd, Nat.reduceSub, Nat.reduceLeDiff, Nat.reduceLT, Nat.reduceEqDiff, Int.reduceLT, Int.reduceLE, Int.reduceAdd, Int.reduceSub, Int.reduceMul, Int.reduceMod, Int.reduceDiv, Int.reduceNeg, Int.reduceToNat, Int.reducePow, Int.reduceEq, t_way (.inl rfl) f hx, atI_hd f hx, K1 (show us.length ≤ 100000 by omega), List.length_range, hn, e]
theorem t_lot_of {us : List Nat} (f : Frst us) {x : Nat} (hx : x < us.length) : F_lot_of [.tup (nums us), .int x] = some (.v (.tup (nums (cl us.length (hd us) x)))) := by
  simp only [q_F_lot_of, q_F_lot_of_s, E1, E2, E3, E4, E5, E6, E7, E8, E9, E10, E11, E12, E13, E14, E15, E16, E17, E18, E19, E20, E21, E22, E23, E24, E25, E26, E27, E28, E29, E30, E31, E32, E33, E34, E35, E36, E37, E38, E39, E40, E41, E42, E43, E44, E45, E46, E47, E48, Nat.reduceAdd, Nat.reduceSub, Nat.reduceLeDiff, Nat.reduceLT, Nat.reduceEqDiff, Int.reduceLT, Int.reduceLE, Int.reduceAdd, Int.reduceSub, Int.reduceMul, Int.reduceMod, Int.reduceDiv, Int.reduceNeg, Int.reduceToNat, Int.reducePow, Int.reduceEq, t_cft f hx, t_lot_with f hx]
theorem t_lwhole (i : Int) : F__law_whole [.int i] = some (.v (.bl true)) := by
  simp only [q_F__law_whole, q_F__law_whole_s, E1, E2, E3, E4, E5, E6, E7, E8, E9, E10, E11, E12, E13, E14, E15, E16, E17, E18, E19, E20, E21, E22, E23, E24, E25, E26, E27, E28, E29, E30, E31, E32, E33, E34, E35, E36, E37, E38, E39, E40, E41, E42, E43, E44, E45, E46, E47, E48, Nat.reduceAdd, Nat.reduceSub, Nat.reduceLeDiff, Nat.reduceLT, Nat.reduceEqDiff, Int.reduceLT, Int.reduceLE, Int.reduceAdd, Int.reduceSub, Int.reduceMul, Int.reduceMod, Int.reduceDiv, Int.reduceNeg, Int.reduceToNat, Int.reducePow, Int.reduceEq]
theorem x_itT {f : FE} {ρ : PSt} : fItT f ρ = (f ρ).bind fun r => lstOf r.pv := Eq.trans rfl rfl
theorem x_lstOf {ps : List PV} : lstOf (.lst ps) = some ps := Eq.trans rfl rfl
theorem plains_tupsV (ls : List (List Nat)) : plains (tupsV ls) = true := plains_tups ls
theorem deps_tupsV (ls : List (List Nat)) : deps (tupsV ls) ≤ 1 := deps_tups ls
theorem eq_lst {ps : List PV} (h : plains ps = true) (hd : deps ps ≤ 40) : rEq (.lst ps) (.lst ps) = some (.fz (.bl true)) ∧ rNe (.lst ps) (.lst ps) = some (.fz (.bl false)) := by
  have h1 : Pu.plain (.lst ps) = true := by rw [Pu.plain]; exact h
  have h2 : decide (dep (.lst ps) ≤ 50) = true := decide_eq_true (by rw [dep]; omega)
  rw [x_eq_p, x_ne_p, h1, h2, peq_self h1]; exact ⟨rfl, rfl⟩
theorem eq_tup {ps : List PV} (h : plains ps = true) (hd : deps ps ≤ 40) : rEq (.tup ps) (.tup ps) = some (.fz (.bl true)) ∧ rNe (.tup ps) (.tup ps) = some (.fz (.bl false)) := by
  have h1 : Pu.plain (.tup ps) = true := by rw [Pu.plain]; exact h
  have h2 : decide (dep (.tup ps) ≤ 50) = true := decide_eq_true (by rw [dep]; omega)
  rw [x_eq_p, x_ne_p, h1, h2, peq_self h1]; exact ⟨rfl, rfl⟩
theorem eq_nums (l : List Nat) : rEq (.tup (nums l)) (.tup (nums l)) = some (.fz (.bl true)) ∧ rNe (.tup (nums l)) (.tup (nums l)) = some (.fz (.bl false)) := eq_tup (plains_nums l) (by rw [deps_nums]; omega)
theorem t_lots_of' {us : List Nat} (f : Frst us) : F_lots_of [.tup (nums us)] = some (.n (tupsV (lotsC us.length (hd us)))) := by
  rw [t_lots_of f]
  show some (PR.n (tupsV (lots us))) = _
  rw [lots_is]
theorem t_lots_up {us : List Nat} (f : Frst us) : F__law_lots_by [.int us.length, .lst (prsV ((List.range us.length).map fun x => (x, up us x)))] = some (.n (tupsV (lotsC us.length (hd us)))) := by
  rw [t_lots_by f.most fun p hp => by
    obtain ⟨x, hx, rfl⟩ := List.mem_map.mp hp
    exact ⟨List.mem_range.mp hx, f.fst.bnd x (List.mem_range.mp hx)⟩]
  rw [Pt.lots_congr (lab_heads f.fst rfl)]
theorem lotsC_len (n : Nat) (c : Nat → Nat) : (lotsC n c).length ≤ n := by
  unfold lotsC
  rw [List.length_map]
  have := List.length_filter_le (lst1 c) (List.range n)
  rwa [List.length_range] at this
theorem t_lsome {n : Nat} (h1 : 1 ≤ n) (hn : n ≤ 100000) : ∃ ts : List Nat, (∀ t ∈ ts, t < n) ∧ ts.length ≤ n + 5 ∧ F__law_some [.int n] = some (.n (nums ts)) := by
  by_cases h : n < 13
  · refine ⟨List.range n, fun t ht => List.mem_range.mp ht, by rw [List.length_range]; omega, ?_⟩
    have d : decide ((n : Int) < 13) = true := decide_eq_true (by omega)
    simp only [q_F__law_some, q_F__law_some_s, E1, E2, E3, E4, E5, E6, E7, E8, E9, E10, E11, E12, E13, E14, E15, E16, E17, E18, E19, E20, E21, E22, E23, E24, E25, E26, E27, E28, E29, E30, E31, E32, E33, E34, E35, E36, E37, E38, E39, E40, E41, E42, E43, E44, E45, E46, E47, E48, Nat.reduceAdd, Nat.reduceSub, Nat.reduceLeDiff, Nat.reduceLT, Nat.reduceEqDiff, Int.reduceLT, Int.reduceLE, Int.reduceAdd, Int.reduceSub, Int.reduceMul, Int.reduceMod, Int.reduceDiv, Int.reduceNeg, Int.reduceToNat, Int.reducePow, Int.reduceEq, K1 hn, d]
  · refine ⟨[0, 1, n / 2, n - 2, n - 1], fun t ht => ?_, by simp, ?_⟩
    · simp only [List.mem_cons, List.mem_nil_iff, or_false] at ht
      omega
    · have d : decide ((n : Int) < 13) = false := decide_eq_false (by omega)
      have e1 : (n : Int) / 2 = ((n / 2 : Nat) : Int) := by omega
      have e2 : (n : Int) - 2 = ((n - 2 : Nat) : Int) := by omega
      have e3 : (n : Int) - 1 = ((n - 1 : Nat) : Int) := by omega
      simp only [q_F__law_some, q_F__law_some_s, E1, E2, E3, E4, E5, E6, E7, E8, E9, E10, E11, E12, E13, E14, E15, E16, E17, E18, E19, E20, E21, E22, E23, E24, E25, E26, E27, E28, E29, E30, E31, E32, E33, E34, E35, E36, E37, E38, E39, E40, E41, E42, E43, E44, E45, E46, E47, E48, Nat.reduceAdd, Nat.reduceSub, Nat.reduceLeDiff, Nat.reduceLT, Nat.reduceEqDiff, Int.reduceLT, Int.reduceLE, Int.reduceAdd, Int.reduceSub, Int.reduceMul, Int.reduceMod, Int.reduceDiv, Int.reduceNeg, Int.reduceToNat, Int.reducePow, Int.reduceEq, d, e1, e2, e3]
      rfl
end Dp
end
section
namespace K02
open PySem L2 Fo Pu Dp
noncomputable def L__law_thing_right_e1 : FE := (fCall F__law_whole (fCons (fV 0) fNil))
theorem q_L__law_thing_right_e1 {ρ : PSt} : L__law_thing_right_e1 ρ = (fCall F__law_whole (fCons (fV 0) fNil)) ρ := Eq.trans rfl rfl
noncomputable def L__law_thing_right_c2 : FB := (fT (fOp rIn (fV 1) (fV 0)))
theorem q_L__law_thing_right_c2 {ρ : PSt} : L__law_thing_right_c2 ρ = (fT (fOp rIn (fV 1) (fV 0))) ρ := Eq.trans rfl rfl
noncomputable def L__law_thing_right_e3 : FE := (fV 0)
theorem q_L__law_thing_right_e3 {ρ : PSt} : L__law_thing_right_e3 ρ = (fV 0) ρ := Eq.trans rfl rfl
noncomputable def L__law_thing_right_s : FS := (sSeq (sSet 4 (fCall F__law_way (fCons (fV 0) (fCons (fV 1) fNil))))
    (sSeq (sSet 5 (fLst (fCons (fCall F_head_of (fCons (fV 0) (fCons (fV 1) fNil))) (fCons (fCall F_depth_of (fCons (fV 0) (fCons (fV 1) fNil))) (fCons (fCall F_size_of (fCons (fV 0) (fCons (fV 1) fNil))) fNil)))))
    (sSeq (sIf (fOrB (fNotB (fT (fB kAll (fCons (fComp [none] (fIt (fV 5)) (gN 0) fYes L__law_thing_right_e1) fNil)))) (fT (fOp rNe (fV 5) (fLst (fCons (fOp rIx (fV 4) (fNeg (fC (.int 1)))) (fCons (fOp rSub (fB kLen (fCons (fV 4) fNil)) (fC (.int 1))) (fCons (fOp rIx (fV 2) (fV 1)) fNil))))))) (sRet (fC (.bl false))) sSkip)
    (sSeq (sIf (fOrB (fNotB (fT (fB kIs (fCons (fCall F_way_of (fCons (fV 0) (fCons (fV 1) fNil))) (fCons (fC (.ty "tuple")) fNil))))) (fT (fOp rNe (fCall F_way_of (fCons (fV 0) (fCons (fV 1) fNil))) (fB kTup (fCons (fV 4) fNil))))) (sRet (fC (.bl false))) sSkip)
    (sSeq (sSet 6 (fCall F_lot_of (fCons (fV 0) (fCons (fV 1) fNil))))
    (sRet (fAndV (fB kIs (fCons (fV 6) (fCons (fC (.ty "tuple")) fNil))) (fFr (fOp rEq (fLst (fCons (fV 6) fNil)) (fComp [none, some 1] (fIt (fV 3)) (gN 0) L__law_thing_right_c2 L__law_thing_right_e3))))))))))
theorem q_L__law_thing_right_s {ρ : PSt} : L__law_thing_right_s ρ = (sSeq (sSet 4 (fCall F__law_way (fCons (fV 0) (fCons (fV 1) fNil))))
    (sSeq (sSet 5 (fLst (fCons (fCall F_head_of (fCons (fV 0) (fCons (fV 1) fNil))) (fCons (fCall F_depth_of (fCons (fV 0) (fCons (fV 1) fNil))) (fCons (fCall F_size_of (fCons (fV 0) (fCons (fV 1) fNil))) fNil)))))
    (sSeq (sIf (fOrB (fNotB (fT (fB kAll (fCons (fComp [none] (fIt (fV 5)) (gN 0) fYes L__law_thing_right_e1) fNil)))) (fT (fOp rNe (fV 5) (fLst (fCons (fOp rIx (fV 4) (fNeg (fC (.int 1)))) (fCons (fOp rSub (fB kLen (fCons (fV 4) fNil)) (fC (.int 1))) (fCons (fOp rIx (fV 2) (fV 1)) fNil))))))) (sRet (fC (.bl false))) sSkip)
    (sSeq (sIf (fOrB (fNotB (fT (fB kIs (fCons (fCall F_way_of (fCons (fV 0) (fCons (fV 1) fNil))) (fCons (fC (.ty "tuple")) fNil))))) (fT (fOp rNe (fCall F_way_of (fCons (fV 0) (fCons (fV 1) fNil))) (fB kTup (fCons (fV 4) fNil))))) (sRet (fC (.bl false))) sSkip)
    (sSeq (sSet 6 (fCall F_lot_of (fCons (fV 0) (fCons (fV 1) fNil))))
    (sRet (fAndV (fB kIs (fCons (fV 6) (fCons (fC (.ty "tuple")) fNil))) (fFr (fOp rEq (fLst (fCons (fV 6) fNil)) (fComp [none, some 1] (fIt (fV 3)) (gN 0) L__law_thing_right_c2 L__law_thing_right_e3)))))))))) ρ := Eq.trans rfl rfl
noncomputable def L__law_thing_right : List PV → Option PR := run 4 7 L__law_thing_right_s
theorem q_L__law_thing_right {a0 a1 a2 a3 : PV} : L__law_thing_right [a0, a1, a2, a3] = (L__law_thing_right_s [some (.val a0), some (.val a1), some (.val a2), some (.val a3), none, none, none]).res := Eq.trans rfl rfl
noncomputable def L__law_right_e1 : FE := (fTup (fCons (fV 0) (fCons (fOp rIx (fV 1) (fV 0)) fNil)))
theorem q_L__law_right_e1 {ρ : PSt} : L__law_right_e1 ρ = (fTup (fCons (fV 0) (fCons (fOp rIx (fV 1) (fV 0)) fNil))) ρ := Eq.trans rfl rfl
noncomputable def L__law_right_e2 : FE := (fB kIs (fCons (fV 0) (fCons (fC (.ty "tuple")) fNil)))
theorem q_L__law_right_e2 {ρ : PSt} : L__law_right_e2 ρ = (fB kIs (fCons (fV 0) (fCons (fC (.ty "tuple")) fNil))) ρ := Eq.trans rfl rfl
noncomputable def L__law_right_e3 : FE := (fB kLen (fCons (fCall F__law_way (fCons (fV 1) (fCons (fV 0) fNil))) fNil))
theorem q_L__law_right_e3 {ρ : PSt} : L__law_right_e3 ρ = (fB kLen (fCons (fCall F__law_way (fCons (fV 1) (fCons (fV 0) fNil))) fNil)) ρ := Eq.trans rfl rfl
noncomputable def L__law_right_e4 : FE := (fCall L__law_thing_right (fCons (fV 1) (fCons (fV 0) (fCons (fV 2) (fCons (fV 3) fNil)))))
theorem q_L__law_right_e4 {ρ : PSt} : L__law_right_e4 ρ = (fCall L__law_thing_right (fCons (fV 1) (fCons (fV 0) (fCons (fV 2) (fCons (fV 3) fNil))))) ρ := Eq.trans rfl rfl
noncomputable def L__law_right_s : FS := (sSeq (sSet 1 (fCall F__law_sizes (fCons (fV 0) fNil)))
    (sSeq (sSet 2 (fCall F__law_lots_by (fCons (fB kLen (fCons (fV 0) fNil)) (fCons (fComp [none, some 0] (fRng rng1 (fCons (fB kLen (fCons (fV 0) fNil)) fNil)) (gN 0) fYes L__law_right_e1) fNil))))
    (sSeq (sOwn 3 (fCall F_lots_of (fCons (fV 0) fNil)))
    (sSeq (sIf (fOrB (fNotB (fT (fB kIs (fCons (fV 3) (fCons (fC (.ty "list")) fNil))))) (fOrB (fT (fOp rNe (fV 3) (fV 2))) (fNotB (fT (fB kAll (fCons (fComp [none] (fItT (fV 3)) (gN 0) fYes L__law_right_e2) fNil)))))) (sRet (fC (.bl false))) sSkip)
    (sSeq (sRev 3)
    (sSeq (sApp 3 (fCons (fTup fNil) fNil))
    (sSeq (sIf (fOrB (fT (fOp rNe (fCall F_lots_of (fCons (fV 0) fNil)) (fV 2))) (fT (fOp rNe (fCall F_height_of (fCons (fV 0) fNil)) (fOp rSub (fB kMaxL (fCons (fComp [none, some 0] (fRng rng1 (fCons (fB kLen (fCons (fV 0) fNil)) fNil)) (gN 0) fYes L__law_right_e3) fNil)) (fC (.int 1)))))) (sRet (fC (.bl false))) sSkip)
    (sRet (fB kAll (fCons (fComp [none, some 0, some 1, some 2] (fIt (fCall F__law_some (fCons (fB kLen (fCons (fV 0) fNil)) fNil))) (gN 0) fYes L__law_right_e4) fNil))))))))))
theorem q_L__law_right_s {ρ : PSt} : L__law_right_s ρ = (sSeq (sSet 1 (fCall F__law_sizes (fCons (fV 0) fNil)))
    (sSeq (sSet 2 (fCall F__law_lots_by (fCons (fB kLen (fCons (fV 0) fNil)) (fCons (fComp [none, some 0] (fRng rng1 (fCons (fB kLen (fCons (fV 0) fNil)) fNil)) (gN 0) fYes L__law_right_e1) fNil))))
    (sSeq (sOwn 3 (fCall F_lots_of (fCons (fV 0) fNil)))
    (sSeq (sIf (fOrB (fNotB (fT (fB kIs (fCons (fV 3) (fCons (fC (.ty "list")) fNil))))) (fOrB (fT (fOp rNe (fV 3) (fV 2))) (fNotB (fT (fB kAll (fCons (fComp [none] (fItT (fV 3)) (gN 0) fYes L__law_right_e2) fNil)))))) (sRet (fC (.bl false))) sSkip)
    (sSeq (sRev 3)
    (sSeq (sApp 3 (fCons (fTup fNil) fNil))
    (sSeq (sIf (fOrB (fT (fOp rNe (fCall F_lots_of (fCons (fV 0) fNil)) (fV 2))) (fT (fOp rNe (fCall F_height_of (fCons (fV 0) fNil)) (fOp rSub (fB kMaxL (fCons (fComp [none, some 0] (fRng rng1 (fCons (fB kLen (fCons (fV 0) fNil)) fNil)) (gN 0) fYes L__law_right_e3) fNil)) (fC (.int 1)))))) (sRet (fC (.bl false))) sSkip)
    (sRet (fB kAll (fCons (fComp [none, some 0, some 1, some 2] (fIt (fCall F__law_some (fCons (fB kLen (fCons (fV 0) fNil)) fNil))) (gN 0) fYes L__law_right_e4) fNil)))))))))) ρ := Eq.trans rfl rfl
noncomputable def L__law_right : List PV → Option PR := run 1 4 L__law_right_s
theorem q_L__law_right {a0 : PV} : L__law_right [a0] = (L__law_right_s [some (.val a0), none, none, none]).res := Eq.trans rfl rfl
noncomputable def L_law_e1 : FE := (fB kMax2 (fCons (fC (.int 0)) (fCons (fOp rSub (fV 0) (fC (.int 1))) fNil)))
theorem q_L_law_e1 {ρ : PSt} : L_law_e1 ρ = (fB kMax2 (fCons (fC (.int 0)) (fCons (fOp rSub (fV 0) (fC (.int 1))) fNil))) ρ := Eq.trans rfl rfl
noncomputable def L_law_e2 : FE := (fB kMin2 (fCons (fC (.int 39)) (fCons (fOp rAdd (fV 0) (fC (.int 1))) fNil)))
theorem q_L_law_e2 {ρ : PSt} : L_law_e2 ρ = (fB kMin2 (fCons (fC (.int 39)) (fCons (fOp rAdd (fV 0) (fC (.int 1))) fNil))) ρ := Eq.trans rfl rfl
noncomputable def L_law_b3 : FS := (sSeq (sSet 4 (fCall F__law_numbers (fCons (fV 3) (fCons (fC (.int 50)) fNil))))
    (sApp 2 (fCons (fCall F__law_forest (fCons (fV 4) (fCons (fCall F__law_many (fCons (fOp rIx (fV 4) (fC (.int 49))) fNil)) fNil))) fNil)))
theorem q_L_law_b3 {ρ : PSt} : L_law_b3 ρ = (sSeq (sSet 4 (fCall F__law_numbers (fCons (fV 3) (fCons (fC (.int 50)) fNil))))
    (sApp 2 (fCons (fCall F__law_forest (fCons (fV 4) (fCons (fCall F__law_many (fCons (fOp rIx (fV 4) (fC (.int 49))) fNil)) fNil))) fNil))) ρ := Eq.trans rfl rfl
noncomputable def L_law_e4 : FE := (fCall L__law_right (fCons (fV 0) fNil))
theorem q_L_law_e4 {ρ : PSt} : L_law_e4 ρ = (fCall L__law_right (fCons (fV 0) fNil)) ρ := Eq.trans rfl rfl
noncomputable def L_law_s : FS := (sSeq (sSet 1 (fB kTup (fCons (fComp [none] (fRng rng1 (fCons (fC (.int 40)) fNil)) (gN 0) fYes L_law_e1) fNil)))
    (sSeq (sOwn 2 (fLst (fCons (fV 1) (fCons (fB kTup (fCons (fComp [none] (fRng rng1 (fCons (fC (.int 40)) fNil)) (gN 0) fYes L_law_e2) fNil)) fNil))))
    (sSeq (sFor (fIt (fOp rAdd (fLst (fCons (fCall F__law_cell (fCons (fV 0) (fCons (fC (.int 0)) fNil))) fNil)) (fSl (fV 0) (fPt (fC (.int 1))) (fPt (fC (.int 6)))))) (gN 3) L_law_b3)
    (sRet (fB kAll (fCons (fComp [none] (fIt (fOp rAdd (fV 2) (fSl (fV 2) (fPt (fC (.int 2))) (fPt (fC (.int 4)))))) (gN 0) fYes L_law_e4) fNil))))))
theorem q_L_law_s {ρ : PSt} : L_law_s ρ = (sSeq (sSet 1 (fB kTup (fCons (fComp [none] (fRng rng1 (fCons (fC (.int 40)) fNil)) (gN 0) fYes L_law_e1) fNil)))
    (sSeq (sOwn 2 (fLst (fCons (fV 1) (fCons (fB kTup (fCons (fComp [none] (fRng rng1 (fCons (fC (.int 40)) fNil)) (gN 0) fYes L_law_e2) fNil)) fNil))))
    (sSeq (sFor (fIt (fOp rAdd (fLst (fCons (fCall F__law_cell (fCons (fV 0) (fCons (fC (.int 0)) fNil))) fNil)) (fSl (fV 0) (fPt (fC (.int 1))) (fPt (fC (.int 6)))))) (gN 3) L_law_b3)
    (sRet (fB kAll (fCons (fComp [none] (fIt (fOp rAdd (fV 2) (fSl (fV 2) (fPt (fC (.int 2))) (fPt (fC (.int 4)))))) (gN 0) fYes L_law_e4) fNil)))))) ρ := Eq.trans rfl rfl
noncomputable def L_law : List PV → Option PR := run 1 5 L_law_s
theorem q_L_law {a0 : PV} : L_law [a0] = (L_law_s [some (.val a0), none, none, none, none]).res := Eq.trans rfl rfl
end K02
end
section
namespace K02
open PySem L2 Fo Pu Dp Lo Pt
theorem th_pick {n : Nat} {c : Nat → Nat} {x : Nat} (hx : x < n) : goF (gN 0) L__law_thing_right_c2 L__law_thing_right_e3 [none, some (.val (.int x))] (tupsV (lotsC n c)) = some [.tup (nums (cl n c x))] := by
  have e := go_filter (t := gN 0) (c := L__law_thing_right_c2) (f := L__law_thing_right_e3) (ρ := [none, some (.val (.int x))]) (fun p => match p with | .tup q => pin (.int x) q | _ => false) id (its := tupsV (lotsC n c)) (fun p hp => by
    obtain ⟨l, hl, rfl⟩ := List.mem_map.mp hp
    refine ⟨_, rfl, ?_, fun _ => ?_⟩
    · simp only [q_L__law_thing_right_c2, E1, E2, E3, E4, E5, E6, E7, E8, E9, E10, E11, E12, E13, E14, E15, E16, E17, E18, E19, E20, E21, E22, E23, E24, E25, E26, E27, E28, E29, E30, E31, E32, E33, E34, E35, E36, E37, E38, E39, E40, E41, E42, E43, E44, E45, E46, E47, E48, Nat.reduceAdd, Nat.reduceSub, Nat.reduceLeDiff, Nat.reduceLT, Nat.reduceEqDiff, Int.reduceLT, Int.reduceLE, Int.reduceAdd, Int.reduceSub, Int.reduceMul, Int.reduceMod, Int.reduceDiv, Int.reduceNeg, Int.reduceToNat, Int.reducePow, Int.reduceEq, plains_nums, deps_nums]
    · simp only [q_L__law_thing_right_e3, E1, E2, E3, E4, E5, E6, E7, E8, E9, E10, E11, E12, E13, E14, E15, E16, E17, E18, E19, E20, E21, E22, E23, E24, E25, E26, E27, E28, E29, E30, E31, E32, E33, E34, E35, E36, E37, E38, E39, E40, E41, E42, E43, E44, E45, E46, E47, E48, Nat.reduceAdd, Nat.reduceSub, Nat.reduceLeDiff, Nat.reduceLT, Nat.reduceEqDiff, Int.reduceLT, Int.reduceLE, Int.reduceAdd, Int.reduceSub, Int.reduceMul, Int.reduceMod, Int.reduceDiv, Int.reduceNeg, Int.reduceToNat, Int.reducePow, Int.reduceEq, id])
  rw [e]
  unfold tupsV
  have q : ((fun p => match p with | .tup q => pin (.int x) q | _ => false) ∘ fun l => PV.tup (nums l)) = fun l => decide (x ∈ l) := funext fun l => pin_nums x l
  rw [List.filter_map, List.map_id, q, lots_pick hx]
  rfl
theorem t_thing {us : List Nat} (f : Frst us) {x : Nat} (hx : x < us.length) : L__law_thing_right [.tup (nums us), .int x, .lst (nums (sz us)), .lst (tupsV (lotsC us.length (hd us)))] = some (.v (.bl true)) := by
  have hm := f.most
  have hp := (way_ok f.fst hx).pos
  have e0 : ((way us x).length : Int) - 1 = (dp us x : Nat) := by unfold dp; omega
  have e1 : ∀ a b c : Int, goF (gN 0) fYes L__law_thing_right_e1 [none] [.int a, .int b, .int c] = some [.bl true, .bl true, .bl true] := fun a b c => go_map (fun _ => .bl true) (its := [.int a, .int b, .int c]) fun p hp => by
    obtain ⟨i, rfl⟩ : ∃ i, p = .int i := by
      simp only [List.mem_cons, List.mem_nil_iff, or_false] at hp
      rcases hp with rfl | rfl | rfl <;> exact ⟨_, rfl⟩
    simp only [q_L__law_thing_right_e1, E1, E2, E3, E4, E5, E6, E7, E8, E9, E10, E11, E12, E13, E14, E15, E16, E17, E18, E19, E20, E21, E22, E23, E24, E25, E26, E27, E28, E29, E30, E31, E32, E33, E34, E35, E36, E37, E38, E39, E40, E41, E42, E43, E44, E45, E46, E47, E48, Nat.reduceAdd, Nat.reduceSub, Nat.reduceLeDiff, Nat.reduceLT, Nat.reduceEqDiff, Int.reduceLT, Int.reduceLE, Int.reduceAdd, Int.reduceSub, Int.reduceMul, Int.reduceMod, Int.reduceDiv, Int.reduceNeg, Int.reduceToNat, Int.reducePow, Int.reduceEq, t_lwhole]
  have b3 : bls [PV.bl true, .bl true, .bl true] = some [true, true, true] := rfl
  have b4 : [true, true, true].all id = true := rfl
  have e2 : ∀ a b c : Int, rNe (.lst [.int a, .int b, .int c]) (.lst [.int a, .int b, .int c]) = some (.fz (.bl false)) := fun a b c => (eq_lst (by simp [plains, Pu.plain]) (by simp [deps, dep])).2
  have e3 : ∀ l, rEq (.lst [.tup (nums l)]) (.lst [.tup (nums l)]) = some (.fz (.bl true)) := fun l => (eq_lst (plains_tupsV [l]) (by have := deps_tupsV [l]; show deps (tupsV [l]) ≤ 40; omega)).1
  have hl := lotsC_len us.length (hd us)
  have h1 : (tupsV (lotsC us.length (hd us))).length < 1000 := by rw [tupsV_len]; omega
  simp only [q_L__law_thing_right, q_L__law_thing_right_s, E1, E2, E3, E4, E5, E6, E7, E8, E9, E10, E11, E12, E13, E14, E15, E16, E17, E18, E19, E20, E21, E22, E23, E24, E25, E26, E27, E28, E29, E30, E31, E32, E33, E34, E35, E36, E37, E38, E39, E40, E41, E42, E43, E44, E45, E46, E47, E48, Nat.reduceAdd, Nat.reduceSub, Nat.reduceLeDiff, Nat.reduceLT, Nat.reduceEqDiff, Int.reduceLT, Int.reduceLE, Int.reduceAdd, Int.reduceSub, Int.reduceMul, Int.reduceMod, Int.reduceDiv, Int.reduceNeg, Int.reduceToNat, Int.reducePow, Int.reduceEq, t_lway (.inl rfl) f hx, t_head_of f hx, t_depth f hx, t_size_of f hx, e1, b3, b4, atI_hd f hx, e0, atI_nums (show x < (sz us).length by rw [sz_len]; exact hx), e2, t_way_of f hx, (eq_nums _).2, peqs_self (plains_nums _), t_lot_of f hx, h1, th_pick hx, e3]
theorem t_right {us : List Nat} (f : Frst us) : L__law_right [.tup (nums us)] = some (.v (.bl true)) := by
  have hm := f.most
  have h1 := f.one
  have hn : us.length < 1000 := by omega
  have e1 : goF (gN 0) fYes L__law_right_e1 [none, some (.val (.tup (nums us)))] (nums (List.range us.length)) = some (prsV ((List.range us.length).map fun x => (x, up us x))) := by
    rw [go_nums (fun u => PV.tup [.int u, .int (up us u : Nat)]) fun u hu => by simp only [q_L__law_right_e1, E1, E2, E3, E4, E5, E6, E7, E8, E9, E10, E11, E12, E13, E14, E15, E16, E17, E18, E19, E20, E21, E22, E23, E24, E25, E26, E27, E28, E29, E30, E31, E32, E33, E34, E35, E36, E37, E38, E39, E40, E41, E42, E43, E44, E45, E46, E47, E48, Nat.reduceAdd, Nat.reduceSub, Nat.reduceLeDiff, Nat.reduceLT, Nat.reduceEqDiff, Int.reduceLT, Int.reduceLE, Int.reduceAdd, Int.reduceSub, Int.reduceMul, Int.reduceMod, Int.reduceDiv, Int.reduceNeg, Int.reduceToNat, Int.reducePow, Int.reduceEq, atI_nums (List.mem_range.mp hu)]]
    unfold prsV; rw [List.map_map]; rfl
  have e2 : goF (gN 0) fYes L__law_right_e2 [none] (tupsV (lotsC us.length (hd us))) = some ((tupsV (lotsC us.length (hd us))).map fun _ => PV.bl true) := go_map _ fun p hp => by
    obtain ⟨l, hl, rfl⟩ := List.mem_map.mp hp
    simp only [q_L__law_right_e2, E1, E2, E3, E4, E5, E6, E7, E8, E9, E10, E11, E12, E13, E14, E15, E16, E17, E18, E19, E20, E21, E22, E23, E24, E25, E26, E27, E28, E29, E30, E31, E32, E33, E34, E35, E36, E37, E38, E39, E40, E41, E42, E43, E44, E45, E46, E47, E48, Nat.reduceAdd, Nat.reduceSub, Nat.reduceLeDiff, Nat.reduceLT, Nat.reduceEqDiff, Int.reduceLT, Int.reduceLE, Int.reduceAdd, Int.reduceSub, Int.reduceMul, Int.reduceMod, Int.reduceDiv, Int.reduceNeg, Int.reduceToNat, Int.reducePow, Int.reduceEq]
  have e3 : goF (gN 0) fYes L__law_right_e3 [none, some (.val (.tup (nums us)))] (nums (List.range us.length)) = some ((List.range us.length).map fun x => .int ((way us x).length : Nat)) := go_nums _ fun x hx => by
    simp only [q_L__law_right_e3, E1, E2, E3, E4, E5, E6, E7, E8, E9, E10, E11, E12, E13, E14, E15, E16, E17, E18, E19, E20, E21, E22, E23, E24, E25, E26, E27, E28, E29, E30, E31, E32, E33, E34, E35, E36, E37, E38, E39, E40, E41, E42, E43, E44, E45, E46, E47, E48, Nat.reduceAdd, Nat.reduceSub, Nat.reduceLeDiff, Nat.reduceLT, Nat.reduceEqDiff, Int.reduceLT, Int.reduceLE, Int.reduceAdd, Int.reduceSub, Int.reduceMul, Int.reduceMod, Int.reduceDiv, Int.reduceNeg, Int.reduceToNat, Int.reducePow, Int.reduceEq, t_lway (.inl rfl) f (List.mem_range.mp hx)]
  obtain ⟨ts, hts, tl, es⟩ := t_lsome h1 (show us.length ≤ 100000 by omega)
  have e4 : goF (gN 0) fYes L__law_right_e4 [none, some (.val (.tup (nums us))), some (.val (.lst (nums (sz us)))), some (.val (.lst (tupsV (lotsC us.length (hd us)))))] (nums ts) = some (ts.map fun _ => PV.bl true) := go_nums _ fun x hx => by
    simp only [q_L__law_right_e4, E1, E2, E3, E4, E5, E6, E7, E8, E9, E10, E11, E12, E13, E14, E15, E16, E17, E18, E19, E20, E21, E22, E23, E24, E25, E26, E27, E28, E29, E30, E31, E32, E33, E34, E35, E36, E37, E38, E39, E40, E41, E42, E43, E44, E45, E46, E47, E48, Nat.reduceAdd, Nat.reduceSub, Nat.reduceLeDiff, Nat.reduceLT, Nat.reduceEqDiff, Int.reduceLT, Int.reduceLE, Int.reduceAdd, Int.reduceSub, Int.reduceMul, Int.reduceMod, Int.reduceDiv, Int.reduceNeg, Int.reduceToNat, Int.reducePow, Int.reduceEq, t_thing f (hts x hx)]
  obtain ⟨h, g, eh⟩ := t_height f
  have ei : intsOf ((List.range us.length).map fun x => PV.int ((way us x).length : Nat)) = some ((List.range us.length).map fun x => (((way us x).length : Nat) : Int)) := by
    have := intsOf_map ((List.range us.length).map fun x => (((way us x).length : Nat) : Int))
    rwa [List.map_map] at this
  have em : maxI ((List.range us.length).map fun x => (((way us x).length : Nat) : Int)) = (h : Int) + 1 := by
    obtain ⟨m1, m2⟩ := maxI_ok (l := (List.range us.length).map fun x => (((way us x).length : Nat) : Int)) (by rw [List.length_map, List.length_range]; omega)
    obtain ⟨x, hx, ex⟩ := List.mem_map.mp m1
    obtain ⟨y, hy, ey⟩ := g.one
    have a1 := g.all x (List.mem_range.mp hx)
    have a2 := m2 _ (List.mem_map.mpr ⟨y, List.mem_range.mpr hy, rfl⟩)
    have p1 := (way_ok f.fst (List.mem_range.mp hx)).pos
    have p2 := (way_ok f.fst hy).pos
    unfold dp at a1 ey
    omega
  have hl := lotsC_len us.length (hd us)
  have l1 : (tupsV (lotsC us.length (hd us))).length < 1000 := by rw [tupsV_len]; omega
  have dd : decide (deps (tupsV (lotsC us.length (hd us))) ≤ 49) = true := decide_eq_true (by have := deps_tupsV (lotsC us.length (hd us)); omega)
  have l2 : (tupsV (lotsC us.length (hd us))).reverse.length ≤ 100000 := by rw [List.length_reverse, tupsV_len]; omega
  have l3 : ts.length < 1000 := by omega
  have z' : ¬ us.length = 0 := by omega
  have hh : (h : Int) + 1 - 1 = (h : Int) := by omega
  have dh : decide ((h : Int) = (h : Int)) = true := decide_eq_true rfl
  simp only [q_L__law_right, q_L__law_right_s, E1, E2, E3, E4, E5, E6, E7, E8, E9, E10, E11, E12, E13, E14, E15, E16, E17, E18, E19, E20, E21, E22, E23, E24, E25, E26, E27, E28, E29, E30, E31, E32, E33, E34, E35, E36, E37, E38, E39, E40, E41, E42, E43, E44, E45, E46, E47, E48, Nat.reduceAdd, Nat.reduceSub, Nat.reduceLeDiff, Nat.reduceLT, Nat.reduceEqDiff, Int.reduceLT, Int.reduceLE, Int.reduceAdd, Int.reduceSub, Int.reduceMul, Int.reduceMod, Int.reduceDiv, Int.reduceNeg, Int.reduceToNat, Int.reducePow, Int.reduceEq, t_lsizes f, K1 (show us.length ≤ 100000 by omega), List.length_range, hn, e1, t_lots_up f, t_lots_of' f, Dp.x_itT, x_lstOf, l1, e2, plains_tupsV, dd, peqs_self (plains_tupsV _), bls_t, all_t, x_rvs, x_rvs_s, l2, eh, e3, ei, em, z', List.length_map, hh, dh, es, l3, e4]
theorem cut_map {α β : Type} (f : α → β) (l : List α) (a b : Option Int) : cut (l.map f) a b = (cut l a b).map f := by
  unfold cut
  simp only [List.length_map, List.map_take, List.map_drop]
theorem cut_sub {α : Type} {l : List α} {a b : Option Int} {x : α} (h : x ∈ cut l a b) : x ∈ l := List.drop_subset _ _ (List.take_subset _ _ h)
theorem cut_len {α : Type} (l : List α) (a b : Option Int) : (cut l a b).length ≤ l.length := by
  unfold cut
  rw [List.length_take, List.length_drop]
  omega
theorem cell_loop {s0 s1 : Option Sl} : ∀ (cs : List Int) (fs : List (List Nat)) (z3 z4 : Option Sl), (∀ us ∈ fs, Frst us) → fs.length + cs.length ≤ 1000 → ∃ fs' z3' z4', (∀ us ∈ fs', Frst us) ∧ fs'.length ≤ fs.length + cs.length ∧
    loopF (gN 3) L_law_b3 (cs.map PV.int) [s0, s1, some (.own (tupsV fs)), z3, z4] = .nx [s0, s1, some (.own (tupsV fs')), z3', z4']
  | [], fs, z3, z4, h, hl => ⟨fs, z3, z4, h, Nat.le_refl _, rfl⟩
  | c :: cs, fs, z3, z4, h, hl => by
    rw [List.length_cons] at hl
    obtain ⟨xs, hx, ex⟩ := t_numbers c 50 (by decide) (by decide)
    have hx : xs.length = 50 := hx
    have i49 : L2.atI (nums xs) 49 = some (.int (up xs 49 : Nat)) := atI_nums (x := 49) (by omega)
    obtain ⟨n, n1, n2, en⟩ := t_lmany (up xs 49)
    obtain ⟨us, f, hu, ef⟩ := t_lforest (xs := xs) (n := n) (by omega) n1 n2
    obtain ⟨fs', z3', z4', q1, q2, e⟩ := cell_loop cs (fs ++ [us]) (s0 := s0) (s1 := s1) (some (.val (.int c))) (some (.val (.lst (nums xs)))) (fun vs hv => by
      rcases List.mem_append.mp hv with hv | hv
      · exact h vs hv
      · rw [List.mem_singleton.mp hv]; exact f) (by rw [List.length_append, List.length_singleton]; omega)
    rw [List.length_append, List.length_singleton] at q2
    refine ⟨fs', z3', z4', q1, by rw [List.length_cons]; omega, ?_⟩
    have l1 : (tupsV fs).length ≤ 100000 := by rw [tupsV_len]; omega
    have ea : tupsV fs ++ [.tup (nums us)] = tupsV (fs ++ [us]) := by unfold tupsV; rw [List.map_append]; rfl
    rw [List.map_cons, loop_S, ← e]
    simp only [q_L_law_b3, E1, E2, E3, E4, E5, E6, E7, E8, E9, E10, E11, E12, E13, E14, E15, E16, E17, E18, E19, E20, E21, E22, E23, E24, E25, E26, E27, E28, E29, E30, E31, E32, E33, E34, E35, E36, E37, E38, E39, E40, E41, E42, E43, E44, E45, E46, E47, E48, Nat.reduceAdd, Nat.reduceSub, Nat.reduceLeDiff, Nat.reduceLT, Nat.reduceEqDiff, Int.reduceLT, Int.reduceLE, Int.reduceAdd, Int.reduceSub, Int.reduceMul, Int.reduceMod, Int.reduceDiv, Int.reduceNeg, Int.reduceToNat, Int.reducePow, Int.reduceEq, ex, i49, en, ef, l1, ea]
noncomputable def lad : List Nat := (List.range 40).map (· - 1)
theorem lad_frst : Frst lad := isF_ok (by decide +kernel)
noncomputable def lad2 : List Nat := (List.range 40).map fun k => min 39 (k + 1)
theorem lad2_frst : Frst lad2 := isF_ok (by decide +kernel)
theorem law_true : ∀ ns : List Int, ns.length ≤ 63 → run 1 5 L_law_s [.src (ns.map PV.int)] = some (.v (.bl true)) := fun ns hn => by
  have r40 : rng1 [.int 40] = some (nums (List.range 40)) := (K1 (n := 40) (by decide)).1
  have e1 : goF (gN 0) fYes L_law_e1 [none] (nums (List.range 40)) = some (nums lad) := by
    unfold lad
    rw [← map_int]
    exact go_nums _ fun k hk => by
      have em : (if (0 : Int) < (k : Int) - 1 then (k : Int) - 1 else 0) = ((k - 1 : Nat) : Int) := by split <;> omega
      simp only [q_L_law_e1, E1, E2, E3, E4, E5, E6, E7, E8, E9, E10, E11, E12, E13, E14, E15, E16, E17, E18, E19, E20, E21, E22, E23, E24, E25, E26, E27, E28, E29, E30, E31, E32, E33, E34, E35, E36, E37, E38, E39, E40, E41, E42, E43, E44, E45, E46, E47, E48, Nat.reduceAdd, Nat.reduceSub, Nat.reduceLeDiff, Nat.reduceLT, Nat.reduceEqDiff, Int.reduceLT, Int.reduceLE, Int.reduceAdd, Int.reduceSub, Int.reduceMul, Int.reduceMod, Int.reduceDiv, Int.reduceNeg, Int.reduceToNat, Int.reducePow, Int.reduceEq, em]
  have e2 : goF (gN 0) fYes L_law_e2 [none] (nums (List.range 40)) = some (nums lad2) := by
    unfold lad2
    rw [← map_int]
    exact go_nums _ fun k hk => by
      have em : (if (k : Int) + 1 < 39 then (k : Int) + 1 else 39) = ((min 39 (k + 1) : Nat) : Int) := by split <;> omega
      simp only [q_L_law_e2, E1, E2, E3, E4, E5, E6, E7, E8, E9, E10, E11, E12, E13, E14, E15, E16, E17, E18, E19, E20, E21, E22, E23, E24, E25, E26, E27, E28, E29, E30, E31, E32, E33, E34, E35, E36, E37, E38, E39, E40, E41, E42, E43, E44, E45, E46, E47, E48, Nat.reduceAdd, Nat.reduceSub, Nat.reduceLeDiff, Nat.reduceLT, Nat.reduceEqDiff, Int.reduceLT, Int.reduceLE, Int.reduceAdd, Int.reduceSub, Int.reduceMul, Int.reduceMod, Int.reduceDiv, Int.reduceNeg, Int.reduceToNat, Int.reducePow, Int.reduceEq, em]
  obtain ⟨c, ec⟩ := t_cell ns 0 (by decide) (by decide)
  have ec : F__law_cell [.src (ns.map PV.int), .int 0] = some (.v (.int c)) := ec
  have l6 := cut_len ns (some 1) (some 6)
  obtain ⟨fs, z3, z4, q1, q2, e3⟩ := cell_loop (s0 := some (.val (.src (ns.map PV.int)))) (s1 := some (.val (.tup (nums lad)))) (c :: cut ns (some 1) (some 6)) [lad, lad2] none none (fun us hu => by
    simp only [List.mem_cons, List.mem_nil_iff, or_false] at hu
    rcases hu with rfl | rfl
    · exact lad_frst
    · exact lad2_frst) (by simp only [List.length_cons, List.length_nil]; omega)
  simp only [List.length_cons, List.length_nil] at q2
  have e3 : loopF (gN 3) L_law_b3 (.int c :: cut (ns.map PV.int) (some 1) (some 6)) [some (.val (.src (ns.map PV.int))), some (.val (.tup (nums lad))), some (.own [.tup (nums lad), .tup (nums lad2)]), none, none] = .nx [some (.val (.src (ns.map PV.int))), some (.val (.tup (nums lad))), some (.own (tupsV fs)), z3, z4] := by
    rw [cut_map]; exact e3
  have l7 : (cut (ns.map PV.int) (some 1) (some 6)).length ≤ 63 := by
    have := cut_len (ns.map PV.int) (some 1) (some 6)
    rw [List.length_map] at this
    omega
  have l8 : 1 + (cut (ns.map PV.int) (some 1) (some 6)).length ≤ 100000 := by omega
  have l9 := cut_len fs (some 2) (some 4)
  have ea : tupsV fs ++ cut (tupsV fs) (some 2) (some 4) = tupsV (fs ++ cut fs (some 2) (some 4)) := by unfold tupsV; rw [cut_map, List.map_append]
  have la : (tupsV fs).length + (cut (tupsV fs) (some 2) (some 4)).length ≤ 100000 := by
    have := cut_len (tupsV fs) (some 2) (some 4)
    rw [tupsV_len] at *
    omega
  have lb : (tupsV (fs ++ cut fs (some 2) (some 4))).length < 1000 := by rw [tupsV_len, List.length_append]; omega
  have e4 : goF (gN 0) fYes L_law_e4 [none] (tupsV (fs ++ cut fs (some 2) (some 4))) = some ((tupsV (fs ++ cut fs (some 2) (some 4))).map fun _ => PV.bl true) := go_map _ fun p hp => by
    obtain ⟨us, hu, rfl⟩ := List.mem_map.mp hp
    have f : Frst us := by
      rcases List.mem_append.mp hu with hu | hu
      · exact q1 us hu
      · exact q1 us (cut_sub hu)
    simp only [q_L_law_e4, E1, E2, E3, E4, E5, E6, E7, E8, E9, E10, E11, E12, E13, E14, E15, E16, E17, E18, E19, E20, E21, E22, E23, E24, E25, E26, E27, E28, E29, E30, E31, E32, E33, E34, E35, E36, E37, E38, E39, E40, E41, E42, E43, E44, E45, E46, E47, E48, Nat.reduceAdd, Nat.reduceSub, Nat.reduceLeDiff, Nat.reduceLT, Nat.reduceEqDiff, Int.reduceLT, Int.reduceLE, Int.reduceAdd, Int.reduceSub, Int.reduceMul, Int.reduceMod, Int.reduceDiv, Int.reduceNeg, Int.reduceToNat, Int.reducePow, Int.reduceEq, t_right f]
  show L_law [.src (ns.map PV.int)] = _
  simp only [q_L_law, q_L_law_s, E1, E2, E3, E4, E5, E6, E7, E8, E9, E10, E11, E12, E13, E14, E15, E16, E17, E18, E19, E20, E21, E22, E23, E24, E25, E26, E27, E28, E29, E30, E31, E32, E33, E34, E35, E36, E37, E38, E39, E40, E41, E42, E43, E44, E45, E46, E47, E48, Nat.reduceAdd, Nat.reduceSub, Nat.reduceLeDiff, Nat.reduceLT, Nat.reduceEqDiff, Int.reduceLT, Int.reduceLE, Int.reduceAdd, Int.reduceSub, Int.reduceMul, Int.reduceMod, Int.reduceDiv, Int.reduceNeg, Int.reduceToNat, Int.reducePow, Int.reduceEq, r40, List.length_range, e1, e2, ec, l8, e3, la, ea, lb, e4, bls_t, all_t]
end K02
end
section
namespace K02
open PySem L2 Fo Pu Dp
noncomputable def top (i : Nat) : Stmt := (PySem.Challenge.pw_lotheads_k02_ways_heads_and_lots.main.body)[i]?.getD (.Pass ⟨0, 0, 0, 0⟩)
structure Txt (mg : Str → Option Value) : Prop where
  n_abs : mg "abs" = none
  n_all : mg "all" = none
  n_bool : mg "bool" = none
  n_int : mg "int" = none
  n_isinstance : mg "isinstance" = none
  n_len : mg "len" = none
  n_list : mg "list" = none
  n_max : mg "max" = none
  n_min : mg "min" = none
  n_range : mg "range" = none
  n_sorted : mg "sorted" = none
  n_tuple : mg "tuple" = none
  c_MOST_THINGS : ∃ t, mg "MOST_THINGS" = some (.int 40 t)
noncomputable abbrev s__law_numbers : Stmt := top 27
theorem sc__law_numbers : FnScope ["_law_cell_here", "_law_many_here", "_law_some_here", "_law_state", "_law_digits", "_law_k"] ["_law_cell_here", "_law_many_here"] (defScope s__law_numbers) := ⟨rfl, rfl, rfl, by decide +kernel, rfl, by decide +kernel, by decide +kernel⟩
noncomputable abbrev s__law_cell : Stmt := top 26
theorem sc__law_cell : FnScope ["_law_script", "_law_k", "_law_state", "_law_cell_here"] ["_law_script", "_law_k"] (defScope s__law_cell) := ⟨rfl, rfl, rfl, by decide +kernel, rfl, by decide +kernel, by decide +kernel⟩
noncomputable abbrev s__law_forest : Stmt := top 29
theorem sc__law_forest : FnScope ["_law_xs", "_law_many_here", "_law_order", "_law_places", "_law_ups", "_law_kind", "_law_k", "_law_at"] ["_law_xs", "_law_many_here"] (defScope s__law_forest) := ⟨rfl, rfl, rfl, by decide +kernel, rfl, by decide +kernel, by decide +kernel⟩
noncomputable abbrev s__law_way : Stmt := top 30
theorem sc__law_way : FnScope ["_law_ups", "_law_x", "_law_way_here"] ["_law_ups", "_law_x"] (defScope s__law_way) := ⟨rfl, rfl, rfl, by decide +kernel, rfl, by decide +kernel, by decide +kernel⟩
noncomputable abbrev s__law_sizes : Stmt := top 32
theorem sc__law_sizes : FnScope ["_law_ups", "_law_sizes_here", "_law_x", "_law_thing"] ["_law_ups"] (defScope s__law_sizes) := ⟨rfl, rfl, rfl, by decide +kernel, rfl, by decide +kernel, by decide +kernel⟩
noncomputable abbrev s__law_lots_by : Stmt := top 33
theorem sc__law_lots_by : FnScope ["_law_many_here", "_law_pairs", "_law_lots", "_law_x", "_law_y", "_law_one", "_law_other"] ["_law_many_here", "_law_pairs"] (defScope s__law_lots_by) := ⟨rfl, rfl, rfl, by decide +kernel, rfl, by decide +kernel, by decide +kernel⟩
noncomputable abbrev s_is_whole : Stmt := top 6
theorem sc_is_whole : FnScope ["thing"] ["thing"] (defScope s_is_whole) := ⟨rfl, rfl, rfl, by decide +kernel, rfl, by decide +kernel, by decide +kernel⟩
noncomputable abbrev s_is_many : Stmt := top 7
theorem sc_is_many : FnScope ["thing"] ["thing"] (defScope s_is_many) := ⟨rfl, rfl, rfl, by decide +kernel, rfl, by decide +kernel, by decide +kernel⟩
noncomputable abbrev s_leads_to_head : Stmt := top 9
theorem sc_leads_to_head : FnScope ["ups", "x", "at", "step"] ["ups", "x"] (defScope s_leads_to_head) := ⟨rfl, rfl, rfl, by decide +kernel, rfl, by decide +kernel, by decide +kernel⟩
noncomputable abbrev s_is_thing : Stmt := top 8
theorem sc_is_thing : FnScope ["many", "thing"] ["many", "thing"] (defScope s_is_thing) := ⟨rfl, rfl, rfl, by decide +kernel, rfl, by decide +kernel, by decide +kernel⟩
noncomputable abbrev s_is_forest : Stmt := top 10
theorem sc_is_forest : FnScope ["thing", "many"] ["thing"] (defScope s_is_forest) := ⟨rfl, rfl, rfl, by decide +kernel, rfl, by decide +kernel, by decide +kernel⟩
noncomputable abbrev s_check_forest : Stmt := top 11
theorem sc_check_forest : FnScope ["ups"] ["ups"] (defScope s_check_forest) := ⟨rfl, rfl, rfl, by decide +kernel, rfl, by decide +kernel, by decide +kernel⟩
noncomputable abbrev s_way_up : Stmt := top 14
theorem sc_way_up : FnScope ["ups", "x", "way"] ["ups", "x"] (defScope s_way_up) := ⟨rfl, rfl, rfl, by decide +kernel, rfl, by decide +kernel, by decide +kernel⟩
noncomputable abbrev s_lots_in : Stmt := top 16
theorem sc_lots_in : FnScope ["ups", "lots", "x", "head"] ["ups"] (defScope s_lots_in) := ⟨rfl, rfl, rfl, by decide +kernel, rfl, by decide +kernel, by decide +kernel⟩
noncomputable abbrev s_lots_of : Stmt := top 23
theorem sc_lots_of : FnScope ["ups"] ["ups"] (defScope s_lots_of) := ⟨rfl, rfl, rfl, by decide +kernel, rfl, by decide +kernel, by decide +kernel⟩
noncomputable abbrev s_height_of : Stmt := top 24
theorem sc_height_of : FnScope ["ups"] ["ups"] (defScope s_height_of) := ⟨rfl, rfl, rfl, by decide +kernel, rfl, by decide +kernel, by decide +kernel⟩
noncomputable abbrev s_check_thing : Stmt := top 12
theorem sc_check_thing : FnScope ["many", "x"] ["many", "x"] (defScope s_check_thing) := ⟨rfl, rfl, rfl, by decide +kernel, rfl, by decide +kernel, by decide +kernel⟩
noncomputable abbrev s_check_forest_and_thing : Stmt := top 13
theorem sc_check_forest_and_thing : FnScope ["ups", "x"] ["ups", "x"] (defScope s_check_forest_and_thing) := ⟨rfl, rfl, rfl, by decide +kernel, rfl, by decide +kernel, by decide +kernel⟩
noncomputable abbrev s_lot_with : Stmt := top 17
theorem sc_lot_with : FnScope ["ups", "x", "head"] ["ups", "x"] (defScope s_lot_with) := ⟨rfl, rfl, rfl, by decide +kernel, rfl, by decide +kernel, by decide +kernel⟩
noncomputable abbrev s_lot_of : Stmt := top 22
theorem sc_lot_of : FnScope ["ups", "x"] ["ups", "x"] (defScope s_lot_of) := ⟨rfl, rfl, rfl, by decide +kernel, rfl, by decide +kernel, by decide +kernel⟩
noncomputable abbrev s_head_of : Stmt := top 18
theorem sc_head_of : FnScope ["ups", "x"] ["ups", "x"] (defScope s_head_of) := ⟨rfl, rfl, rfl, by decide +kernel, rfl, by decide +kernel, by decide +kernel⟩
noncomputable abbrev s_depth_of : Stmt := top 19
theorem sc_depth_of : FnScope ["ups", "x"] ["ups", "x"] (defScope s_depth_of) := ⟨rfl, rfl, rfl, by decide +kernel, rfl, by decide +kernel, by decide +kernel⟩
noncomputable abbrev s_sizes_in : Stmt := top 15
theorem sc_sizes_in : FnScope ["ups", "sizes", "x", "above"] ["ups"] (defScope s_sizes_in) := ⟨rfl, rfl, rfl, by decide +kernel, rfl, by decide +kernel, by decide +kernel⟩
noncomputable abbrev s_size_of : Stmt := top 20
theorem sc_size_of : FnScope ["ups", "x"] ["ups", "x"] (defScope s_size_of) := ⟨rfl, rfl, rfl, by decide +kernel, rfl, by decide +kernel, by decide +kernel⟩
noncomputable abbrev s_way_of : Stmt := top 21
theorem sc_way_of : FnScope ["ups", "x"] ["ups", "x"] (defScope s_way_of) := ⟨rfl, rfl, rfl, by decide +kernel, rfl, by decide +kernel, by decide +kernel⟩
noncomputable abbrev s__law_whole : Stmt := top 34
theorem sc__law_whole : FnScope ["_law_thing"] ["_law_thing"] (defScope s__law_whole) := ⟨rfl, rfl, rfl, by decide +kernel, rfl, by decide +kernel, by decide +kernel⟩
noncomputable abbrev s__law_thing_right : Stmt := top 36
theorem sc__law_thing_right : FnScope ["_law_ups", "_law_x", "_law_sizes_here", "_law_lots", "_law_way_here", "_law_told", "_law_lot"] ["_law_ups", "_law_x", "_law_sizes_here", "_law_lots"] (defScope s__law_thing_right) := ⟨rfl, rfl, rfl, by decide +kernel, rfl, by decide +kernel, by decide +kernel⟩
noncomputable abbrev s__law_some : Stmt := top 35
theorem sc__law_some : FnScope ["_law_many_here"] ["_law_many_here"] (defScope s__law_some) := ⟨rfl, rfl, rfl, by decide +kernel, rfl, by decide +kernel, by decide +kernel⟩
noncomputable abbrev s__law_right : Stmt := top 37
theorem sc__law_right : FnScope ["_law_ups", "_law_sizes_here", "_law_due", "_law_told"] ["_law_ups"] (defScope s__law_right) := ⟨rfl, rfl, rfl, by decide +kernel, rfl, by decide +kernel, by decide +kernel⟩
noncomputable abbrev s__law_many : Stmt := top 28
theorem sc__law_many : FnScope ["_law_x"] ["_law_x"] (defScope s__law_many) := ⟨rfl, rfl, rfl, by decide +kernel, rfl, by decide +kernel, by decide +kernel⟩
noncomputable abbrev s_law : Stmt := top 38
theorem sc_law : FnScope ["_law_script", "_law_ladder", "_law_some_here", "_law_cell_here", "_law_xs"] ["_law_script"] (defScope s_law) := ⟨rfl, rfl, rfl, by decide +kernel, rfl, by decide +kernel, by decide +kernel⟩
end K02
end
section
namespace K02
open PySem L2 Fo Pu Dp
section
variable {P : Program} {w : World} {K : PySem.W.Frag} {mg : Str → Option Value} {base : Heap}
theorem ok__law_numbers (T : Txt mg) (F : FunD K mg "_law_numbers" s__law_numbers ["_law_cell_here", "_law_many_here"]) : Def P w K mg base 1 "_law_numbers" ["_law_cell_here", "_law_many_here"] (spP K (fnP F__law_numbers)) :=
  d_def F sc__law_numbers (fun f cdv A outer s H E hr => (s_cons (s_own2 (d_lst a_nil) sc__law_numbers.nd rfl (by first | exact Or.inl rfl | exact Or.inr rfl))
    (s_cons (s_set (ps_set (i := 3) sc__law_numbers.nd rfl (by first | exact Or.inl rfl | exact Or.inr rfl) (DE.ee (d_mod (d_mul (d_add (d_mod (d_v (pv 0)) d_int) d_int) d_int) d_int))))
    (s_cons (s_set (ps_set (i := 4) sc__law_numbers.nd rfl (by first | exact Or.inl rfl | exact Or.inr rfl) (DE.ee d_int)))
    (s_cons (s_if (b_w (w_or (b_cmp c_lt (d_v (pv 0)) d_int (nomark _)) (w_or1 (b_cmp c_ge (d_v (pv 0)) (d_pow d_int d_int) (nomark _))))) (s_one (s_set (ps_set (i := 4) sc__law_numbers.nd rfl (by first | exact Or.inl rfl | exact Or.inr rfl) (DE.ee (d_cb rc_abs kAbs_ok (pe_callB call_abs rfl T.n_abs bt_abs (DA.t (a_cons ns_Name (d_v (pv 0)) a_nil)) (he := ns_Name _ _))))))) s_nil)
    (s_cons (s_for r_name (ps_for PassesOwn.never rfl (i_rng1 (pi_range1 rfl T.n_range (DA.t (a_cons ns_Name (d_v (pv 1)) a_nil)))) (pg_name (i := 5) sc__law_numbers.nd rfl (by first | exact Or.inl rfl | exact Or.inr rfl)) (s_cons (s_set (ps_set (i := 3) sc__law_numbers.nd rfl (by first | exact Or.inl rfl | exact Or.inr rfl) (DE.ee (d_mod (d_add (d_add (d_mul (d_v (pv 3)) (d_add (d_mod (d_v (pv 3)) d_int) d_int)) (d_mul d_int (d_v (pv 5)))) d_int) d_int))))
    (s_cons (s_app (ps_expr (pe_bm PySem.F.plainAttrs_list PySem.F.slot_list_append PySem.F.type_list_append mt_append (pv 2) (DA.f (a_cons ns_Subscript (d_ix (d_lst (a_cons ns_Name (d_v (pv 3)) (a_cons ns_BinOp (d_mod (d_v (pv 4)) d_int) a_nil))) (d_cb rc_int kInt_ok (pe_callTy call_int1 rfl T.n_int bt_int (DA.t (a_cons ns_Compare (d_cmp c_gt (d_v (pv 4)) d_int (nomark _)) a_nil)) (he := ns_Compare _ _))) (fun _ _ => rfl)) a_nil)))))
    (s_one (s_set (ps_set (i := 4) sc__law_numbers.nd rfl (by first | exact Or.inl rfl | exact Or.inr rfl) (DE.ee (d_div (d_v (pv 4)) d_int)))))))))
    (s_one (s_retV (pv 2)))))))))
theorem ok_way_up (T : Txt mg) (F : FunD K mg "way_up" s_way_up ["ups", "x"]) : Def P w K mg base 1 "way_up" ["ups", "x"] (spP K (fnP F_way_up)) :=
  d_def F sc_way_up (fun f cdv A outer s H E hr => (s_cons (s_own2 (d_lst (a_cons ns_Name (d_v (pv 1)) a_nil)) sc_way_up.nd rfl (by first | exact Or.inl rfl | exact Or.inr rfl))
    (s_cons (s_while (ps_while PassesOwn.never (b_cmp (c_ne hr.units) (d_ix (d_v (pv 0)) (d_ix (d_v (pv 2)) (d_neg d_int) (fun _ _ => rfl)) (fun _ _ => rfl)) (d_ix (d_v (pv 2)) (d_neg d_int) (fun _ _ => rfl)) (nomark _)) (s_one (s_app (ps_expr (pe_bm PySem.F.plainAttrs_list PySem.F.slot_list_append PySem.F.type_list_append mt_append (pv 2) (DA.f (a_cons ns_Subscript (d_ix (d_v (pv 0)) (d_ix (d_v (pv 2)) (d_neg d_int) (fun _ _ => rfl)) (fun _ _ => rfl)) a_nil))))))))
    (s_one (s_retV (pv 2))))))
theorem ok_height_of (T : Txt mg) (F : FunD K mg "height_of" s_height_of ["ups"]) (d_check_forest : Def P w K mg base 4 "check_forest" ["ups"] (spP K (fnP F_check_forest))) (d_way_up : Def P w K mg base 1 "way_up" ["ups", "x"] (spP K (fnP F_way_up))) : Def P w K mg base 5 "height_of" ["ups"] (spP K (fnP F_height_of)) :=
  d_def F sc_height_of (fun f cdv A outer s H E hr => (s_cons (s_expr (ps_expr (DE.ee (d_callD d_check_forest hr (a_cons ns_Name (d_v (pv 0)) a_nil) (he := ns_Name _ _)))))
    (s_one (s_ret (d_maxL T.n_max (a_cons ns_ListComp (d_comp r_name (pe_cmp' ["x", "ups"] [none, some 0] (i_rng1 (pi_range1 rfl T.n_range (DA.t (a_cons ns_Call (d_cb rc_len kLen_ok (pe_callB call_len rfl T.n_len bt_len (DA.t (a_cons ns_Name (d_v (pv 0)) a_nil)) (he := ns_Name _ _))) a_nil)))) (fun bC bs bH bx => (pg_name (i := 0) (show List.Nodup (["x", "ups"] : List Str) by decide +kernel) rfl (by first | exact Or.inl rfl | exact Or.inr rfl))) (fun bC bs bH bx => if_nil) (fun bC bs bH bx => DE.ee (d_sub (d_cb rc_len kLen_ok (pe_callB call_len rfl T.n_len bt_len (DA.t (a_cons ns_Call (d_callD d_way_up hr (a_cons ns_Name (d_v (pv 1)) (a_cons ns_Name (d_v (pv 0)) a_nil)) (he := ns_Name _ _)) a_nil)) (he := ns_Call _ _))) d_int)) (gkeep_name rfl))) a_nil) (he := ns_ListComp _ _))))))
theorem ok_size_of (T : Txt mg) (F : FunD K mg "size_of" s_size_of ["ups", "x"]) (d_check_forest_and_thing : Def P w K mg base 5 "check_forest_and_thing" ["ups", "x"] (spP K (fnP F_check_forest_and_thing))) (d_sizes_in : Def P w K mg base 2 "sizes_in" ["ups"] (spP K (fnP F_sizes_in))) : Def P w K mg base 6 "size_of" ["ups", "x"] (spP K (fnP F_size_of)) :=
  d_def F sc_size_of (fun f cdv A outer s H E hr => (s_cons (s_expr (ps_expr (DE.ee (d_callD d_check_forest_and_thing hr (a_cons ns_Name (d_v (pv 0)) (a_cons ns_Name (d_v (pv 1)) a_nil)) (he := ns_Name _ _)))))
    (s_one (s_ret (d_ix (d_callD d_sizes_in hr (a_cons ns_Name (d_v (pv 0)) a_nil) (he := ns_Name _ _)) (d_v (pv 1)) (fun _ _ => rfl))))))
theorem ok__law_right (T : Txt mg) (F : FunD K mg "_law_right" s__law_right ["_law_ups"]) (d__law_sizes : Def P w K mg base 2 "_law_sizes" ["_law_ups"] (spP K (fnP F__law_sizes))) (d__law_lots_by : Def P w K mg base 1 "_law_lots_by" ["_law_many_here", "_law_pairs"] (spP K (fnP F__law_lots_by))) (d_lots_of : Def P w K mg base 5 "lots_of" ["ups"] (spP K (fnP F_lots_of))) (d_height_of : Def P w K mg base 5 "height_of" ["ups"] (spP K (fnP F_height_of))) (d__law_thing_right : Def P w K mg base 7 "_law_thing_right" ["_law_ups", "_law_x", "_law_sizes_here", "_law_lots"] (spP K (fnP L__law_thing_right))) (d__law_some : Def P w K mg base 1 "_law_some" ["_law_many_here"] (spP K (fnP F__law_some))) (d__law_way : Def P w K mg base 1 "_law_way" ["_law_ups", "_law_x"] (spP K (fnP F__law_way))) : Def P w K mg base 8 "_law_right" ["_law_ups"] (spP K (fnP L__law_right)) :=
  d_def F sc__law_right (fun f cdv A outer s H E hr => (s_cons (s_set (ps_set (i := 1) sc__law_right.nd rfl (by first | exact Or.inl rfl | exact Or.inr rfl) (DE.ee (d_callD d__law_sizes hr (a_cons ns_Name (d_v (pv 0)) a_nil) (he := ns_Name _ _)))))
    (s_cons (s_set (ps_set (i := 2) sc__law_right.nd rfl (by first | exact Or.inl rfl | exact Or.inr rfl) (DE.ee (d_callD d__law_lots_by hr (a_cons ns_Call (d_cb rc_len kLen_ok (pe_callB call_len rfl T.n_len bt_len (DA.t (a_cons ns_Name (d_v (pv 0)) a_nil)) (he := ns_Name _ _))) (a_cons ns_ListComp (d_comp r_name (pe_cmp' ["_law_x", "_law_ups"] [none, some 0] (i_rng1 (pi_range1 rfl T.n_range (DA.t (a_cons ns_Call (d_cb rc_len kLen_ok (pe_callB call_len rfl T.n_len bt_len (DA.t (a_cons ns_Name (d_v (pv 0)) a_nil)) (he := ns_Name _ _))) a_nil)))) (fun bC bs bH bx => (pg_name (i := 0) (show List.Nodup (["_law_x", "_law_ups"] : List Str) by decide +kernel) rfl (by first | exact Or.inl rfl | exact Or.inr rfl))) (fun bC bs bH bx => if_nil) (fun bC bs bH bx => DE.ee (d_tup (a_cons ns_Name (d_v (pv 0)) (a_cons ns_Subscript (d_ix (d_v (pv 1)) (d_v (pv 0)) (fun _ _ => rfl)) a_nil)))) (gkeep_name rfl))) a_nil)) (he := ns_Call _ _)))))
    (s_cons (s_own2 (d_callD d_lots_of hr (a_cons ns_Name (d_v (pv 0)) a_nil) (he := ns_Name _ _)) sc__law_right.nd rfl (by first | exact Or.inl rfl | exact Or.inr rfl))
    (s_cons (s_if (b_w (w_or (b_not (b_val (d_cb rc_isI kIs_ok (pe_callB call_isinst rfl T.n_isinstance bt_isinstance (DA.t (a_cons ns_Name (d_v (pv 3)) (a_cons ns_Name (d_c (pu_c (p := .ty "list") (pe_ty T.n_list bt_list))) a_nil))) (he := ns_Name _ _))))) (w_or (b_cmp (c_ne hr.units) (d_v (pv 3)) (d_v (pv 2)) (nomark _)) (w_or1 (b_not (b_val (d_cb rc_all kAll_ok (pe_callB (call_all rfl) rfl T.n_all bt_all (DA.t (a_cons ns_ListComp (d_compT r_name (pe_cmp' ["_law_lot"] [none] (i_seqT (d_v (pv 3))) (fun bC bs bH bx => (pg_name (i := 0) (show List.Nodup (["_law_lot"] : List Str) by decide +kernel) rfl (by first | exact Or.inl rfl | exact Or.inr rfl))) (fun bC bs bH bx => if_nil) (fun bC bs bH bx => DE.ee (d_cb rc_isI kIs_ok (pe_callB call_isinst rfl T.n_isinstance bt_isinstance (DA.t (a_cons ns_Name (d_v (pv 0)) (a_cons ns_Name (d_c (pu_c (p := .ty "tuple") (pe_ty T.n_tuple bt_tuple))) a_nil))) (he := ns_Name _ _)))) (gkeep_name rfl))) a_nil)) (he := ns_ListComp _ _))))))))) (s_one (s_ret d_bl)) s_nil)
    (s_cons (s_rev (ps_expr (pe_bm0 PySem.F.plainAttrs_list PySem.F.slot_list_reverse PySem.F.type_list_reverse mt_reverse (pv 3))))
    (s_cons (s_app (ps_expr (pe_bm PySem.F.plainAttrs_list PySem.F.slot_list_append PySem.F.type_list_append mt_append (pv 3) (DA.f (a_cons ns_Tuple (d_tup a_nil) a_nil)))))
    (s_cons (s_if (b_w (w_or (b_cmp (c_ne hr.units) (d_callD d_lots_of hr (a_cons ns_Name (d_v (pv 0)) a_nil) (he := ns_Name _ _)) (d_v (pv 2)) (nomark _)) (w_or1 (b_cmp (c_ne hr.units) (d_callD d_height_of hr (a_cons ns_Name (d_v (pv 0)) a_nil) (he := ns_Name _ _)) (d_sub (d_maxL T.n_max (a_cons ns_ListComp (d_comp r_name (pe_cmp' ["_law_x", "_law_ups"] [none, some 0] (i_rng1 (pi_range1 rfl T.n_range (DA.t (a_cons ns_Call (d_cb rc_len kLen_ok (pe_callB call_len rfl T.n_len bt_len (DA.t (a_cons ns_Name (d_v (pv 0)) a_nil)) (he := ns_Name _ _))) a_nil)))) (fun bC bs bH bx => (pg_name (i := 0) (show List.Nodup (["_law_x", "_law_ups"] : List Str) by decide +kernel) rfl (by first | exact Or.inl rfl | exact Or.inr rfl))) (fun bC bs bH bx => if_nil) (fun bC bs bH bx => DE.ee (d_cb rc_len kLen_ok (pe_callB call_len rfl T.n_len bt_len (DA.t (a_cons ns_Call (d_callD d__law_way hr (a_cons ns_Name (d_v (pv 1)) (a_cons ns_Name (d_v (pv 0)) a_nil)) (he := ns_Name _ _)) a_nil)) (he := ns_Call _ _)))) (gkeep_name rfl))) a_nil) (he := ns_ListComp _ _)) d_int) (nomark _))))) (s_one (s_ret d_bl)) s_nil)
    (s_one (s_ret (d_cb rc_all kAll_ok (pe_callB (call_all rfl) rfl T.n_all bt_all (DA.t (a_cons ns_ListComp (d_comp r_name (pe_cmp' ["_law_x", "_law_ups", "_law_sizes_here", "_law_due"] [none, some 0, some 1, some 2] (i_seq (d_callD d__law_some hr (a_cons ns_Call (d_cb rc_len kLen_ok (pe_callB call_len rfl T.n_len bt_len (DA.t (a_cons ns_Name (d_v (pv 0)) a_nil)) (he := ns_Name _ _))) a_nil) (he := ns_Call _ _))) (fun bC bs bH bx => (pg_name (i := 0) (show List.Nodup (["_law_x", "_law_ups", "_law_sizes_here", "_law_due"] : List Str) by decide +kernel) rfl (by first | exact Or.inl rfl | exact Or.inr rfl))) (fun bC bs bH bx => if_nil) (fun bC bs bH bx => DE.ee (d_callD d__law_thing_right hr (a_cons ns_Name (d_v (pv 1)) (a_cons ns_Name (d_v (pv 0)) (a_cons ns_Name (d_v (pv 2)) (a_cons ns_Name (d_v (pv 3)) a_nil)))) (he := ns_Name _ _))) (gkeep_name rfl))) a_nil)) (he := ns_ListComp _ _)))))))))))))
end
end K02
end
section
namespace K02
open PySem L2 Fo Pu Dp
section
variable {P : Program} {w : World} {K : PySem.W.Frag} {mg : Str → Option Value} {base : Heap}
theorem ok__law_cell (T : Txt mg) (F : FunD K mg "_law_cell" s__law_cell ["_law_script", "_law_k"]) : Def P w K mg base 1 "_law_cell" ["_law_script", "_law_k"] (spP K (fnP F__law_cell)) :=
  d_def F sc__law_cell (fun f cdv A outer s H E hr => (s_cons (s_if (b_cmp c_lt (d_v (pv 1)) (d_cb rc_len kLen_ok (pe_callB call_len rfl T.n_len bt_len (DA.t (a_cons ns_Name (d_v (pv 0)) a_nil)) (he := ns_Name _ _))) (nomark _)) (s_one (s_ret (d_ix (d_v (pv 0)) (d_v (pv 1)) (fun _ _ => rfl)))) s_nil)
    (s_cons (s_set (ps_set (i := 2) sc__law_cell.nd rfl (by first | exact Or.inl rfl | exact Or.inr rfl) (DE.ee (d_mod (d_mul d_int (d_add (d_add (d_mul (d_v (pv 1)) (d_v (pv 1))) (d_mul d_int (d_v (pv 1)))) d_int)) d_int))))
    (s_cons (s_for r_name (ps_for PassesOwn.never rfl (i_seq (d_sl (d_v (pv 0)) o_no (o_pt d_int))) (pg_name (i := 3) sc__law_cell.nd rfl (by first | exact Or.inl rfl | exact Or.inr rfl)) (s_one (s_set (ps_set (i := 2) sc__law_cell.nd rfl (by first | exact Or.inl rfl | exact Or.inr rfl) (DE.ee (d_mod (d_add (d_mul (d_v (pv 2)) d_int) (d_v (pv 3))) d_int)))))))
    (s_one (s_retV (pv 2)))))))
theorem ok_is_whole (T : Txt mg) (F : FunD K mg "is_whole" s_is_whole ["thing"]) : Def P w K mg base 1 "is_whole" ["thing"] (spP K (fnP F_is_whole)) :=
  d_def F sc_is_whole (fun f cdv A outer s H E hr => (s_one (s_ret (d_and (d_cb rc_isI kIs_ok (pe_callB call_isinst rfl T.n_isinstance bt_isinstance (DA.t (a_cons ns_Name (d_v (pv 0)) (a_cons ns_Name (d_c (pu_c (p := .ty "int") (pe_ty T.n_int bt_int))) a_nil))) (he := ns_Name _ _))) (d_one (d_not (d_cb rc_isI kIs_ok (pe_callB call_isinst rfl T.n_isinstance bt_isinstance (DA.t (a_cons ns_Name (d_v (pv 0)) (a_cons ns_Name (d_c (pu_c (p := .ty "bool") (pe_ty T.n_bool bt_bool))) a_nil))) (he := ns_Name _ _)))))))))
theorem ok_is_forest (T : Txt mg) (F : FunD K mg "is_forest" s_is_forest ["thing"]) (d_is_many : Def P w K mg base 2 "is_many" ["thing"] (spP K (fnP F_is_many))) (d_leads_to_head : Def P w K mg base 1 "leads_to_head" ["ups", "x"] (spP K (fnP F_leads_to_head))) (d_is_thing : Def P w K mg base 2 "is_thing" ["many", "thing"] (spP K (fnP F_is_thing))) : Def P w K mg base 3 "is_forest" ["thing"] (spP K (fnP F_is_forest)) :=
  d_def F sc_is_forest (fun f cdv A outer s H E hr => (s_cons (s_if (b_w (w_or (b_not (b_val (d_cb rc_isI kIs_ok (pe_callB call_isinst rfl T.n_isinstance bt_isinstance (DA.t (a_cons ns_Name (d_v (pv 0)) (a_cons ns_Name (d_c (pu_c (p := .ty "tuple") (pe_ty T.n_tuple bt_tuple))) a_nil))) (he := ns_Name _ _))))) (w_or1 (b_not (b_val (d_callD d_is_many hr (a_cons ns_Call (d_cb rc_len kLen_ok (pe_callB call_len rfl T.n_len bt_len (DA.t (a_cons ns_Name (d_v (pv 0)) a_nil)) (he := ns_Name _ _))) a_nil) (he := ns_Call _ _))))))) (s_one (s_ret d_bl)) s_nil)
    (s_cons (s_set (ps_set (i := 1) sc_is_forest.nd rfl (by first | exact Or.inl rfl | exact Or.inr rfl) (DE.ee (d_cb rc_len kLen_ok (pe_callB call_len rfl T.n_len bt_len (DA.t (a_cons ns_Name (d_v (pv 0)) a_nil)) (he := ns_Name _ _))))))
    (s_cons (s_if (b_not (b_val (d_cb rc_all kAll_ok (pe_callB (call_all rfl) rfl T.n_all bt_all (DA.t (a_cons ns_ListComp (d_comp r_name (pe_cmp' ["up", "many"] [none, some 1] (i_seq (d_v (pv 0))) (fun bC bs bH bx => (pg_name (i := 0) (show List.Nodup (["up", "many"] : List Str) by decide +kernel) rfl (by first | exact Or.inl rfl | exact Or.inr rfl))) (fun bC bs bH bx => if_nil) (fun bC bs bH bx => DE.ee (d_callD d_is_thing hr (a_cons ns_Name (d_v (pv 1)) (a_cons ns_Name (d_v (pv 0)) a_nil)) (he := ns_Name _ _))) (gkeep_name rfl))) a_nil)) (he := ns_ListComp _ _))))) (s_one (s_ret d_bl)) s_nil)
    (s_one (s_ret (d_cb rc_all kAll_ok (pe_callB (call_all rfl) rfl T.n_all bt_all (DA.t (a_cons ns_ListComp (d_comp r_name (pe_cmp' ["x", "thing"] [none, some 0] (i_rng1 (pi_range1 rfl T.n_range (DA.t (a_cons ns_Name (d_v (pv 1)) a_nil)))) (fun bC bs bH bx => (pg_name (i := 0) (show List.Nodup (["x", "thing"] : List Str) by decide +kernel) rfl (by first | exact Or.inl rfl | exact Or.inr rfl))) (fun bC bs bH bx => if_nil) (fun bC bs bH bx => DE.ee (d_callD d_leads_to_head hr (a_cons ns_Name (d_v (pv 1)) (a_cons ns_Name (d_v (pv 0)) a_nil)) (he := ns_Name _ _))) (gkeep_name rfl))) a_nil)) (he := ns_ListComp _ _)))))))))
theorem ok_sizes_in (T : Txt mg) (F : FunD K mg "sizes_in" s_sizes_in ["ups"]) (d_way_up : Def P w K mg base 1 "way_up" ["ups", "x"] (spP K (fnP F_way_up))) : Def P w K mg base 2 "sizes_in" ["ups"] (spP K (fnP F_sizes_in)) :=
  d_def F sc_sizes_in (fun f cdv A outer s H E hr => (s_cons (s_own2 (d_mul (d_lst (a_cons ns_Constant d_int a_nil)) (d_cb rc_len kLen_ok (pe_callB call_len rfl T.n_len bt_len (DA.t (a_cons ns_Name (d_v (pv 0)) a_nil)) (he := ns_Name _ _)))) sc_sizes_in.nd rfl (by first | exact Or.inl rfl | exact Or.inr rfl))
    (s_cons (s_for r_name (ps_for PassesOwn.never rfl (i_rng1 (pi_range1 rfl T.n_range (DA.t (a_cons ns_Call (d_cb rc_len kLen_ok (pe_callB call_len rfl T.n_len bt_len (DA.t (a_cons ns_Name (d_v (pv 0)) a_nil)) (he := ns_Name _ _))) a_nil)))) (pg_name (i := 2) sc_sizes_in.nd rfl (by first | exact Or.inl rfl | exact Or.inr rfl)) (s_one (s_for r_name (ps_for PassesOwn.never rfl (i_seq (d_callD d_way_up hr (a_cons ns_Name (d_v (pv 0)) (a_cons ns_Name (d_v (pv 2)) a_nil)) (he := ns_Name _ _))) (pg_name (i := 3) sc_sizes_in.nd rfl (by first | exact Or.inl rfl | exact Or.inr rfl)) (s_one (s_augIx (g := (fun a b => a + b)) (pv 1) (d_v (pv 3)) d_int ip_add)))))))
    (s_one (s_retV (pv 1))))))
end
end K02
end
section
namespace K02
open PySem L2 Fo Pu Dp
section
variable {P : Program} {w : World} {K : PySem.W.Frag} {mg : Str → Option Value} {base : Heap}
theorem ok__law_forest (T : Txt mg) (F : FunD K mg "_law_forest" s__law_forest ["_law_xs", "_law_many_here"]) : Def P w K mg base 1 "_law_forest" ["_law_xs", "_law_many_here"] (spP K (fnP F__law_forest)) :=
  d_def F sc__law_forest (fun f cdv A outer s H E hr => (s_cons (s_set (ps_set (i := 2) sc__law_forest.nd rfl (by first | exact Or.inl rfl | exact Or.inr rfl) (DE.ee (d_cn rc_sortedT kSorted_ok (pe_callB call_sortedT rfl T.n_sorted bt_sorted (DA.t (a_cons ns_ListComp (d_comp r_name (pe_cmp' ["_law_k", "_law_xs"] [none, some 0] (i_rng1 (pi_range1 rfl T.n_range (DA.t (a_cons ns_Name (d_v (pv 1)) a_nil)))) (fun bC bs bH bx => (pg_name (i := 0) (show List.Nodup (["_law_k", "_law_xs"] : List Str) by decide +kernel) rfl (by first | exact Or.inl rfl | exact Or.inr rfl))) (fun bC bs bH bx => if_nil) (fun bC bs bH bx => DE.ee (d_tup (a_cons ns_BinOp (d_mod (d_ix (d_v (pv 1)) (d_v (pv 0)) (fun _ _ => rfl)) d_int) (a_cons ns_Name (d_v (pv 0)) a_nil)))) (gkeep_name rfl))) a_nil)) (he := ns_ListComp _ _))))))
    (s_cons (s_setC r_name (ps_setComp' (i := 3) ["_law_pair"] [none] sc__law_forest.nd (i_seq (d_v (pv 2))) (fun bC bs bH bx => (pg_name (i := 0) (show List.Nodup (["_law_pair"] : List Str) by decide +kernel) rfl (by first | exact Or.inl rfl | exact Or.inr rfl))) (fun bC bs bH bx => if_nil) (fun bC bs bH bx => DE.ee (d_ix (d_v (pv 0)) d_int (fun _ _ => rfl))) (gkeep_name rfl)))
    (s_cons (s_own2 (d_listc T.n_list (a_cons ns_Call (d_cb rc_rng kRng_ok (pe_callTy call_range1 rfl T.n_range bt_range (DA.t (a_cons ns_Name (d_v (pv 1)) a_nil)) (he := ns_Name _ _))) a_nil) (he := ns_Call _ _)) sc__law_forest.nd rfl (by first | exact Or.inl rfl | exact Or.inr rfl))
    (s_cons (s_set (ps_set (i := 5) sc__law_forest.nd rfl (by first | exact Or.inl rfl | exact Or.inr rfl) (DE.ee (d_mod (d_ix (d_v (pv 0)) (d_v (pv 1)) (fun _ _ => rfl)) d_int))))
    (s_cons (s_for r_name (ps_for PassesOwn.never rfl (i_rng2 (pi_range2 rfl T.n_range (DA.t (a_cons ns_Constant d_int (a_cons ns_Name (d_v (pv 1)) a_nil))))) (pg_name (i := 6) sc__law_forest.nd rfl (by first | exact Or.inl rfl | exact Or.inr rfl)) (s_cons (s_set (ps_set (i := 7) sc__law_forest.nd rfl (by first | exact Or.inl rfl | exact Or.inr rfl) (DE.ee (d_ix (d_lst (a_cons ns_BinOp (d_mod (d_div (d_ix (d_v (pv 0)) (d_ix (d_v (pv 3)) (d_v (pv 6)) (fun _ _ => rfl)) (fun _ _ => rfl)) d_int) (d_v (pv 6))) (a_cons ns_BinOp (d_sub (d_v (pv 6)) d_int) (a_cons ns_Constant d_int (a_cons ns_Name (d_v (pv 6)) (a_cons ns_BinOp (d_sub (d_v (pv 6)) (d_band (d_v (pv 6)) (d_sub d_int (d_v (pv 6))))) a_nil)))))) (d_v (pv 5)) (fun _ _ => rfl)))))
    (s_one (s_if (b_w (w_or (b_cmp (c_ne hr.units) (d_v (pv 5)) d_int (nomark _)) (w_or1 (b_cmp c_gt (d_mod (d_div (d_ix (d_v (pv 0)) (d_ix (d_v (pv 3)) (d_v (pv 6)) (fun _ _ => rfl)) (fun _ _ => rfl)) d_int) d_int) d_int (nomark _))))) (s_one (s_put (ps_asg (DE.ee (d_ix (d_v (pv 3)) (d_v (pv 7)) (fun _ _ => rfl))) (pg_sub (pv 4) (DE.ee (d_ix (d_v (pv 3)) (d_v (pv 6)) (fun _ _ => rfl))) set_list)))) s_nil)))))
    (s_one (s_ret (d_cb rc_tup kTup_ok (pe_callTy call_tuple_of rfl T.n_tuple bt_tuple (DA.t (a_cons ns_Name (d_v (pv 4)) a_nil)) (he := ns_Name _ _)))))))))))
theorem ok_check_thing (T : Txt mg) (F : FunD K mg "check_thing" s_check_thing ["many", "x"]) (d_is_thing : Def P w K mg base 2 "is_thing" ["many", "thing"] (spP K (fnP F_is_thing))) : Def P w K mg base 3 "check_thing" ["many", "x"] (spP K (fnP F_check_thing)) :=
  d_def F sc_check_thing (fun f cdv A outer s H E hr => (s_one (s_if (b_not (b_val (d_callD d_is_thing hr (a_cons ns_Name (d_v (pv 0)) (a_cons ns_Name (d_v (pv 1)) a_nil)) (he := ns_Name _ _)))) (s_one s_bad) s_nil)))
theorem ok_lot_of (T : Txt mg) (F : FunD K mg "lot_of" s_lot_of ["ups", "x"]) (d_check_forest_and_thing : Def P w K mg base 5 "check_forest_and_thing" ["ups", "x"] (spP K (fnP F_check_forest_and_thing))) (d_lot_with : Def P w K mg base 2 "lot_with" ["ups", "x"] (spP K (fnP F_lot_with))) : Def P w K mg base 6 "lot_of" ["ups", "x"] (spP K (fnP F_lot_of)) :=
  d_def F sc_lot_of (fun f cdv A outer s H E hr => (s_cons (s_expr (ps_expr (DE.ee (d_callD d_check_forest_and_thing hr (a_cons ns_Name (d_v (pv 0)) (a_cons ns_Name (d_v (pv 1)) a_nil)) (he := ns_Name _ _)))))
    (s_one (s_ret (d_callD d_lot_with hr (a_cons ns_Name (d_v (pv 0)) (a_cons ns_Name (d_v (pv 1)) a_nil)) (he := ns_Name _ _))))))
theorem ok_way_of (T : Txt mg) (F : FunD K mg "way_of" s_way_of ["ups", "x"]) (d_check_forest_and_thing : Def P w K mg base 5 "check_forest_and_thing" ["ups", "x"] (spP K (fnP F_check_forest_and_thing))) (d_way_up : Def P w K mg base 1 "way_up" ["ups", "x"] (spP K (fnP F_way_up))) : Def P w K mg base 6 "way_of" ["ups", "x"] (spP K (fnP F_way_of)) :=
  d_def F sc_way_of (fun f cdv A outer s H E hr => (s_cons (s_expr (ps_expr (DE.ee (d_callD d_check_forest_and_thing hr (a_cons ns_Name (d_v (pv 0)) (a_cons ns_Name (d_v (pv 1)) a_nil)) (he := ns_Name _ _)))))
    (s_one (s_ret (d_cb rc_tup kTup_ok (pe_callTy call_tuple_of rfl T.n_tuple bt_tuple (DA.t (a_cons ns_Call (d_callD d_way_up hr (a_cons ns_Name (d_v (pv 0)) (a_cons ns_Name (d_v (pv 1)) a_nil)) (he := ns_Name _ _)) a_nil)) (he := ns_Call _ _)))))))
theorem ok__law_many (T : Txt mg) (F : FunD K mg "_law_many" s__law_many ["_law_x"]) : Def P w K mg base 1 "_law_many" ["_law_x"] (spP K (fnP F__law_many)) :=
  d_def F sc__law_many (fun f cdv A outer s H E hr => (s_one (s_ret (d_ix (d_lst (a_cons ns_BinOp (d_add d_int (d_mod (d_div (d_v (pv 0)) d_int) d_int)) (a_cons ns_BinOp (d_add d_int (d_mod (d_div (d_v (pv 0)) d_int) d_int)) a_nil))) (d_cb rc_int kInt_ok (pe_callTy call_int1 rfl T.n_int bt_int (DA.t (a_cons ns_Compare (d_cmp (c_eq hr.units) (d_mod (d_v (pv 0)) d_int) d_int (nomark _)) a_nil)) (he := ns_Compare _ _))) (fun _ _ => rfl)))))
end
end K02
end
section
namespace K02
open PySem L2 Fo Pu Dp
section
variable {P : Program} {w : World} {K : PySem.W.Frag} {mg : Str → Option Value} {base : Heap}
theorem ok__law_way (T : Txt mg) (F : FunD K mg "_law_way" s__law_way ["_law_ups", "_law_x"]) : Def P w K mg base 1 "_law_way" ["_law_ups", "_law_x"] (spP K (fnP F__law_way)) :=
  d_def F sc__law_way (fun f cdv A outer s H E hr => (s_cons (s_own2 (d_lst (a_cons ns_Name (d_v (pv 1)) a_nil)) sc__law_way.nd rfl (by first | exact Or.inl rfl | exact Or.inr rfl))
    (s_cons (s_while (ps_while PassesOwn.never (b_w (w_and (b_cmp (c_ne hr.units) (d_ix (d_v (pv 0)) (d_ix (d_v (pv 2)) (d_neg d_int) (fun _ _ => rfl)) (fun _ _ => rfl)) (d_ix (d_v (pv 2)) (d_neg d_int) (fun _ _ => rfl)) (nomark _)) (w_and1 (b_cmp c_le (d_cb rc_len kLen_ok (pe_callB call_len rfl T.n_len bt_len (DA.t (a_cons ns_Name (d_v (pv 2)) a_nil)) (he := ns_Name _ _))) (d_cb rc_len kLen_ok (pe_callB call_len rfl T.n_len bt_len (DA.t (a_cons ns_Name (d_v (pv 0)) a_nil)) (he := ns_Name _ _))) (nomark _))))) (s_one (s_app (ps_expr (pe_bm PySem.F.plainAttrs_list PySem.F.slot_list_append PySem.F.type_list_append mt_append (pv 2) (DA.f (a_cons ns_Subscript (d_ix (d_v (pv 0)) (d_ix (d_v (pv 2)) (d_neg d_int) (fun _ _ => rfl)) (fun _ _ => rfl)) a_nil))))))))
    (s_one (s_retV (pv 2))))))
theorem ok_is_many (T : Txt mg) (F : FunD K mg "is_many" s_is_many ["thing"]) (d_is_whole : Def P w K mg base 1 "is_whole" ["thing"] (spP K (fnP F_is_whole))) : Def P w K mg base 2 "is_many" ["thing"] (spP K (fnP F_is_many)) :=
  d_def F sc_is_many (fun f cdv A outer s H E hr => (s_one (s_ret (d_and (d_callD d_is_whole hr (a_cons ns_Name (d_v (pv 0)) a_nil) (he := ns_Name _ _)) (d_one (d_ch c_le c_le d_int (d_v (pv 0)) (d_c (pu_c (p := .int 40) (pe_cst T.c_MOST_THINGS))) (by with_unfolding_all rfl)))))))
theorem ok_is_thing (T : Txt mg) (F : FunD K mg "is_thing" s_is_thing ["many", "thing"]) (d_is_whole : Def P w K mg base 1 "is_whole" ["thing"] (spP K (fnP F_is_whole))) : Def P w K mg base 2 "is_thing" ["many", "thing"] (spP K (fnP F_is_thing)) :=
  d_def F sc_is_thing (fun f cdv A outer s H E hr => (s_one (s_ret (d_and (d_callD d_is_whole hr (a_cons ns_Name (d_v (pv 1)) a_nil) (he := ns_Name _ _)) (d_one (d_ch c_le c_lt d_int (d_v (pv 1)) (d_v (pv 0)) (by with_unfolding_all rfl)))))))
theorem ok_check_forest (T : Txt mg) (F : FunD K mg "check_forest" s_check_forest ["ups"]) (d_is_forest : Def P w K mg base 3 "is_forest" ["thing"] (spP K (fnP F_is_forest))) : Def P w K mg base 4 "check_forest" ["ups"] (spP K (fnP F_check_forest)) :=
  d_def F sc_check_forest (fun f cdv A outer s H E hr => (s_one (s_if (b_not (b_val (d_callD d_is_forest hr (a_cons ns_Name (d_v (pv 0)) a_nil) (he := ns_Name _ _)))) (s_one s_bad) s_nil)))
theorem ok_lots_of (T : Txt mg) (F : FunD K mg "lots_of" s_lots_of ["ups"]) (d_check_forest : Def P w K mg base 4 "check_forest" ["ups"] (spP K (fnP F_check_forest))) (d_lots_in : Def P w K mg base 2 "lots_in" ["ups"] (spP K (fnP F_lots_in))) : Def P w K mg base 5 "lots_of" ["ups"] (spP K (fnP F_lots_of)) :=
  d_def F sc_lots_of (fun f cdv A outer s H E hr => (s_cons (s_expr (ps_expr (DE.ee (d_callD d_check_forest hr (a_cons ns_Name (d_v (pv 0)) a_nil) (he := ns_Name _ _)))))
    (s_one (s_ret (d_callD d_lots_in hr (a_cons ns_Name (d_v (pv 0)) a_nil) (he := ns_Name _ _))))))
theorem ok_check_forest_and_thing (T : Txt mg) (F : FunD K mg "check_forest_and_thing" s_check_forest_and_thing ["ups", "x"]) (d_check_forest : Def P w K mg base 4 "check_forest" ["ups"] (spP K (fnP F_check_forest))) (d_check_thing : Def P w K mg base 3 "check_thing" ["many", "x"] (spP K (fnP F_check_thing))) : Def P w K mg base 5 "check_forest_and_thing" ["ups", "x"] (spP K (fnP F_check_forest_and_thing)) :=
  d_def F sc_check_forest_and_thing (fun f cdv A outer s H E hr => (s_cons (s_expr (ps_expr (DE.ee (d_callD d_check_forest hr (a_cons ns_Name (d_v (pv 0)) a_nil) (he := ns_Name _ _)))))
    (s_one (s_expr (ps_expr (DE.ee (d_callD d_check_thing hr (a_cons ns_Call (d_cb rc_len kLen_ok (pe_callB call_len rfl T.n_len bt_len (DA.t (a_cons ns_Name (d_v (pv 0)) a_nil)) (he := ns_Name _ _))) (a_cons ns_Name (d_v (pv 1)) a_nil)) (he := ns_Call _ _))))))))
theorem ok_depth_of (T : Txt mg) (F : FunD K mg "depth_of" s_depth_of ["ups", "x"]) (d_check_forest_and_thing : Def P w K mg base 5 "check_forest_and_thing" ["ups", "x"] (spP K (fnP F_check_forest_and_thing))) (d_way_up : Def P w K mg base 1 "way_up" ["ups", "x"] (spP K (fnP F_way_up))) : Def P w K mg base 6 "depth_of" ["ups", "x"] (spP K (fnP F_depth_of)) :=
  d_def F sc_depth_of (fun f cdv A outer s H E hr => (s_cons (s_expr (ps_expr (DE.ee (d_callD d_check_forest_and_thing hr (a_cons ns_Name (d_v (pv 0)) (a_cons ns_Name (d_v (pv 1)) a_nil)) (he := ns_Name _ _)))))
    (s_one (s_ret (d_sub (d_cb rc_len kLen_ok (pe_callB call_len rfl T.n_len bt_len (DA.t (a_cons ns_Call (d_callD d_way_up hr (a_cons ns_Name (d_v (pv 0)) (a_cons ns_Name (d_v (pv 1)) a_nil)) (he := ns_Name _ _)) a_nil)) (he := ns_Call _ _))) d_int)))))
theorem ok__law_some (T : Txt mg) (F : FunD K mg "_law_some" s__law_some ["_law_many_here"]) : Def P w K mg base 1 "_law_some" ["_law_many_here"] (spP K (fnP F__law_some)) :=
  d_def F sc__law_some (fun f cdv A outer s H E hr => (s_cons (s_if (b_cmp c_lt (d_v (pv 0)) d_int (nomark _)) (s_one (s_ret (d_listc T.n_list (a_cons ns_Call (d_cb rc_rng kRng_ok (pe_callTy call_range1 rfl T.n_range bt_range (DA.t (a_cons ns_Name (d_v (pv 0)) a_nil)) (he := ns_Name _ _))) a_nil) (he := ns_Call _ _)))) s_nil)
    (s_one (s_ret (d_lst (a_cons ns_Constant d_int (a_cons ns_Constant d_int (a_cons ns_BinOp (d_div (d_v (pv 0)) d_int) (a_cons ns_BinOp (d_sub (d_v (pv 0)) d_int) (a_cons ns_BinOp (d_sub (d_v (pv 0)) d_int) a_nil))))))))))
end
end K02
end
section
namespace K02
open PySem L2 Fo Pu Dp
section
variable {P : Program} {w : World} {K : PySem.W.Frag} {mg : Str → Option Value} {base : Heap}
theorem ok__law_sizes (T : Txt mg) (F : FunD K mg "_law_sizes" s__law_sizes ["_law_ups"]) (d__law_way : Def P w K mg base 1 "_law_way" ["_law_ups", "_law_x"] (spP K (fnP F__law_way))) : Def P w K mg base 2 "_law_sizes" ["_law_ups"] (spP K (fnP F__law_sizes)) :=
  d_def F sc__law_sizes (fun f cdv A outer s H E hr => (s_cons (s_own2 (d_mul (d_lst (a_cons ns_Constant d_int a_nil)) (d_cb rc_len kLen_ok (pe_callB call_len rfl T.n_len bt_len (DA.t (a_cons ns_Name (d_v (pv 0)) a_nil)) (he := ns_Name _ _)))) sc__law_sizes.nd rfl (by first | exact Or.inl rfl | exact Or.inr rfl))
    (s_cons (s_for r_name (ps_for PassesOwn.never rfl (i_rng1 (pi_range1 rfl T.n_range (DA.t (a_cons ns_Call (d_cb rc_len kLen_ok (pe_callB call_len rfl T.n_len bt_len (DA.t (a_cons ns_Name (d_v (pv 0)) a_nil)) (he := ns_Name _ _))) a_nil)))) (pg_name (i := 2) sc__law_sizes.nd rfl (by first | exact Or.inl rfl | exact Or.inr rfl)) (s_one (s_for r_name (ps_for PassesOwn.never rfl (i_seq (d_callD d__law_way hr (a_cons ns_Name (d_v (pv 0)) (a_cons ns_Name (d_v (pv 2)) a_nil)) (he := ns_Name _ _))) (pg_name (i := 3) sc__law_sizes.nd rfl (by first | exact Or.inl rfl | exact Or.inr rfl)) (s_one (s_put (ps_asg (DE.ee (d_add (d_ix (d_v (pv 1)) (d_v (pv 3)) (fun _ _ => rfl)) d_int)) (pg_sub (pv 1) (DE.ee (d_v (pv 3))) set_list)))))))))
    (s_one (s_retV (pv 1))))))
theorem ok_leads_to_head (T : Txt mg) (F : FunD K mg "leads_to_head" s_leads_to_head ["ups", "x"]) : Def P w K mg base 1 "leads_to_head" ["ups", "x"] (spP K (fnP F_leads_to_head)) :=
  d_def F sc_leads_to_head (fun f cdv A outer s H E hr => (s_cons (s_set (ps_set (i := 2) sc_leads_to_head.nd rfl (by first | exact Or.inl rfl | exact Or.inr rfl) (DE.ee (d_v (pv 1)))))
    (s_cons (s_for r_name (ps_for PassesOwn.never rfl (i_rng1 (pi_range1 rfl T.n_range (DA.t (a_cons ns_Call (d_cb rc_len kLen_ok (pe_callB call_len rfl T.n_len bt_len (DA.t (a_cons ns_Name (d_v (pv 0)) a_nil)) (he := ns_Name _ _))) a_nil)))) (pg_name (i := 3) sc_leads_to_head.nd rfl (by first | exact Or.inl rfl | exact Or.inr rfl)) (s_one (s_set (ps_set (i := 2) sc_leads_to_head.nd rfl (by first | exact Or.inl rfl | exact Or.inr rfl) (DE.ee (d_ix (d_v (pv 0)) (d_v (pv 2)) (fun _ _ => rfl))))))))
    (s_one (s_ret (d_cmp (c_eq hr.units) (d_ix (d_v (pv 0)) (d_v (pv 2)) (fun _ _ => rfl)) (d_v (pv 2)) (nomark _)))))))
theorem ok_lots_in (T : Txt mg) (F : FunD K mg "lots_in" s_lots_in ["ups"]) (d_way_up : Def P w K mg base 1 "way_up" ["ups", "x"] (spP K (fnP F_way_up))) : Def P w K mg base 2 "lots_in" ["ups"] (spP K (fnP F_lots_in)) :=
  lots_def F sc_lots_in (fun f cdv A outer s H E hr => (pss_cons (ps_set (i := 1) sc_lots_in.nd rfl (by first | exact Or.inl rfl | exact Or.inr rfl) pe_dnewK)
    (pss_cons (ps_for PassesOwn.never rfl (pi_range1 rfl T.n_range (pa_consN ns_Call (pe_callB call_len rfl T.n_len bt_len (pa_consN ns_Name (pv 0) pa_nil) (he := ns_Name _ _)) pa_nil)) (pg_name (i := 2) sc_lots_in.nd rfl (by first | exact Or.inl rfl | exact Or.inr rfl))
      (pss_cons (ps_set (i := 3) sc_lots_in.nd rfl (by first | exact Or.inl rfl | exact Or.inr rfl) (pe_ix ix_seq (pe_callD d_way_up hr (pa_consN ns_Name (pv 0) (pa_consN ns_Name (pv 2) pa_nil)) (he := ns_Name _ _)) (pe_un un_neg pe_int) (fun _ _ => rfl)))
        (pss_one (ps_expr (pe_bm PySem.F.plainAttrs_list PySem.F.slot_list_append PySem.F.type_list_append mt_append (pe_dsetd (pv 1) (pv 3) (pe_lst pa_nil) ⟨rfl, rfl, rfl, rfl⟩) (pa_consN ns_Name (pv 2) pa_nil))))))
    (pss_one (ps_ret (pe_cmp' ["lot"] [none] (pi_vals (pv 1)) (fun bC bs bH bx => (pg_name (i := 0) (show List.Nodup (["lot"] : List Str) by decide +kernel) rfl (by first | exact Or.inl rfl | exact Or.inr rfl))) (fun bC bs bH bx => pif_nil) (fun bC bs bH bx => (pe_callTy call_tuple_of rfl T.n_tuple bt_tuple (pa_consN ns_Name (pv 0) pa_nil) (he := ns_Name _ _))) (gkeep_name rfl)))))))
theorem ok_head_of (T : Txt mg) (F : FunD K mg "head_of" s_head_of ["ups", "x"]) (d_check_forest_and_thing : Def P w K mg base 5 "check_forest_and_thing" ["ups", "x"] (spP K (fnP F_check_forest_and_thing))) (d_way_up : Def P w K mg base 1 "way_up" ["ups", "x"] (spP K (fnP F_way_up))) : Def P w K mg base 6 "head_of" ["ups", "x"] (spP K (fnP F_head_of)) :=
  d_def F sc_head_of (fun f cdv A outer s H E hr => (s_cons (s_expr (ps_expr (DE.ee (d_callD d_check_forest_and_thing hr (a_cons ns_Name (d_v (pv 0)) (a_cons ns_Name (d_v (pv 1)) a_nil)) (he := ns_Name _ _)))))
    (s_one (s_ret (d_ix (d_callD d_way_up hr (a_cons ns_Name (d_v (pv 0)) (a_cons ns_Name (d_v (pv 1)) a_nil)) (he := ns_Name _ _)) (d_neg d_int) (fun _ _ => rfl))))))
theorem ok__law_whole (T : Txt mg) (F : FunD K mg "_law_whole" s__law_whole ["_law_thing"]) : Def P w K mg base 1 "_law_whole" ["_law_thing"] (spP K (fnP F__law_whole)) :=
  d_def F sc__law_whole (fun f cdv A outer s H E hr => (s_one (s_ret (d_and (d_cb rc_isI kIs_ok (pe_callB call_isinst rfl T.n_isinstance bt_isinstance (DA.t (a_cons ns_Name (d_v (pv 0)) (a_cons ns_Name (d_c (pu_c (p := .ty "int") (pe_ty T.n_int bt_int))) a_nil))) (he := ns_Name _ _))) (d_one (d_not (d_cb rc_isI kIs_ok (pe_callB call_isinst rfl T.n_isinstance bt_isinstance (DA.t (a_cons ns_Name (d_v (pv 0)) (a_cons ns_Name (d_c (pu_c (p := .ty "bool") (pe_ty T.n_bool bt_bool))) a_nil))) (he := ns_Name _ _)))))))))
end
end K02
end
section
namespace K02
open PySem L2 Fo Pu Dp
section
variable {P : Program} {w : World} {K : PySem.W.Frag} {mg : Str → Option Value} {base : Heap}
theorem ok__law_lots_by (T : Txt mg) (F : FunD K mg "_law_lots_by" s__law_lots_by ["_law_many_here", "_law_pairs"]) : Def P w K mg base 1 "_law_lots_by" ["_law_many_here", "_law_pairs"] (spP K (fnP F__law_lots_by)) :=
  d_def F sc__law_lots_by (fun f cdv A outer s H E hr => (s_cons (s_setC r_name (ps_setComp' (i := 2) ["_law_x"] [none] sc__law_lots_by.nd (i_rng1 (pi_range1 rfl T.n_range (DA.t (a_cons ns_Name (d_v (pv 0)) a_nil)))) (fun bC bs bH bx => (pg_name (i := 0) (show List.Nodup (["_law_x"] : List Str) by decide +kernel) rfl (by first | exact Or.inl rfl | exact Or.inr rfl))) (fun bC bs bH bx => if_nil) (fun bC bs bH bx => DE.ee (d_tup (a_cons ns_Name (d_v (pv 0)) a_nil))) (gkeep_name rfl)))
    (s_cons (s_for (r_tup (r_cons r_name (r_cons r_name r_nil))) (ps_for PassesOwn.never rfl (i_seq (d_v (pv 1))) (k_gtup (K := K) (n := 2) rfl rfl (pgs_cons (pg_name (i := 3) sc__law_lots_by.nd rfl (by first | exact Or.inl rfl | exact Or.inr rfl)) (pgs_cons (pg_name (i := 4) sc__law_lots_by.nd rfl (by first | exact Or.inl rfl | exact Or.inr rfl)) pgs_nil))) (s_cons (s_set (ps_set (i := 5) sc__law_lots_by.nd rfl (by first | exact Or.inl rfl | exact Or.inr rfl) (DE.ee (d_ix (d_comp r_name (pe_cmp' ["_law_lot", "_law_x"] [none, some 3] (i_seq (d_v (pv 2))) (fun bC bs bH bx => (pg_name (i := 0) (show List.Nodup (["_law_lot", "_law_x"] : List Str) by decide +kernel) rfl (by first | exact Or.inl rfl | exact Or.inr rfl))) (fun bC bs bH bx => (if_one (b_cmp (c_in hr.units) (d_v (pv 1)) (d_v (pv 0)) (by with_unfolding_all rfl)))) (fun bC bs bH bx => DE.ee (d_v (pv 0))) (gkeep_name rfl))) d_int (fun _ _ => rfl)))))
    (s_cons (s_set (ps_set (i := 6) sc__law_lots_by.nd rfl (by first | exact Or.inl rfl | exact Or.inr rfl) (DE.ee (d_ix (d_comp r_name (pe_cmp' ["_law_lot", "_law_y"] [none, some 4] (i_seq (d_v (pv 2))) (fun bC bs bH bx => (pg_name (i := 0) (show List.Nodup (["_law_lot", "_law_y"] : List Str) by decide +kernel) rfl (by first | exact Or.inl rfl | exact Or.inr rfl))) (fun bC bs bH bx => (if_one (b_cmp (c_in hr.units) (d_v (pv 1)) (d_v (pv 0)) (by with_unfolding_all rfl)))) (fun bC bs bH bx => DE.ee (d_v (pv 0))) (gkeep_name rfl))) d_int (fun _ _ => rfl)))))
    (s_one (s_if (b_cmp (c_ne hr.units) (d_v (pv 5)) (d_v (pv 6)) (nomark _)) (s_one (s_set (ps_set (i := 2) sc__law_lots_by.nd rfl (by first | exact Or.inl rfl | exact Or.inr rfl) (DE.ee (d_add (d_comp r_name (pe_cmp' ["_law_lot", "_law_one", "_law_other"] [none, some 5, some 6] (i_seq (d_v (pv 2))) (fun bC bs bH bx => (pg_name (i := 0) (show List.Nodup (["_law_lot", "_law_one", "_law_other"] : List Str) by decide +kernel) rfl (by first | exact Or.inl rfl | exact Or.inr rfl))) (fun bC bs bH bx => (if_one (b_cmp (c_notIn hr.units) (d_v (pv 0)) (d_tup (a_cons ns_Name (d_v (pv 1)) (a_cons ns_Name (d_v (pv 2)) a_nil))) (by with_unfolding_all rfl)))) (fun bC bs bH bx => DE.ee (d_v (pv 0))) (gkeep_name rfl))) (d_lst (a_cons ns_Call (d_cb rc_tup kTup_ok (pe_callTy call_tuple_of rfl T.n_tuple bt_tuple (DA.t (a_cons ns_Call (d_cn rc_sortedI kSortI_ok (pe_callB call_sortedI rfl T.n_sorted bt_sorted (DA.t (a_cons ns_BinOp (d_add (d_v (pv 5)) (d_v (pv 6))) a_nil)) (he := ns_BinOp _ _))) a_nil)) (he := ns_Call _ _))) a_nil))))))) s_nil))))))
    (s_one (s_ret (d_cn rc_sortedT kSorted_ok (pe_callB call_sortedT rfl T.n_sorted bt_sorted (DA.t (a_cons ns_Name (d_v (pv 2)) a_nil)) (he := ns_Name _ _))))))))
theorem ok_lot_with (T : Txt mg) (F : FunD K mg "lot_with" s_lot_with ["ups", "x"]) (d_way_up : Def P w K mg base 1 "way_up" ["ups", "x"] (spP K (fnP F_way_up))) : Def P w K mg base 2 "lot_with" ["ups", "x"] (spP K (fnP F_lot_with)) :=
  d_def F sc_lot_with (fun f cdv A outer s H E hr => (s_cons (s_set (ps_set (i := 2) sc_lot_with.nd rfl (by first | exact Or.inl rfl | exact Or.inr rfl) (DE.ee (d_ix (d_callD d_way_up hr (a_cons ns_Name (d_v (pv 0)) (a_cons ns_Name (d_v (pv 1)) a_nil)) (he := ns_Name _ _)) (d_neg d_int) (fun _ _ => rfl)))))
    (s_one (s_ret (d_cb rc_tup kTup_ok (pe_callTy call_tuple_of rfl T.n_tuple bt_tuple (DA.t (a_cons ns_ListComp (d_comp r_name (pe_cmp' ["y", "ups", "head"] [none, some 0, some 2] (i_rng1 (pi_range1 rfl T.n_range (DA.t (a_cons ns_Call (d_cb rc_len kLen_ok (pe_callB call_len rfl T.n_len bt_len (DA.t (a_cons ns_Name (d_v (pv 0)) a_nil)) (he := ns_Name _ _))) a_nil)))) (fun bC bs bH bx => (pg_name (i := 0) (show List.Nodup (["y", "ups", "head"] : List Str) by decide +kernel) rfl (by first | exact Or.inl rfl | exact Or.inr rfl))) (fun bC bs bH bx => (if_one (b_cmp (c_eq hr.units) (d_ix (d_callD d_way_up hr (a_cons ns_Name (d_v (pv 1)) (a_cons ns_Name (d_v (pv 0)) a_nil)) (he := ns_Name _ _)) (d_neg d_int) (fun _ _ => rfl)) (d_v (pv 2)) (nomark _)))) (fun bC bs bH bx => DE.ee (d_v (pv 0))) (gkeep_name rfl))) a_nil)) (he := ns_ListComp _ _)))))))
theorem ok__law_thing_right (T : Txt mg) (F : FunD K mg "_law_thing_right" s__law_thing_right ["_law_ups", "_law_x", "_law_sizes_here", "_law_lots"]) (d__law_way : Def P w K mg base 1 "_law_way" ["_law_ups", "_law_x"] (spP K (fnP F__law_way))) (d_lot_of : Def P w K mg base 6 "lot_of" ["ups", "x"] (spP K (fnP F_lot_of))) (d_head_of : Def P w K mg base 6 "head_of" ["ups", "x"] (spP K (fnP F_head_of))) (d_depth_of : Def P w K mg base 6 "depth_of" ["ups", "x"] (spP K (fnP F_depth_of))) (d_size_of : Def P w K mg base 6 "size_of" ["ups", "x"] (spP K (fnP F_size_of))) (d_way_of : Def P w K mg base 6 "way_of" ["ups", "x"] (spP K (fnP F_way_of))) (d__law_whole : Def P w K mg base 1 "_law_whole" ["_law_thing"] (spP K (fnP F__law_whole))) : Def P w K mg base 7 "_law_thing_right" ["_law_ups", "_law_x", "_law_sizes_here", "_law_lots"] (spP K (fnP L__law_thing_right)) :=
  d_def F sc__law_thing_right (fun f cdv A outer s H E hr => (s_cons (s_set (ps_set (i := 4) sc__law_thing_right.nd rfl (by first | exact Or.inl rfl | exact Or.inr rfl) (DE.ee (d_callD d__law_way hr (a_cons ns_Name (d_v (pv 0)) (a_cons ns_Name (d_v (pv 1)) a_nil)) (he := ns_Name _ _)))))
    (s_cons (s_set (ps_set (i := 5) sc__law_thing_right.nd rfl (by first | exact Or.inl rfl | exact Or.inr rfl) (DE.ee (d_lst (a_cons ns_Call (d_callD d_head_of hr (a_cons ns_Name (d_v (pv 0)) (a_cons ns_Name (d_v (pv 1)) a_nil)) (he := ns_Name _ _)) (a_cons ns_Call (d_callD d_depth_of hr (a_cons ns_Name (d_v (pv 0)) (a_cons ns_Name (d_v (pv 1)) a_nil)) (he := ns_Name _ _)) (a_cons ns_Call (d_callD d_size_of hr (a_cons ns_Name (d_v (pv 0)) (a_cons ns_Name (d_v (pv 1)) a_nil)) (he := ns_Name _ _)) a_nil)))))))
    (s_cons (s_if (b_w (w_or (b_not (b_val (d_cb rc_all kAll_ok (pe_callB (call_all rfl) rfl T.n_all bt_all (DA.t (a_cons ns_ListComp (d_comp r_name (pe_cmp' ["_law_one"] [none] (i_seq (d_v (pv 5))) (fun bC bs bH bx => (pg_name (i := 0) (show List.Nodup (["_law_one"] : List Str) by decide +kernel) rfl (by first | exact Or.inl rfl | exact Or.inr rfl))) (fun bC bs bH bx => if_nil) (fun bC bs bH bx => DE.ee (d_callD d__law_whole hr (a_cons ns_Name (d_v (pv 0)) a_nil) (he := ns_Name _ _))) (gkeep_name rfl))) a_nil)) (he := ns_ListComp _ _))))) (w_or1 (b_cmp (c_ne hr.units) (d_v (pv 5)) (d_lst (a_cons ns_Subscript (d_ix (d_v (pv 4)) (d_neg d_int) (fun _ _ => rfl)) (a_cons ns_BinOp (d_sub (d_cb rc_len kLen_ok (pe_callB call_len rfl T.n_len bt_len (DA.t (a_cons ns_Name (d_v (pv 4)) a_nil)) (he := ns_Name _ _))) d_int) (a_cons ns_Subscript (d_ix (d_v (pv 2)) (d_v (pv 1)) (fun _ _ => rfl)) a_nil)))) (nomark _))))) (s_one (s_ret d_bl)) s_nil)
    (s_cons (s_if (b_w (w_or (b_not (b_val (d_cb rc_isI kIs_ok (pe_callB call_isinst rfl T.n_isinstance bt_isinstance (DA.t (a_cons ns_Call (d_callD d_way_of hr (a_cons ns_Name (d_v (pv 0)) (a_cons ns_Name (d_v (pv 1)) a_nil)) (he := ns_Name _ _)) (a_cons ns_Name (d_c (pu_c (p := .ty "tuple") (pe_ty T.n_tuple bt_tuple))) a_nil))) (he := ns_Call _ _))))) (w_or1 (b_cmp (c_ne hr.units) (d_callD d_way_of hr (a_cons ns_Name (d_v (pv 0)) (a_cons ns_Name (d_v (pv 1)) a_nil)) (he := ns_Name _ _)) (d_cb rc_tup kTup_ok (pe_callTy call_tuple_of rfl T.n_tuple bt_tuple (DA.t (a_cons ns_Name (d_v (pv 4)) a_nil)) (he := ns_Name _ _))) (nomark _))))) (s_one (s_ret d_bl)) s_nil)
    (s_cons (s_set (ps_set (i := 6) sc__law_thing_right.nd rfl (by first | exact Or.inl rfl | exact Or.inr rfl) (DE.ee (d_callD d_lot_of hr (a_cons ns_Name (d_v (pv 0)) (a_cons ns_Name (d_v (pv 1)) a_nil)) (he := ns_Name _ _)))))
    (s_one (s_ret (d_and (d_cb rc_isI kIs_ok (pe_callB call_isinst rfl T.n_isinstance bt_isinstance (DA.t (a_cons ns_Name (d_v (pv 6)) (a_cons ns_Name (d_c (pu_c (p := .ty "tuple") (pe_ty T.n_tuple bt_tuple))) a_nil))) (he := ns_Name _ _))) (d_one (d_cmp (c_eq hr.units) (d_lst (a_cons ns_Name (d_v (pv 6)) a_nil)) (d_comp r_name (pe_cmp' ["_law_one", "_law_x"] [none, some 1] (i_seq (d_v (pv 3))) (fun bC bs bH bx => (pg_name (i := 0) (show List.Nodup (["_law_one", "_law_x"] : List Str) by decide +kernel) rfl (by first | exact Or.inl rfl | exact Or.inr rfl))) (fun bC bs bH bx => (if_one (b_cmp (c_in hr.units) (d_v (pv 1)) (d_v (pv 0)) (by with_unfolding_all rfl)))) (fun bC bs bH bx => DE.ee (d_v (pv 0))) (gkeep_name rfl))) (nomark _))))))))))))
end
end K02
end
section
namespace K02
open PySem L2 Fo Pu Dp
section
variable {P : Program} {w : World} {K : PySem.W.Frag} {mg : Str → Option Value} {base : Heap}
theorem law_body (T : Txt mg) {f : Addr} {cdv : Value} {A : Around} {outer : List Env} {s : Shared} {H : Hp} {vs : List V} {Q : VK} {E : XK} (hr : Room 8 (A.deeper (PyProof.Rows.envOfC "law" (defScope s_law) s.heap.objs.size f cdv))) (h : spLaw K vs H Q E) (d__law_numbers : Def P w K mg base 1 "_law_numbers" ["_law_cell_here", "_law_many_here"] (spP K (fnP F__law_numbers))) (d__law_cell : Def P w K mg base 1 "_law_cell" ["_law_script", "_law_k"] (spP K (fnP F__law_cell))) (d__law_forest : Def P w K mg base 1 "_law_forest" ["_law_xs", "_law_many_here"] (spP K (fnP F__law_forest))) (d__law_right : Def P w K mg base 8 "_law_right" ["_law_ups"] (spP K (fnP L__law_right))) (d__law_many : Def P w K mg base 1 "_law_many" ["_law_x"] (spP K (fnP F__law_many))) :
    ∃ t, PSs (cxOf CX0 P w K mg base ["_law_script", "_law_ladder", "_law_some_here", "_law_cell_here", "_law_xs"] "law" (defScope s_law) f cdv A outer s H E).nox (defBody s_law) t ∧ t { nx := fun _ H' => Q .non H', rt := Q } (L2.start ["_law_script", "_law_ladder", "_law_some_here", "_law_cell_here", "_law_xs"] vs) H :=
  law_go (N := ["_law_script", "_law_ladder", "_law_some_here", "_law_cell_here", "_law_xs"]) (X := (cxOf CX0 P w K mg base ["_law_script", "_law_ladder", "_law_some_here", "_law_cell_here", "_law_xs"] "law" (defScope s_law) f cdv A outer s H E).nox) (s_cons (s_set (ps_set (i := 1) sc_law.nd rfl (by first | exact Or.inl rfl | exact Or.inr rfl) (DE.ee (d_cb rc_tup kTup_ok (pe_callTy call_tuple_of rfl T.n_tuple bt_tuple (DA.t (a_cons ns_ListComp (d_comp r_name (pe_cmp' ["_law_k"] [none] (i_rng1 (pi_range1 rfl T.n_range (DA.t (a_cons ns_Constant d_int a_nil)))) (fun bC bs bH bx => (pg_name (i := 0) (show List.Nodup (["_law_k"] : List Str) by decide +kernel) rfl (by first | exact Or.inl rfl | exact Or.inr rfl))) (fun bC bs bH bx => if_nil) (fun bC bs bH bx => DE.ee (d_cb rc_max2 kMax2_ok (pe_callB (call_max2 rfl) rfl T.n_max bt_max (DA.t (a_cons ns_Constant d_int (a_cons ns_BinOp (d_sub (d_v (pv 0)) d_int) a_nil))) (he := ns_Constant _ _)))) (gkeep_name rfl))) a_nil)) (he := ns_ListComp _ _))))))
    (s_cons (s_own2 (d_lst (a_cons ns_Name (d_v (pv 1)) (a_cons ns_Call (d_cb rc_tup kTup_ok (pe_callTy call_tuple_of rfl T.n_tuple bt_tuple (DA.t (a_cons ns_ListComp (d_comp r_name (pe_cmp' ["_law_k"] [none] (i_rng1 (pi_range1 rfl T.n_range (DA.t (a_cons ns_Constant d_int a_nil)))) (fun bC bs bH bx => (pg_name (i := 0) (show List.Nodup (["_law_k"] : List Str) by decide +kernel) rfl (by first | exact Or.inl rfl | exact Or.inr rfl))) (fun bC bs bH bx => if_nil) (fun bC bs bH bx => DE.ee (d_cb rc_min2 kMin2_ok (pe_callB (call_min2 rfl) rfl T.n_min bt_min (DA.t (a_cons ns_Constant d_int (a_cons ns_BinOp (d_add (d_v (pv 0)) d_int) a_nil))) (he := ns_Constant _ _)))) (gkeep_name rfl))) a_nil)) (he := ns_ListComp _ _))) a_nil))) sc_law.nd rfl (by first | exact Or.inl rfl | exact Or.inr rfl))
    (s_cons (s_for r_name (ps_for PassesOwn.never rfl (i_seq (d_add (d_lst (a_cons ns_Call (d_callD d__law_cell hr (a_cons ns_Name (d_v (pv 0)) (a_cons ns_Constant d_int a_nil)) (he := ns_Name _ _)) a_nil)) (d_sl (d_v (pv 0)) (o_pt d_int) (o_pt d_int)))) (pg_name (i := 3) sc_law.nd rfl (by first | exact Or.inl rfl | exact Or.inr rfl)) (s_cons (s_set (ps_set (i := 4) sc_law.nd rfl (by first | exact Or.inl rfl | exact Or.inr rfl) (DE.ee (d_callD d__law_numbers hr (a_cons ns_Name (d_v (pv 3)) (a_cons ns_Constant d_int a_nil)) (he := ns_Name _ _)))))
    (s_one (s_app (ps_expr (pe_bm PySem.F.plainAttrs_list PySem.F.slot_list_append PySem.F.type_list_append mt_append (pv 2) (DA.f (a_cons ns_Call (d_callD d__law_forest hr (a_cons ns_Name (d_v (pv 4)) (a_cons ns_Call (d_callD d__law_many hr (a_cons ns_Subscript (d_ix (d_v (pv 4)) d_int (fun _ _ => rfl)) a_nil) (he := ns_Subscript _ _)) a_nil)) (he := ns_Name _ _)) a_nil)))))))))
    (s_one (s_ret (d_cb rc_all kAll_ok (pe_callB (call_all rfl) rfl T.n_all bt_all (DA.t (a_cons ns_ListComp (d_comp r_name (pe_cmp' ["_law_ups"] [none] (i_seq (d_add (d_v (pv 2)) (d_sl (d_v (pv 2)) (o_pt d_int) (o_pt d_int)))) (fun bC bs bH bx => (pg_name (i := 0) (show List.Nodup (["_law_ups"] : List Str) by decide +kernel) rfl (by first | exact Or.inl rfl | exact Or.inr rfl))) (fun bC bs bH bx => if_nil) (fun bC bs bH bx => DE.ee (d_callD d__law_right hr (a_cons ns_Name (d_v (pv 0)) a_nil) (he := ns_Name _ _))) (gkeep_name rfl))) a_nil)) (he := ns_ListComp _ _)))))))) h law_true
end
end K02
end

section
namespace K02
open PySem L2 Fo Pu Dp
@[elab_as_elim] theorem len1 {P : List Value → Prop} {us : List Value} (h : us.length = 1) (k : ∀ a, P [a]) : P us := by
  obtain _ | ⟨_, us⟩ := us
  · cases h
  obtain _ | ⟨_, us⟩ := us
  · exact k _
  · simp at h
@[elab_as_elim] theorem len2 {P : List Value → Prop} {us : List Value} (h : us.length = 2) (k : ∀ a b, P [a, b]) : P us := by
  obtain _ | ⟨_, us⟩ := us
  · cases h
  obtain _ | ⟨_, us⟩ := us
  · cases h
  obtain _ | ⟨_, us⟩ := us
  · exact k _ _
  · simp at h
@[elab_as_elim] theorem len3 {P : List Value → Prop} {us : List Value} (h : us.length = 3) (k : ∀ a b c, P [a, b, c]) : P us := by
  obtain _ | ⟨_, us⟩ := us
  · cases h
  obtain _ | ⟨_, us⟩ := us
  · cases h
  obtain _ | ⟨_, us⟩ := us
  · cases h
  obtain _ | ⟨_, us⟩ := us
  · exact k _ _ _
  · simp at h
@[elab_as_elim] theorem len4 {P : List Value → Prop} {us : List Value} (h : us.length = 4) (k : ∀ a b c d, P [a, b, c, d]) : P us := by
  obtain _ | ⟨_, us⟩ := us
  · cases h
  obtain _ | ⟨_, us⟩ := us
  · cases h
  obtain _ | ⟨_, us⟩ := us
  · cases h
  obtain _ | ⟨_, us⟩ := us
  · cases h
  obtain _ | ⟨_, us⟩ := us
  · exact k _ _ _ _
  · simp at h
@[elab_as_elim] theorem len5 {P : List Value → Prop} {us : List Value} (h : us.length = 5) (k : ∀ a b c d e, P [a, b, c, d, e]) : P us := by
  obtain _ | ⟨_, us⟩ := us
  · cases h
  obtain _ | ⟨_, us⟩ := us
  · cases h
  obtain _ | ⟨_, us⟩ := us
  · cases h
  obtain _ | ⟨_, us⟩ := us
  · cases h
  obtain _ | ⟨_, us⟩ := us
  · cases h
  obtain _ | ⟨_, us⟩ := us
  · exact k _ _ _ _ _
  · simp at h
@[elab_as_elim] theorem len6 {P : List Value → Prop} {us : List Value} (h : us.length = 6) (k : ∀ a b c d e f, P [a, b, c, d, e, f]) : P us := by
  obtain _ | ⟨_, us⟩ := us
  · cases h
  obtain _ | ⟨_, us⟩ := us
  · cases h
  obtain _ | ⟨_, us⟩ := us
  · cases h
  obtain _ | ⟨_, us⟩ := us
  · cases h
  obtain _ | ⟨_, us⟩ := us
  · cases h
  obtain _ | ⟨_, us⟩ := us
  · cases h
  obtain _ | ⟨_, us⟩ := us
  · exact k _ _ _ _ _ _
  · simp at h
theorem all_mk {l : PySem.W.OpenLaw} {w : World} {K : PySem.W.Frag} {h : Heap} {mg : Str → Option Value} {fa f0 f1 f2 f3 f4 f5 f6 f7 f8 f9 f10 f11 f12 f13 f14 f15 f16 f17 f18 f19 f20 f21 f22 f23 f24 f25 f26 f27 f28 f29 f30 : Addr} (X : K.In h) (G : h.Ns mainGlobals mg) (hfa : mg "law" = some (.ref fa))
    {od0 an0 od1 an1 od2 an2 od3 an3 od4 an4 od5 an5 od6 an6 od7 an7 od8 an8 od9 an9 od10 an10 od11 an11 od12 an12 od13 an13 od14 an14 od15 an15 od16 an16 od17 an17 od18 an18 od19 an19 od20 an20 od21 an21 od22 an22 od23 an23 od24 an24 od25 an25 od26 an26 od27 an27 od28 an28 od29 an29 od30 an30 : Option Addr} {sl0 sl1 sl2 sl3 sl4 sl5 sl6 sl7 sl8 sl9 sl10 sl11 sl12 sl13 sl14 sl15 sl16 sl17 sl18 sl19 sl20 sl21 sl22 sl23 sl24 sl25 sl26 sl27 sl28 sl29 sl30 : Array (Option Value)} {oc0 kV0 dc0 pm0 cd0 ct0 oc1 kV1 dc1 pm1 cd1 ct1 oc2 kV2 dc2 pm2 cd2 ct2 oc3 kV3 dc3 pm3 cd3 ct3 oc4 kV4 dc4 pm4 cd4 ct4 oc5 kV5 dc5 pm5 cd5 ct5 oc6 kV6 dc6 pm6 cd6 ct6 oc7 kV7 dc7 pm7 cd7 ct7 oc8 kV8 dc8 pm8 cd8 ct8 oc9 kV9 dc9 pm9 cd9 ct9 oc10 kV10 dc10 pm10 cd10 ct10 oc11 kV11 dc11 pm11 cd11 ct11 oc12 kV12 dc12 pm12 cd12 ct12 oc13 kV13 dc13 pm13 cd13 ct13 oc14 kV14 dc14 pm14 cd14 ct14 oc15 kV15 dc15 pm15 cd15 ct15 oc16 kV16 dc16 pm16 cd16 ct16 oc17 kV17 dc17 pm17 cd17 ct17 oc18 kV18 dc18 pm18 cd18 ct18 oc19 kV19 dc19 pm19 cd19 ct19 oc20 kV20 dc20 pm20 cd20 ct20 oc21 kV21 dc21 pm21 cd21 ct21 oc22 kV22 dc22 pm22 cd22 ct22 oc23 kV23 dc23 pm23 cd23 ct23 oc24 kV24 dc24 pm24 cd24 ct24 oc25 kV25 dc25 pm25 cd25 ct25 oc26 kV26 dc26 pm26 cd26 ct26 oc27 kV27 dc27 pm27 cd27 ct27 oc28 kV28 dc28 pm28 cd28 ct28 oc29 kV29 dc29 pm29 cd29 ct29 oc30 kV30 dc30 pm30 cd30 ct30 : Value}
    (a0 : PySem.W.nsIn K mainGlobals "_law_numbers" = some (some (.ref f0))) (l0 : K.lookup f0 = some ⟨oc0, od0, .func (PySem.W.fnOf "_law_numbers" "_law_numbers" (defArgs s__law_numbers) (defBody s__law_numbers) (defScope s__law_numbers) .none kV0 dc0 pm0 an0 cd0 ct0), sl0⟩) (c0 : PySem.W.codeIn K cd0 "_law_numbers" = true) (k0 : PySem.W.keepIn K (.ref f0) = true)
    (a1 : PySem.W.nsIn K mainGlobals "_law_cell" = some (some (.ref f1))) (l1 : K.lookup f1 = some ⟨oc1, od1, .func (PySem.W.fnOf "_law_cell" "_law_cell" (defArgs s__law_cell) (defBody s__law_cell) (defScope s__law_cell) .none kV1 dc1 pm1 an1 cd1 ct1), sl1⟩) (c1 : PySem.W.codeIn K cd1 "_law_cell" = true) (k1 : PySem.W.keepIn K (.ref f1) = true)
    (a2 : PySem.W.nsIn K mainGlobals "_law_forest" = some (some (.ref f2))) (l2 : K.lookup f2 = some ⟨oc2, od2, .func (PySem.W.fnOf "_law_forest" "_law_forest" (defArgs s__law_forest) (defBody s__law_forest) (defScope s__law_forest) .none kV2 dc2 pm2 an2 cd2 ct2), sl2⟩) (c2 : PySem.W.codeIn K cd2 "_law_forest" = true) (k2 : PySem.W.keepIn K (.ref f2) = true)
    (a3 : PySem.W.nsIn K mainGlobals "_law_way" = some (some (.ref f3))) (l3 : K.lookup f3 = some ⟨oc3, od3, .func (PySem.W.fnOf "_law_way" "_law_way" (defArgs s__law_way) (defBody s__law_way) (defScope s__law_way) .none kV3 dc3 pm3 an3 cd3 ct3), sl3⟩) (c3 : PySem.W.codeIn K cd3 "_law_way" = true) (k3 : PySem.W.keepIn K (.ref f3) = true)
    (a4 : PySem.W.nsIn K mainGlobals "_law_sizes" = some (some (.ref f4))) (l4 : K.lookup f4 = some ⟨oc4, od4, .func (PySem.W.fnOf "_law_sizes" "_law_sizes" (defArgs s__law_sizes) (defBody s__law_sizes) (defScope s__law_sizes) .none kV4 dc4 pm4 an4 cd4 ct4), sl4⟩) (c4 : PySem.W.codeIn K cd4 "_law_sizes" = true) (k4 : PySem.W.keepIn K (.ref f4) = true)
    (a5 : PySem.W.nsIn K mainGlobals "_law_lots_by" = some (some (.ref f5))) (l5 : K.lookup f5 = some ⟨oc5, od5, .func (PySem.W.fnOf "_law_lots_by" "_law_lots_by" (defArgs s__law_lots_by) (defBody s__law_lots_by) (defScope s__law_lots_by) .none kV5 dc5 pm5 an5 cd5 ct5), sl5⟩) (c5 : PySem.W.codeIn K cd5 "_law_lots_by" = true) (k5 : PySem.W.keepIn K (.ref f5) = true)
    (a6 : PySem.W.nsIn K mainGlobals "is_whole" = some (some (.ref f6))) (l6 : K.lookup f6 = some ⟨oc6, od6, .func (PySem.W.fnOf "is_whole" "is_whole" (defArgs s_is_whole) (defBody s_is_whole) (defScope s_is_whole) .none kV6 dc6 pm6 an6 cd6 ct6), sl6⟩) (c6 : PySem.W.codeIn K cd6 "is_whole" = true) (k6 : PySem.W.keepIn K (.ref f6) = true)
    (a7 : PySem.W.nsIn K mainGlobals "is_many" = some (some (.ref f7))) (l7 : K.lookup f7 = some ⟨oc7, od7, .func (PySem.W.fnOf "is_many" "is_many" (defArgs s_is_many) (defBody s_is_many) (defScope s_is_many) .none kV7 dc7 pm7 an7 cd7 ct7), sl7⟩) (c7 : PySem.W.codeIn K cd7 "is_many" = true) (k7 : PySem.W.keepIn K (.ref f7) = true)
    (a8 : PySem.W.nsIn K mainGlobals "leads_to_head" = some (some (.ref f8))) (l8 : K.lookup f8 = some ⟨oc8, od8, .func (PySem.W.fnOf "leads_to_head" "leads_to_head" (defArgs s_leads_to_head) (defBody s_leads_to_head) (defScope s_leads_to_head) .none kV8 dc8 pm8 an8 cd8 ct8), sl8⟩) (c8 : PySem.W.codeIn K cd8 "leads_to_head" = true) (k8 : PySem.W.keepIn K (.ref f8) = true)
    (a9 : PySem.W.nsIn K mainGlobals "is_thing" = some (some (.ref f9))) (l9 : K.lookup f9 = some ⟨oc9, od9, .func (PySem.W.fnOf "is_thing" "is_thing" (defArgs s_is_thing) (defBody s_is_thing) (defScope s_is_thing) .none kV9 dc9 pm9 an9 cd9 ct9), sl9⟩) (c9 : PySem.W.codeIn K cd9 "is_thing" = true) (k9 : PySem.W.keepIn K (.ref f9) = true)
    (a10 : PySem.W.nsIn K mainGlobals "is_forest" = some (some (.ref f10))) (l10 : K.lookup f10 = some ⟨oc10, od10, .func (PySem.W.fnOf "is_forest" "is_forest" (defArgs s_is_forest) (defBody s_is_forest) (defScope s_is_forest) .none kV10 dc10 pm10 an10 cd10 ct10), sl10⟩) (c10 : PySem.W.codeIn K cd10 "is_forest" = true) (k10 : PySem.W.keepIn K (.ref f10) = true)
    (a11 : PySem.W.nsIn K mainGlobals "check_forest" = some (some (.ref f11))) (l11 : K.lookup f11 = some ⟨oc11, od11, .func (PySem.W.fnOf "check_forest" "check_forest" (defArgs s_check_forest) (defBody s_check_forest) (defScope s_check_forest) .none kV11 dc11 pm11 an11 cd11 ct11), sl11⟩) (c11 : PySem.W.codeIn K cd11 "check_forest" = true) (k11 : PySem.W.keepIn K (.ref f11) = true)
    (a12 : PySem.W.nsIn K mainGlobals "way_up" = some (some (.ref f12))) (l12 : K.lookup f12 = some ⟨oc12, od12, .func (PySem.W.fnOf "way_up" "way_up" (defArgs s_way_up) (defBody s_way_up) (defScope s_way_up) .none kV12 dc12 pm12 an12 cd12 ct12), sl12⟩) (c12 : PySem.W.codeIn K cd12 "way_up" = true) (k12 : PySem.W.keepIn K (.ref f12) = true)
    (a13 : PySem.W.nsIn K mainGlobals "lots_in" = some (some (.ref f13))) (l13 : K.lookup f13 = some ⟨oc13, od13, .func (PySem.W.fnOf "lots_in" "lots_in" (defArgs s_lots_in) (defBody s_lots_in) (defScope s_lots_in) .none kV13 dc13 pm13 an13 cd13 ct13), sl13⟩) (c13 : PySem.W.codeIn K cd13 "lots_in" = true) (k13 : PySem.W.keepIn K (.ref f13) = true)
    (a14 : PySem.W.nsIn K mainGlobals "lots_of" = some (some (.ref f14))) (l14 : K.lookup f14 = some ⟨oc14, od14, .func (PySem.W.fnOf "lots_of" "lots_of" (defArgs s_lots_of) (defBody s_lots_of) (defScope s_lots_of) .none kV14 dc14 pm14 an14 cd14 ct14), sl14⟩) (c14 : PySem.W.codeIn K cd14 "lots_of" = true) (k14 : PySem.W.keepIn K (.ref f14) = true)
    (a15 : PySem.W.nsIn K mainGlobals "height_of" = some (some (.ref f15))) (l15 : K.lookup f15 = some ⟨oc15, od15, .func (PySem.W.fnOf "height_of" "height_of" (defArgs s_height_of) (defBody s_height_of) (defScope s_height_of) .none kV15 dc15 pm15 an15 cd15 ct15), sl15⟩) (c15 : PySem.W.codeIn K cd15 "height_of" = true) (k15 : PySem.W.keepIn K (.ref f15) = true)
    (a16 : PySem.W.nsIn K mainGlobals "check_thing" = some (some (.ref f16))) (l16 : K.lookup f16 = some ⟨oc16, od16, .func (PySem.W.fnOf "check_thing" "check_thing" (defArgs s_check_thing) (defBody s_check_thing) (defScope s_check_thing) .none kV16 dc16 pm16 an16 cd16 ct16), sl16⟩) (c16 : PySem.W.codeIn K cd16 "check_thing" = true) (k16 : PySem.W.keepIn K (.ref f16) = true)
    (a17 : PySem.W.nsIn K mainGlobals "check_forest_and_thing" = some (some (.ref f17))) (l17 : K.lookup f17 = some ⟨oc17, od17, .func (PySem.W.fnOf "check_forest_and_thing" "check_forest_and_thing" (defArgs s_check_forest_and_thing) (defBody s_check_forest_and_thing) (defScope s_check_forest_and_thing) .none kV17 dc17 pm17 an17 cd17 ct17), sl17⟩) (c17 : PySem.W.codeIn K cd17 "check_forest_and_thing" = true) (k17 : PySem.W.keepIn K (.ref f17) = true)
    (a18 : PySem.W.nsIn K mainGlobals "lot_with" = some (some (.ref f18))) (l18 : K.lookup f18 = some ⟨oc18, od18, .func (PySem.W.fnOf "lot_with" "lot_with" (defArgs s_lot_with) (defBody s_lot_with) (defScope s_lot_with) .none kV18 dc18 pm18 an18 cd18 ct18), sl18⟩) (c18 : PySem.W.codeIn K cd18 "lot_with" = true) (k18 : PySem.W.keepIn K (.ref f18) = true)
    (a19 : PySem.W.nsIn K mainGlobals "lot_of" = some (some (.ref f19))) (l19 : K.lookup f19 = some ⟨oc19, od19, .func (PySem.W.fnOf "lot_of" "lot_of" (defArgs s_lot_of) (defBody s_lot_of) (defScope s_lot_of) .none kV19 dc19 pm19 an19 cd19 ct19), sl19⟩) (c19 : PySem.W.codeIn K cd19 "lot_of" = true) (k19 : PySem.W.keepIn K (.ref f19) = true)
    (a20 : PySem.W.nsIn K mainGlobals "head_of" = some (some (.ref f20))) (l20 : K.lookup f20 = some ⟨oc20, od20, .func (PySem.W.fnOf "head_of" "head_of" (defArgs s_head_of) (defBody s_head_of) (defScope s_head_of) .none kV20 dc20 pm20 an20 cd20 ct20), sl20⟩) (c20 : PySem.W.codeIn K cd20 "head_of" = true) (k20 : PySem.W.keepIn K (.ref f20) = true)
    (a21 : PySem.W.nsIn K mainGlobals "depth_of" = some (some (.ref f21))) (l21 : K.lookup f21 = some ⟨oc21, od21, .func (PySem.W.fnOf "depth_of" "depth_of" (defArgs s_depth_of) (defBody s_depth_of) (defScope s_depth_of) .none kV21 dc21 pm21 an21 cd21 ct21), sl21⟩) (c21 : PySem.W.codeIn K cd21 "depth_of" = true) (k21 : PySem.W.keepIn K (.ref f21) = true)
    (a22 : PySem.W.nsIn K mainGlobals "sizes_in" = some (some (.ref f22))) (l22 : K.lookup f22 = some ⟨oc22, od22, .func (PySem.W.fnOf "sizes_in" "sizes_in" (defArgs s_sizes_in) (defBody s_sizes_in) (defScope s_sizes_in) .none kV22 dc22 pm22 an22 cd22 ct22), sl22⟩) (c22 : PySem.W.codeIn K cd22 "sizes_in" = true) (k22 : PySem.W.keepIn K (.ref f22) = true)
    (a23 : PySem.W.nsIn K mainGlobals "size_of" = some (some (.ref f23))) (l23 : K.lookup f23 = some ⟨oc23, od23, .func (PySem.W.fnOf "size_of" "size_of" (defArgs s_size_of) (defBody s_size_of) (defScope s_size_of) .none kV23 dc23 pm23 an23 cd23 ct23), sl23⟩) (c23 : PySem.W.codeIn K cd23 "size_of" = true) (k23 : PySem.W.keepIn K (.ref f23) = true)
    (a24 : PySem.W.nsIn K mainGlobals "way_of" = some (some (.ref f24))) (l24 : K.lookup f24 = some ⟨oc24, od24, .func (PySem.W.fnOf "way_of" "way_of" (defArgs s_way_of) (defBody s_way_of) (defScope s_way_of) .none kV24 dc24 pm24 an24 cd24 ct24), sl24⟩) (c24 : PySem.W.codeIn K cd24 "way_of" = true) (k24 : PySem.W.keepIn K (.ref f24) = true)
    (a25 : PySem.W.nsIn K mainGlobals "_law_whole" = some (some (.ref f25))) (l25 : K.lookup f25 = some ⟨oc25, od25, .func (PySem.W.fnOf "_law_whole" "_law_whole" (defArgs s__law_whole) (defBody s__law_whole) (defScope s__law_whole) .none kV25 dc25 pm25 an25 cd25 ct25), sl25⟩) (c25 : PySem.W.codeIn K cd25 "_law_whole" = true) (k25 : PySem.W.keepIn K (.ref f25) = true)
    (a26 : PySem.W.nsIn K mainGlobals "_law_thing_right" = some (some (.ref f26))) (l26 : K.lookup f26 = some ⟨oc26, od26, .func (PySem.W.fnOf "_law_thing_right" "_law_thing_right" (defArgs s__law_thing_right) (defBody s__law_thing_right) (defScope s__law_thing_right) .none kV26 dc26 pm26 an26 cd26 ct26), sl26⟩) (c26 : PySem.W.codeIn K cd26 "_law_thing_right" = true) (k26 : PySem.W.keepIn K (.ref f26) = true)
    (a27 : PySem.W.nsIn K mainGlobals "_law_some" = some (some (.ref f27))) (l27 : K.lookup f27 = some ⟨oc27, od27, .func (PySem.W.fnOf "_law_some" "_law_some" (defArgs s__law_some) (defBody s__law_some) (defScope s__law_some) .none kV27 dc27 pm27 an27 cd27 ct27), sl27⟩) (c27 : PySem.W.codeIn K cd27 "_law_some" = true) (k27 : PySem.W.keepIn K (.ref f27) = true)
    (a28 : PySem.W.nsIn K mainGlobals "_law_right" = some (some (.ref f28))) (l28 : K.lookup f28 = some ⟨oc28, od28, .func (PySem.W.fnOf "_law_right" "_law_right" (defArgs s__law_right) (defBody s__law_right) (defScope s__law_right) .none kV28 dc28 pm28 an28 cd28 ct28), sl28⟩) (c28 : PySem.W.codeIn K cd28 "_law_right" = true) (k28 : PySem.W.keepIn K (.ref f28) = true)
    (a29 : PySem.W.nsIn K mainGlobals "_law_many" = some (some (.ref f29))) (l29 : K.lookup f29 = some ⟨oc29, od29, .func (PySem.W.fnOf "_law_many" "_law_many" (defArgs s__law_many) (defBody s__law_many) (defScope s__law_many) .none kV29 dc29 pm29 an29 cd29 ct29), sl29⟩) (c29 : PySem.W.codeIn K cd29 "_law_many" = true) (k29 : PySem.W.keepIn K (.ref f29) = true)
    (a30 : PySem.W.nsIn K mainGlobals "law" = some (some (.ref f30))) (l30 : K.lookup f30 = some ⟨oc30, od30, .func (PySem.W.fnOf "law" "law" (defArgs s_law) (defBody s_law) (defScope s_law) .none kV30 dc30 pm30 an30 cd30 ct30), sl30⟩) (c30 : PySem.W.codeIn K cd30 "law" = true) (k30 : PySem.W.keepIn K (.ref f30) = true)
    (z_abs : PySem.W.nsIn K mainGlobals "abs" = some none)
    (z_all : PySem.W.nsIn K mainGlobals "all" = some none)
    (z_bool : PySem.W.nsIn K mainGlobals "bool" = some none)
    (z_int : PySem.W.nsIn K mainGlobals "int" = some none)
    (z_isinstance : PySem.W.nsIn K mainGlobals "isinstance" = some none)
    (z_len : PySem.W.nsIn K mainGlobals "len" = some none)
    (z_list : PySem.W.nsIn K mainGlobals "list" = some none)
    (z_max : PySem.W.nsIn K mainGlobals "max" = some none)
    (z_min : PySem.W.nsIn K mainGlobals "min" = some none)
    (z_range : PySem.W.nsIn K mainGlobals "range" = some none)
    (z_sorted : PySem.W.nsIn K mainGlobals "sorted" = some none)
    (z_tuple : PySem.W.nsIn K mainGlobals "tuple" = some none)
    {tk_MOST_THINGS : Tok}
    (y_MOST_THINGS : PySem.W.nsIn K mainGlobals "MOST_THINGS" = some (some (.int 40 tk_MOST_THINGS)))
    : ∃ fd : FuncData, (∀ (s : Shared) (u : Value), BindsTo s fd ⟨[u], []⟩ [("_law_script", u)]) ∧ ∀ base : Heap, K.In base ∧ base.Ns mainGlobals mg → FnOk l.prog w K mg base CX0 9 fa fd ["_law_script"] (spLaw K) := by
  have T : Txt mg := ⟨PySem.W.mg_none_of X G z_abs, PySem.W.mg_none_of X G z_all, PySem.W.mg_none_of X G z_bool, PySem.W.mg_none_of X G z_int, PySem.W.mg_none_of X G z_isinstance, PySem.W.mg_none_of X G z_len, PySem.W.mg_none_of X G z_list, PySem.W.mg_none_of X G z_max, PySem.W.mg_none_of X G z_min, PySem.W.mg_none_of X G z_range, PySem.W.mg_none_of X G z_sorted, PySem.W.mg_none_of X G z_tuple, ⟨_, PySem.W.mg_of X G y_MOST_THINGS⟩⟩
  have F__law_numbers : FunD K mg "_law_numbers" s__law_numbers ["_law_cell_here", "_law_many_here"] := fund_mk l0 c0 k0 (PySem.W.mg_of X G a0) fun _ _ _ _ _ _ us hl => len2 hl fun _ _ => rfl
  have F__law_cell : FunD K mg "_law_cell" s__law_cell ["_law_script", "_law_k"] := fund_mk l1 c1 k1 (PySem.W.mg_of X G a1) fun _ _ _ _ _ _ us hl => len2 hl fun _ _ => rfl
  have F__law_forest : FunD K mg "_law_forest" s__law_forest ["_law_xs", "_law_many_here"] := fund_mk l2 c2 k2 (PySem.W.mg_of X G a2) fun _ _ _ _ _ _ us hl => len2 hl fun _ _ => rfl
  have F__law_way : FunD K mg "_law_way" s__law_way ["_law_ups", "_law_x"] := fund_mk l3 c3 k3 (PySem.W.mg_of X G a3) fun _ _ _ _ _ _ us hl => len2 hl fun _ _ => rfl
  have F__law_sizes : FunD K mg "_law_sizes" s__law_sizes ["_law_ups"] := fund_mk l4 c4 k4 (PySem.W.mg_of X G a4) fun _ _ _ _ _ _ us hl => len1 hl fun _ => rfl
  have F__law_lots_by : FunD K mg "_law_lots_by" s__law_lots_by ["_law_many_here", "_law_pairs"] := fund_mk l5 c5 k5 (PySem.W.mg_of X G a5) fun _ _ _ _ _ _ us hl => len2 hl fun _ _ => rfl
  have F_is_whole : FunD K mg "is_whole" s_is_whole ["thing"] := fund_mk l6 c6 k6 (PySem.W.mg_of X G a6) fun _ _ _ _ _ _ us hl => len1 hl fun _ => rfl
  have F_is_many : FunD K mg "is_many" s_is_many ["thing"] := fund_mk l7 c7 k7 (PySem.W.mg_of X G a7) fun _ _ _ _ _ _ us hl => len1 hl fun _ => rfl
  have F_leads_to_head : FunD K mg "leads_to_head" s_leads_to_head ["ups", "x"] := fund_mk l8 c8 k8 (PySem.W.mg_of X G a8) fun _ _ _ _ _ _ us hl => len2 hl fun _ _ => rfl
  have F_is_thing : FunD K mg "is_thing" s_is_thing ["many", "thing"] := fund_mk l9 c9 k9 (PySem.W.mg_of X G a9) fun _ _ _ _ _ _ us hl => len2 hl fun _ _ => rfl
  have F_is_forest : FunD K mg "is_forest" s_is_forest ["thing"] := fund_mk l10 c10 k10 (PySem.W.mg_of X G a10) fun _ _ _ _ _ _ us hl => len1 hl fun _ => rfl
  have F_check_forest : FunD K mg "check_forest" s_check_forest ["ups"] := fund_mk l11 c11 k11 (PySem.W.mg_of X G a11) fun _ _ _ _ _ _ us hl => len1 hl fun _ => rfl
  have F_way_up : FunD K mg "way_up" s_way_up ["ups", "x"] := fund_mk l12 c12 k12 (PySem.W.mg_of X G a12) fun _ _ _ _ _ _ us hl => len2 hl fun _ _ => rfl
  have F_lots_in : FunD K mg "lots_in" s_lots_in ["ups"] := fund_mk l13 c13 k13 (PySem.W.mg_of X G a13) fun _ _ _ _ _ _ us hl => len1 hl fun _ => rfl
  have F_lots_of : FunD K mg "lots_of" s_lots_of ["ups"] := fund_mk l14 c14 k14 (PySem.W.mg_of X G a14) fun _ _ _ _ _ _ us hl => len1 hl fun _ => rfl
  have F_height_of : FunD K mg "height_of" s_height_of ["ups"] := fund_mk l15 c15 k15 (PySem.W.mg_of X G a15) fun _ _ _ _ _ _ us hl => len1 hl fun _ => rfl
  have F_check_thing : FunD K mg "check_thing" s_check_thing ["many", "x"] := fund_mk l16 c16 k16 (PySem.W.mg_of X G a16) fun _ _ _ _ _ _ us hl => len2 hl fun _ _ => rfl
  have F_check_forest_and_thing : FunD K mg "check_forest_and_thing" s_check_forest_and_thing ["ups", "x"] := fund_mk l17 c17 k17 (PySem.W.mg_of X G a17) fun _ _ _ _ _ _ us hl => len2 hl fun _ _ => rfl
  have F_lot_with : FunD K mg "lot_with" s_lot_with ["ups", "x"] := fund_mk l18 c18 k18 (PySem.W.mg_of X G a18) fun _ _ _ _ _ _ us hl => len2 hl fun _ _ => rfl
  have F_lot_of : FunD K mg "lot_of" s_lot_of ["ups", "x"] := fund_mk l19 c19 k19 (PySem.W.mg_of X G a19) fun _ _ _ _ _ _ us hl => len2 hl fun _ _ => rfl
  have F_head_of : FunD K mg "head_of" s_head_of ["ups", "x"] := fund_mk l20 c20 k20 (PySem.W.mg_of X G a20) fun _ _ _ _ _ _ us hl => len2 hl fun _ _ => rfl
  have F_depth_of : FunD K mg "depth_of" s_depth_of ["ups", "x"] := fund_mk l21 c21 k21 (PySem.W.mg_of X G a21) fun _ _ _ _ _ _ us hl => len2 hl fun _ _ => rfl
  have F_sizes_in : FunD K mg "sizes_in" s_sizes_in ["ups"] := fund_mk l22 c22 k22 (PySem.W.mg_of X G a22) fun _ _ _ _ _ _ us hl => len1 hl fun _ => rfl
  have F_size_of : FunD K mg "size_of" s_size_of ["ups", "x"] := fund_mk l23 c23 k23 (PySem.W.mg_of X G a23) fun _ _ _ _ _ _ us hl => len2 hl fun _ _ => rfl
  have F_way_of : FunD K mg "way_of" s_way_of ["ups", "x"] := fund_mk l24 c24 k24 (PySem.W.mg_of X G a24) fun _ _ _ _ _ _ us hl => len2 hl fun _ _ => rfl
  have F__law_whole : FunD K mg "_law_whole" s__law_whole ["_law_thing"] := fund_mk l25 c25 k25 (PySem.W.mg_of X G a25) fun _ _ _ _ _ _ us hl => len1 hl fun _ => rfl
  have F__law_thing_right : FunD K mg "_law_thing_right" s__law_thing_right ["_law_ups", "_law_x", "_law_sizes_here", "_law_lots"] := fund_mk l26 c26 k26 (PySem.W.mg_of X G a26) fun _ _ _ _ _ _ us hl => len4 hl fun _ _ _ _ => rfl
  have F__law_some : FunD K mg "_law_some" s__law_some ["_law_many_here"] := fund_mk l27 c27 k27 (PySem.W.mg_of X G a27) fun _ _ _ _ _ _ us hl => len1 hl fun _ => rfl
  have F__law_right : FunD K mg "_law_right" s__law_right ["_law_ups"] := fund_mk l28 c28 k28 (PySem.W.mg_of X G a28) fun _ _ _ _ _ _ us hl => len1 hl fun _ => rfl
  have F__law_many : FunD K mg "_law_many" s__law_many ["_law_x"] := fund_mk l29 c29 k29 (PySem.W.mg_of X G a29) fun _ _ _ _ _ _ us hl => len1 hl fun _ => rfl
  have F_law : FunD K mg "law" s_law ["_law_script"] := fund_mk l30 c30 k30 (PySem.W.mg_of X G a30) fun _ _ _ _ _ _ us hl => len1 hl fun _ => rfl
  refine FunD.top (R := fun base => K.In base ∧ base.Ns mainGlobals mg) F_law hfa sc_law (fun vs H Q E h => by obtain ⟨a, ns, rfl, _⟩ := h; rfl) fun base hb f cdv A outer s H vs Q E hr h => ?_
  have D__law_numbers := ok__law_numbers (P := l.prog) (w := w) (base := base) T F__law_numbers 
  have D__law_cell := ok__law_cell (P := l.prog) (w := w) (base := base) T F__law_cell 
  have D__law_forest := ok__law_forest (P := l.prog) (w := w) (base := base) T F__law_forest 
  have D__law_way := ok__law_way (P := l.prog) (w := w) (base := base) T F__law_way 
  have D__law_sizes := ok__law_sizes (P := l.prog) (w := w) (base := base) T F__law_sizes D__law_way
  have D__law_lots_by := ok__law_lots_by (P := l.prog) (w := w) (base := base) T F__law_lots_by 
  have D_is_whole := ok_is_whole (P := l.prog) (w := w) (base := base) T F_is_whole 
  have D_is_many := ok_is_many (P := l.prog) (w := w) (base := base) T F_is_many D_is_whole
  have D_leads_to_head := ok_leads_to_head (P := l.prog) (w := w) (base := base) T F_leads_to_head 
  have D_is_thing := ok_is_thing (P := l.prog) (w := w) (base := base) T F_is_thing D_is_whole
  have D_is_forest := ok_is_forest (P := l.prog) (w := w) (base := base) T F_is_forest D_is_many D_leads_to_head D_is_thing
  have D_check_forest := ok_check_forest (P := l.prog) (w := w) (base := base) T F_check_forest D_is_forest
  have D_way_up := ok_way_up (P := l.prog) (w := w) (base := base) T F_way_up 
  have D_lots_in := ok_lots_in (P := l.prog) (w := w) (base := base) T F_lots_in D_way_up
  have D_lots_of := ok_lots_of (P := l.prog) (w := w) (base := base) T F_lots_of D_check_forest D_lots_in
  have D_height_of := ok_height_of (P := l.prog) (w := w) (base := base) T F_height_of D_check_forest D_way_up
  have D_check_thing := ok_check_thing (P := l.prog) (w := w) (base := base) T F_check_thing D_is_thing
  have D_check_forest_and_thing := ok_check_forest_and_thing (P := l.prog) (w := w) (base := base) T F_check_forest_and_thing D_check_forest D_check_thing
  have D_lot_with := ok_lot_with (P := l.prog) (w := w) (base := base) T F_lot_with D_way_up
  have D_lot_of := ok_lot_of (P := l.prog) (w := w) (base := base) T F_lot_of D_check_forest_and_thing D_lot_with
  have D_head_of := ok_head_of (P := l.prog) (w := w) (base := base) T F_head_of D_check_forest_and_thing D_way_up
  have D_depth_of := ok_depth_of (P := l.prog) (w := w) (base := base) T F_depth_of D_check_forest_and_thing D_way_up
  have D_sizes_in := ok_sizes_in (P := l.prog) (w := w) (base := base) T F_sizes_in D_way_up
  have D_size_of := ok_size_of (P := l.prog) (w := w) (base := base) T F_size_of D_check_forest_and_thing D_sizes_in
  have D_way_of := ok_way_of (P := l.prog) (w := w) (base := base) T F_way_of D_check_forest_and_thing D_way_up
  have D__law_whole := ok__law_whole (P := l.prog) (w := w) (base := base) T F__law_whole 
  have D__law_thing_right := ok__law_thing_right (P := l.prog) (w := w) (base := base) T F__law_thing_right D__law_way D_lot_of D_head_of D_depth_of D_size_of D_way_of D__law_whole
  have D__law_some := ok__law_some (P := l.prog) (w := w) (base := base) T F__law_some 
  have D__law_right := ok__law_right (P := l.prog) (w := w) (base := base) T F__law_right D__law_sizes D__law_lots_by D_lots_of D_height_of D__law_thing_right D__law_some D__law_way
  have D__law_many := ok__law_many (P := l.prog) (w := w) (base := base) T F__law_many 
  exact law_body T hr h D__law_numbers D__law_cell D__law_forest D__law_right D__law_many
end K02
open PySem PySem.W PyProof.Rows
set_option maxRecDepth 100000 in
set_option maxHeartbeats 0 in
theorem PySem.Challenge.cw_lotheads_k02_ways_heads_and_lots_holds : PySem.Challenge.rw_lotheads_k02_ways_heads_and_lots.Holds := by
  w_on; o_law; k_head; (case hw => w_witness2)
  k_fill
  refine Pu.walk (k := 9) (by decide) (l := PySem.Challenge.rw_lotheads_k02_ways_heads_and_lots) rfl rfl (fun w h Y => PySem.W.kIn_of Y) ?F
  case F =>
    intro w mg fa h KX G hmg
    refine' K02.all_mk KX G hmg ?a0 ?l0 ?c0 ?k0 ?a1 ?l1 ?c1 ?k1 ?a2 ?l2 ?c2 ?k2 ?a3 ?l3 ?c3 ?k3 ?a4 ?l4 ?c4 ?k4 ?a5 ?l5 ?c5 ?k5 ?a6 ?l6 ?c6 ?k6 ?a7 ?l7 ?c7 ?k7 ?a8 ?l8 ?c8 ?k8 ?a9 ?l9 ?c9 ?k9 ?a10 ?l10 ?c10 ?k10 ?a11 ?l11 ?c11 ?k11 ?a12 ?l12 ?c12 ?k12 ?a13 ?l13 ?c13 ?k13 ?a14 ?l14 ?c14 ?k14 ?a15 ?l15 ?c15 ?k15 ?a16 ?l16 ?c16 ?k16 ?a17 ?l17 ?c17 ?k17 ?a18 ?l18 ?c18 ?k18 ?a19 ?l19 ?c19 ?k19 ?a20 ?l20 ?c20 ?k20 ?a21 ?l21 ?c21 ?k21 ?a22 ?l22 ?c22 ?k22 ?a23 ?l23 ?c23 ?k23 ?a24 ?l24 ?c24 ?k24 ?a25 ?l25 ?c25 ?k25 ?a26 ?l26 ?c26 ?k26 ?a27 ?l27 ?c27 ?k27 ?a28 ?l28 ?c28 ?k28 ?a29 ?l29 ?c29 ?k29 ?a30 ?l30 ?c30 ?k30 ?z_abs ?z_all ?z_bool ?z_int ?z_isinstance ?z_len ?z_list ?z_max ?z_min ?z_range ?z_sorted ?z_tuple ?y_MOST_THINGS
    (case a0 => k_is); (case l0 => k_is); (case c0 => k_is); (case k0 => k_is)
    (case a1 => k_is); (case l1 => k_is); (case c1 => k_is); (case k1 => k_is)
    (case a2 => k_is); (case l2 => k_is); (case c2 => k_is); (case k2 => k_is)
    (case a3 => k_is); (case l3 => k_is); (case c3 => k_is); (case k3 => k_is)
    (case a4 => k_is); (case l4 => k_is); (case c4 => k_is); (case k4 => k_is)
    (case a5 => k_is); (case l5 => k_is); (case c5 => k_is); (case k5 => k_is)
    (case a6 => k_is); (case l6 => k_is); (case c6 => k_is); (case k6 => k_is)
    (case a7 => k_is); (case l7 => k_is); (case c7 => k_is); (case k7 => k_is)
    (case a8 => k_is); (case l8 => k_is); (case c8 => k_is); (case k8 => k_is)
    (case a9 => k_is); (case l9 => k_is); (case c9 => k_is); (case k9 => k_is)
    (case a10 => k_is); (case l10 => k_is); (case c10 => k_is); (case k10 => k_is)
    (case a11 => k_is); (case l11 => k_is); (case c11 => k_is); (case k11 => k_is)
    (case a12 => k_is); (case l12 => k_is); (case c12 => k_is); (case k12 => k_is)
    (case a13 => k_is); (case l13 => k_is); (case c13 => k_is); (case k13 => k_is)
    (case a14 => k_is); (case l14 => k_is); (case c14 => k_is); (case k14 => k_is)
    (case a15 => k_is); (case l15 => k_is); (case c15 => k_is); (case k15 => k_is)
    (case a16 => k_is); (case l16 => k_is); (case c16 => k_is); (case k16 => k_is)
    (case a17 => k_is); (case l17 => k_is); (case c17 => k_is); (case k17 => k_is)
    (case a18 => k_is); (case l18 => k_is); (case c18 => k_is); (case k18 => k_is)
    (case a19 => k_is); (case l19 => k_is); (case c19 => k_is); (case k19 => k_is)
    (case a20 => k_is); (case l20 => k_is); (case c20 => k_is); (case k20 => k_is)
    (case a21 => k_is); (case l21 => k_is); (case c21 => k_is); (case k21 => k_is)
    (case a22 => k_is); (case l22 => k_is); (case c22 => k_is); (case k22 => k_is)
    (case a23 => k_is); (case l23 => k_is); (case c23 => k_is); (case k23 => k_is)
    (case a24 => k_is); (case l24 => k_is); (case c24 => k_is); (case k24 => k_is)
    (case a25 => k_is); (case l25 => k_is); (case c25 => k_is); (case k25 => k_is)
    (case a26 => k_is); (case l26 => k_is); (case c26 => k_is); (case k26 => k_is)
    (case a27 => k_is); (case l27 => k_is); (case c27 => k_is); (case k27 => k_is)
    (case a28 => k_is); (case l28 => k_is); (case c28 => k_is); (case k28 => k_is)
    (case a29 => k_is); (case l29 => k_is); (case c29 => k_is); (case k29 => k_is)
    (case a30 => k_is); (case l30 => k_is); (case c30 => k_is); (case k30 => k_is)
    (case z_abs => k_is)
    (case z_all => k_is)
    (case z_bool => k_is)
    (case z_int => k_is)
    (case z_isinstance => k_is)
    (case z_len => k_is)
    (case z_list => k_is)
    (case z_max => k_is)
    (case z_min => k_is)
    (case z_range => k_is)
    (case z_sorted => k_is)
    (case z_tuple => k_is)
    (case y_MOST_THINGS => k_is)

end
