/-
  Steps of a region that draws its order: a new variable, a store of a whole row; the world behind each is a new name.
  No condition.
-/
import Derived.Test.YtmnpbjaofemelaaBk
namespace Go.Proofs.Ytmnpbjaofemelaa
set_option maxRecDepth 10000
open Go.RowKit Go.Sort

theorem alloc_size (w : World) (o : Obj) : (w.alloc o).heap.size = w.heap.size + 1 := by simp

theorem wp_alloc_any {P : Program} {T : TypeId} {C : Array Value} {n : Nat} (hz : (P.info? T).map (fun i => (i.zero, i.size)) = some (some (.agg C), n)) {o : Oper} {a : Act} {w : World} {K : Act → World → Prop} {Q : Exit → Act → World → Prop} (ho : o.op = .alloc T)
    (h : ∀ p W, Blk p C T W → Below w.heap.size w W → w.heap.size ≤ p → p < W.heap.size → K (a.put o.dst (.pointer (some ⟨p, 0, none⟩))) W) : o.wp P a w K Q :=
  wp_alloc_zero hz ho (h _ _ (blk_new w C T) (below_box w _) (Nat.le_refl _) (by simp))

theorem wp_store_all {P : Program} {op : Oper} {a : Act} {w : World} {K : Act → World → Prop} {Q : Exit → Act → World → Prop} (ty : TypeId) (x y : Operand) (ho : op.op = .store ty x y)
    {B : Nat} {C cells : Array Value} {T : TypeId} (hB : Blk B C T w) (hx : a.eval x = .pointer (some ⟨B, 0, none⟩)) (hy : a.eval y = .agg cells) (hi : (P.info? ty).map (·.size) = some cells.size) (hs : C.size = cells.size) (h1 : cells.all (·.oneCell') = true)
    (h : ∀ W, Blk B cells T W → Kp [B] w W → K (a.put op.dst undef) W) : op.wp P a w K Q := by
  refine wp_store_mid ty x y ho B 0 cells hx hy (hB.there 0 cells.size (by omega)) hi h1 ?_
  have hb := hB.setCells cells.toList 0
  rw [putAt_all _ _ hs] at hb
  exact h _ hb (Kp.setCells B (by simp) cells.toList 0 w)

theorem wp_store_part {P : Program} {op : Oper} {a : Act} {w : World} {K : Act → World → Prop} {Q : Exit → Act → World → Prop} (ty : TypeId) (x y : Operand) (ho : op.op = .store ty x y)
    {B off : Nat} {C cells : Array Value} {T : TypeId} (hB : Blk B C T w) (hx : a.eval x = .pointer (some ⟨B, off, none⟩)) (hy : a.eval y = .agg cells) (hi : (P.info? ty).map (·.size) = some cells.size) (hs : off + cells.size ≤ C.size) (h1 : cells.all (·.oneCell') = true)
    (h : ∀ W, Blk B (putAt C off cells.toList) T W → Kp [B] w W → K (a.put op.dst undef) W) : op.wp P a w K Q :=
  wp_store_mid ty x y ho B off cells hx hy (hB.there off cells.size hs) hi h1 (h _ (hB.setCells cells.toList off) (Kp.setCells B (by simp) cells.toList off w))

theorem build_as {P : Program} {ops : Array Oper} {rest : List Oper} {o : Oper} {a : Act} {w : World} {Q : Exit → Act → World → Prop} (hgd : o.guard = none) (T : TypeId) (parts : Array (Nat × Operand)) (ho : o.op = .build T parts) {C : Array Value}
    (hz : P.built T (parts.map fun (i, x) => (i, a.eval x)).toList = some C) (h : wpList P ops Q rest (a.put o.dst (.agg C)) w) : wpList P ops Q (o :: rest) a w :=
  wpList_build hgd T parts ho (by rw [hz]; rfl) (by rw [hz]; exact h)
theorem build_want {P : Program} {ops : Array Oper} {rest : List Oper} {o : Oper} {a : Act} {w : World} {Q : Exit → Act → World → Prop} (hw : Region.wanted o (yielded ops a.tmps) = true) (T : TypeId) (parts : Array (Nat × Operand)) (ho : o.op = .build T parts) {C : Array Value}
    (hz : P.built T (parts.map fun (i, x) => (i, a.eval x)).toList = some C) (h : wpList P ops Q rest (a.put o.dst (.agg C)) w) : wpList P ops Q (o :: rest) a w :=
  wpList_step fun _ hK => by rw [if_pos hw]; exact wp_build T parts ho (by rw [hz]; rfl) (by rw [hz]; exact hK _ _ h)

/- A struct that is built, in a region that draws. -/
theorem yields_build {P : Program} {ops : Array Oper} {S : World → Prop} {op : Oper} {a : Act} (hw : Region.wanted op (yielded ops a.tmps) = true) (T : TypeId) (parts : Array (Nat × Operand)) (ho : op.op = .build T parts) {C : Array Value}
    (hz : P.built T (parts.map fun (i, x) => (i, a.eval x)).toList = some C) : YieldsIf P ops S op (.agg C) a :=
  .inl ⟨hw, fun w _ => by unfold execOp; simp only [ho, Sem.run_bind, run_build w T _ C hz, Result.andThen_ok]; rfl⟩

/- Laws that lay a frame out, under short names: a claim takes 1,500,000 bytes. -/
theorem yA {α : Type} {l : List α} {i : Nat} (h : i < l.toArray.size) : l.toArray[i] = l[i]'(by simpa using h) := List.getElem_toArray h
theorem yB {α : Type} (a : α) (l : List α) (i : Nat) (h : i + 1 < (a :: l).length) : (a :: l)[i + 1] = l[i]'(by simpa using h) := List.getElem_cons_succ a l i h
theorem yC {α : Type} {a : α} {l : List α} (h : 0 < (a :: l).length) : (a :: l)[0] = a := List.getElem_cons_zero a l h
theorem yD {α : Type} (l : List α) (i : Nat) (a : α) : l.toArray.setIfInBounds i a = (l.set i a).toArray := List.setIfInBounds_toArray l i a
theorem yE {α : Type} {x a : α} {l : List α} {n : Nat} : (x :: l).set (n + 1) a = x :: l.set n a := List.set_cons_succ
theorem yF {α : Type} {x a : α} {l : List α} : (x :: l).set 0 a = a :: l := List.set_cons_zero

/- An operation is taken first, as wpAnyH_take, with its three conditions as one. -/
theorem tkH {P : Program} {md : Region.Mode} {ops : Array Oper} {Q : Exit → Act → World → Prop} {S : World → Prop} (i : Nat) {oi : Oper} {v : Value} {fuel : Nat} {listed : Array Bool} {a : Act} {w : World} (hi : ops[i]? = some oi)
    (h3 : (Region.noSelect ops && (Region.free md ops listed i && (Region.ready md ops listed).contains i)) = true) (hQ : ∀ c a w, Q (.panic c) (a.put oi.dst v) w → Q (.panic c) a w) (hy : YieldsIf P ops S oi v a) (hS : S w)
    (h : wpAnyH P md ops Q S fuel (listed.setIfInBounds i true) (a.put oi.dst v) w) : wpAnyH P md ops Q S (fuel + 1) listed a w := by
  rw [Bool.and_eq_true, Bool.and_eq_true] at h3
  exact wpAnyH_take hi h3.1 h3.2.1 h3.2.2 hQ hy hS h

/- The same, with all that goes by itself left to itself: an operation that yields in whatever world; one that is not wanted. -/
theorem tkQ {P : Program} {md : Region.Mode} {ops : Array Oper} {Q : Exit → Act → World → Prop} {S : World → Prop} (i : Nat) {oi : Oper} {v : Value} {fuel : Nat} {listed : Array Bool} {a : Act} {w : World} (hS : S w)
    (h : wpAnyH P md ops Q S fuel (listed.setIfInBounds i true) (a.put oi.dst v) w) (hi : ops[i]? = some oi := by rfl)
    (h3 : (Region.noSelect ops && (Region.free md ops listed i && (Region.ready md ops listed).contains i)) = true := by kernel_rfl) (hQ : ∀ c a w, Q (.panic c) (a.put oi.dst v) w → Q (.panic c) a w := by exact fun _ _ _ h => h)
    (hw : Region.wanted oi (yielded ops a.tmps) = true := by rfl) (hy : ∀ w, S w → (execOp a.eval oi).run P w = .ok (.value v) w := by (intro w hSw; clear hSw; go_simp; try with_reducible rfl)) : wpAnyH P md ops Q S (fuel + 1) listed a w :=
  tkH i hi h3 hQ (Or.inl ⟨hw, hy⟩) hS h
theorem tkU {P : Program} {md : Region.Mode} {ops : Array Oper} {Q : Exit → Act → World → Prop} {S : World → Prop} (i : Nat) {oi : Oper} {fuel : Nat} {listed : Array Bool} {a : Act} {w : World} (hS : S w)
    (h : wpAnyH P md ops Q S fuel (listed.setIfInBounds i true) (a.put oi.dst undef) w) (hi : ops[i]? = some oi := by rfl)
    (h3 : (Region.noSelect ops && (Region.free md ops listed i && (Region.ready md ops listed).contains i)) = true := by kernel_rfl) (hQ : ∀ c a w, Q (.panic c) (a.put oi.dst undef) w → Q (.panic c) a w := by exact fun _ _ _ h => h)
    (hw : Region.wanted oi (yielded ops a.tmps) = false := by rfl) : wpAnyH P md ops Q S (fuel + 1) listed a w :=
  tkH i hi h3 hQ (Or.inr ⟨hw, rfl⟩) hS h
/- One operation alone may come up. -/
theorem rd1 {P : Program} {md : Region.Mode} {ops : Array Oper} {Q : Exit → Act → World → Prop} {S : World → Prop} (i : Nat) {o : Oper} {fuel : Nat} {listed : Array Bool} {a : Act} {w : World}
    (h : ∀ K' : Act → World → Prop, Shut (∀ a w, S w → (S w → wpAnyH P md ops Q S fuel (listed.setIfInBounds i true) a w) → K' a w) → if Region.wanted o (yielded ops a.tmps) = true then Oper.wp P o a w K' Q else K' (a.put o.dst undef) w)
    (hr : Region.ready md ops listed = [i] := by kernel_rfl) (ho : ops[i]? = some o := by rfl) : wpAnyH P md ops Q S (fuel + 1) listed a w :=
  wpAnyH_ready hr (by simp) (AllReadyH.cons ho h AllReadyH.nil)
/- Arrays that are written out, in one: what lies at a place, what is put there. -/
theorem yy : (∀ {α : Type} {l : List α} {i : Nat} (h : i < l.toArray.size), l.toArray[i] = l[i]'(by simpa using h)) ∧ (∀ {α : Type} (a : α) (l : List α) (i : Nat) (h : i + 1 < (a :: l).length), (a :: l)[i + 1] = l[i]'(by simpa using h)) ∧ (∀ {α : Type} {a : α} {l : List α} (h : 0 < (a :: l).length), (a :: l)[0] = a) ∧
    (∀ (a : Act) (d : Tmp) (v : Value), a.put (some d) v = { a with tmps := a.tmps.setIfInBounds d v }) ∧ (∀ (a : Act) (v : Value), a.put none v = a) ∧
    (∀ {α : Type} (l : List α) (i : Nat) (a : α), l.toArray.setIfInBounds i a = (l.set i a).toArray) ∧ (∀ {α : Type} {x a : α} {l : List α} {n : Nat}, (x :: l).set (n + 1) a = x :: l.set n a) ∧ ∀ {α : Type} {x a : α} {l : List α}, (x :: l).set 0 a = a :: l :=
  ⟨@yA, @yB, @yC, fun _ _ _ => rfl, fun _ _ => rfl, @yD, @yE, @yF⟩

/- A guarded operation that is not wanted. -/
theorem skip_not {P : Program} {ops : Array Oper} {rest : List Oper} {o : Oper} {a : Act} {w : World} {Q : Exit → Act → World → Prop} (hw : Region.wanted o (yielded ops a.tmps) = false) (h : wpList P ops Q rest (a.put o.dst undef) w) : wpList P ops Q (o :: rest) a w :=
  wpList_step fun _ hK => by rw [if_neg (by rw [hw]; simp)]; exact hK _ _ h

theorem three_blk {T0 T1 T2 : TypeId} {C0 C1 C2 : Array Value} {w W : World} (h : ((w.alloc (.cells C0 T0)).alloc (.cells C1 T1)).alloc (.cells C2 T2) = W) :
    Blk w.heap.size C0 T0 W ∧ Blk (w.heap.size + 1) C1 T1 W ∧ Blk (w.heap.size + 1 + 1) C2 T2 W ∧ Below w.heap.size w W := by
  subst h
  refine ⟨((blk_new w C0 T0).alloc _).alloc _, ?_, ?_, ((below_box w _).alloc (by simp) _).alloc (by simp; omega) _⟩
  · have h := (blk_new (w.alloc (.cells C0 T0)) C1 T1)
    rw [alloc_size] at h
    exact h.alloc _
  · have h := (blk_new ((w.alloc (.cells C0 T0)).alloc (.cells C1 T1)) C2 T2)
    rw [alloc_size, alloc_size] at h
    exact h

theorem two_blk {T0 T1 : TypeId} {C0 C1 : Array Value} {w W : World} (h : (w.alloc (.cells C0 T0)).alloc (.cells C1 T1) = W) :
    Blk w.heap.size C0 T0 W ∧ Blk (w.heap.size + 1) C1 T1 W ∧ Below w.heap.size w W := by
  subst h
  refine ⟨(blk_new w C0 T0).alloc _, ?_, (below_box w _).alloc (by simp) _⟩
  have h := (blk_new (w.alloc (.cells C0 T0)) C1 T1)
  rw [alloc_size] at h
  exact h

theorem four_blk {T0 T1 T2 T3 : TypeId} {C0 C1 C2 C3 : Array Value} {w W : World} (h : (((w.alloc (.cells C0 T0)).alloc (.cells C1 T1)).alloc (.cells C2 T2)).alloc (.cells C3 T3) = W) :
    Blk w.heap.size C0 T0 W ∧ Blk (w.heap.size + 1) C1 T1 W ∧ Blk (w.heap.size + 1 + 1) C2 T2 W ∧ Blk (w.heap.size + 1 + 1 + 1) C3 T3 W ∧ Below w.heap.size w W := by
  subst h
  obtain ⟨h0, h1, h2, hb⟩ := three_blk (T0 := T0) (T1 := T1) (T2 := T2) (C0 := C0) (C1 := C1) (C2 := C2) (w := w) rfl
  refine ⟨h0.alloc _, h1.alloc _, h2.alloc _, ?_, hb.alloc hb.size _⟩
  have h := (blk_new (((w.alloc (.cells C0 T0)).alloc (.cells C1 T1)).alloc (.cells C2 T2)) C3 T3)
  rw [alloc_size, alloc_size, alloc_size] at h
  exact h

end Go.Proofs.Ytmnpbjaofemelaa
