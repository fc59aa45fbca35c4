/-
  Of the texts beneath these laws, in their order: Base.
  Each theorem says its own conditions.
-/
import Derived.WalkKit
import Derived.Test.YthgfpdidilolgaaGreatProg
import Derived.Below
import Derived.OwnWalk
import Derived.Laws.MakeOwn
import Derived.Deep.QuietTactic
import Derived.BigQuiet
import Derived.Lib.QuietBelow
import Derived.Deep.MidRow
import Derived.Deep.WholeRow
import Derived.Deep.RegionHeld
import Derived.Deep.CutRange
import Derived.Laws.ResultCell
import Derived.Laws.AppendOwn
import Derived.Deep.AppendSrc
import Derived.ProofKit
import Derived.OpenShut
import Derived.OpenVars
import Derived.Deep.Slices
import Derived.Laws.StructEq
import Derived.ChangeKeysEq
import Derived.SizedLaws
namespace Go.Proofs.YthgfpdidilolgaaGreat
set_option maxRecDepth 10000
open Go.RowKit Go.Sort
def Blk (B : Nat) (C : Array Value) (T : TypeId) (w : World) : Prop := w.heap[B]? = some (.cells C T (0, 0))
theorem Blk.lt {B : Nat} {C : Array Value} {T : TypeId} {w : World} (h : Blk B C T w) : B < w.heap.size := by
 rcases Nat.lt_or_ge B w.heap.size with h' | h'
 ·exact h'
 ·unfold Blk at h; simp [Array.getElem?_eq_none h'] at h
theorem Blk.below {B : Nat} {C : Array Value} {T : TypeId} {w w' : World} (h : Blk B C T w) (hb : Below w.heap.size w w') : Blk B C T w' := (hb.block B h.lt).trans h
theorem blk_new (w : World) (C : Array Value) (T : TypeId) : Blk w.heap.size C T (w.alloc (.cells C T)) := heap_alloc_new w _
theorem Blk.alloc {B : Nat} {C : Array Value} {T : TypeId} {w : World} (h : Blk B C T w) (o : Obj) : Blk B C T (w.alloc o) := (Below.heap_alloc w o B h.lt).trans h
theorem below_box (w : World) (o : Obj) : Below w.heap.size w (w.alloc o) := (Below.refl _ _).alloc (Nat.le_refl _) o
theorem Blk.drew {B : Nat} {C : Array Value} {T : TypeId} {w : World} (h : Blk B C T w) : Blk B C T w.drew := h
theorem Blk.eq {B : Nat} {C D : Array Value} {T U : TypeId} {w : World} (h : Blk B C T w) (k : Blk B D U w) : C = D ∧ T = U := by
 unfold Blk at h k
 rw [h] at k
 simpa using k
theorem load_blk {P : Program} {ops : Array Oper} {rest : List Oper} {o : Oper} {a : Act} {w : World} {Q : Exit → Act → World → Prop} (hgd : o.guard = none) (ty : TypeId) (x : Operand) (ho : o.op = .load ty x)
  {B : Nat} {C : Array Value} {T : TypeId} (hB : Blk B C T w) (hx : a.eval x = .pointer (some ⟨B, 0, none⟩)) {d : TypeDesc} (hu : P.underlying ty = some d) (hd : d.isRow = true) (hi : (P.info? ty).map (·.size) = some C.size)
  (h : wpList P ops Q rest (a.put o.dst (.agg C)) w) : wpList P ops Q (o :: rest) a w :=
 wpList_load_row hgd ty x ho B hx T C (0, 0) d hB hu (by cases d <;> first | rfl | exact hd) hi h
theorem load_want {P : Program} {ops : Array Oper} {rest : List Oper} {o : Oper} {a : Act} {w : World} {Q : Exit → Act → World → Prop} (hw : Region.wanted o (yielded ops a.tmps) = true) (ty : TypeId) (x : Operand) (ho : o.op = .load ty x)
  {B : Nat} {C : Array Value} {T : TypeId} (hB : Blk B C T w) (hx : a.eval x = .pointer (some ⟨B, 0, none⟩)) {d : TypeDesc} (hu : P.underlying ty = some d) (hd : d.isRow = true) (hi : (P.info? ty).map (·.size) = some C.size)
  (h : wpList P ops Q rest (a.put o.dst (.agg C)) w) : wpList P ops Q (o :: rest) a w :=
 wpList_step fun _ hK => by rw [if_pos hw]; exact wp_load_row ty x ho B hx T C (0, 0) d hB hu (by cases d <;> first | rfl | exact hd) hi (hK _ _ h)
theorem load_part {P : Program} {ops : Array Oper} {rest : List Oper} {op : Oper} {a : Act} {w : World} {Q : Exit → Act → World → Prop} (hgd : op.guard = none) (ty : TypeId) (x : Operand) (ho : op.op = .load ty x)
  {B o : Nat} {C : Array Value} {T : TypeId} (hB : Blk B C T w) (hx : a.eval x = .pointer (some ⟨B, o, none⟩)) (cs : List Value) (hcs : (C.extract o (o + cs.length)).toList = cs) {d : TypeDesc} (hu : P.underlying ty = some d) (hd : d.isRow = true) (hi : (P.info? ty).map (·.size) = some cs.length)
  (h : wpList P ops Q rest (a.put op.dst (.agg cs.toArray)) w) : wpList P ops Q (op :: rest) a w :=
 wpList_load_mid hgd ty x ho B o hx cs d (by have := World.rangeAt_of_block hB o cs.length; rw [hcs] at this; exact this) hu hd hi h
theorem load_wpart {P : Program} {ops : Array Oper} {rest : List Oper} {op : Oper} {a : Act} {w : World} {Q : Exit → Act → World → Prop} (hw : Region.wanted op (yielded ops a.tmps) = true) (ty : TypeId) (x : Operand) (ho : op.op = .load ty x)
  {B o : Nat} {C : Array Value} {T : TypeId} (hB : Blk B C T w) (hx : a.eval x = .pointer (some ⟨B, o, none⟩)) (cs : List Value) (hcs : (C.extract o (o + cs.length)).toList = cs) {d : TypeDesc} (hu : P.underlying ty = some d) (hd : d.isRow = true) (hi : (P.info? ty).map (·.size) = some cs.length)
  (h : wpList P ops Q rest (a.put op.dst (.agg cs.toArray)) w) : wpList P ops Q (op :: rest) a w :=
 wpList_step fun _ hK => by
  rw [if_pos hw]
  exact wp_load_mid ty x ho B o hx cs d (by have := World.rangeAt_of_block hB o cs.length; rw [hcs] at this; exact this) hu hd hi (hK _ _ h)
theorem load_range {P : Program} {ops : Array Oper} {rest : List Oper} {op : Oper} {a : Act} {w : World} {Q : Exit → Act → World → Prop} (hgd : op.guard = none) (ty : TypeId) (x : Operand) (ho : op.op = .load ty x)
  {B o : Nat} (cs : List Value) (hr : w.rangeAt B o cs) (hx : a.eval x = .pointer (some ⟨B, o, none⟩)) {d : TypeDesc} (hu : P.underlying ty = some d) (hd : d.isRow = true) (hi : (P.info? ty).map (·.size) = some cs.length)
  (h : wpList P ops Q rest (a.put op.dst (.agg cs.toArray)) w) : wpList P ops Q (op :: rest) a w :=
 wpList_load_mid hgd ty x ho B o hx cs d hr hu hd hi h
theorem store_new {P : Program} {ops : Array Oper} {rest : List Oper} {o : Oper} {a : Act} {w : World} {Q : Exit → Act → World → Prop} (hgd : o.guard = none) (ty : TypeId) (x y : Operand) (ho : o.op = .store ty x y)
  {C cells : Array Value} {T : TypeId} (hx : a.eval x = .pointer (some ⟨w.heap.size, 0, none⟩)) (hy : a.eval y = .agg cells) (hi : (P.info? ty).map (·.size) = some cells.size) (hs : C.size = cells.size) (h1 : cells.all (·.oneCell') = true)
  (h : wpList P ops Q rest (a.put o.dst undef) (w.alloc (.cells cells T))) : wpList P ops Q (o :: rest) a (w.alloc (.cells C T)) :=
 wpList_store_row hgd ty x y ho w.heap.size cells hx hy T C (heap_alloc_new w _) hi hs h1 (by rw [World.setRow_alloc_new]; exact h)
theorem Blk.setRow_same {B : Nat} {C : Array Value} {T : TypeId} {w : World} (h : Blk B C T w) : w.setRow B C = w := by
 unfold Blk at h
 have e : (w.setRow B C).heap = w.heap := by
  simp only [World.setRow]
  apply Array.ext_getElem?
  intro i
  rw [Array.getElem?_modify]
  by_cases hi : B = i
  ·subst hi; simp [h]
  ·simp [hi]
 cases w
 simp only [World.setRow] at e ⊢
 rw [e]
theorem store_same {P : Program} {ops : Array Oper} {rest : List Oper} {o : Oper} {a : Act} {w : World} {Q : Exit → Act → World → Prop} (hgd : o.guard = none) (ty : TypeId) (x y : Operand) (ho : o.op = .store ty x y)
  {B : Nat} {C : Array Value} {T : TypeId} (hB : Blk B C T w) (hx : a.eval x = .pointer (some ⟨B, 0, none⟩)) (hy : a.eval y = .agg C) (hi : (P.info? ty).map (·.size) = some C.size) (h1 : C.all (·.oneCell') = true)
  (h : wpList P ops Q rest (a.put o.dst undef) w) : wpList P ops Q (o :: rest) a w :=
 wpList_store_row hgd ty x y ho B C hx hy T C hB hi rfl h1 (by rw [hB.setRow_same]; exact h)
def putAt (C : Array Value) (o : Nat) : List Value → Array Value
 | [] => C
 | v :: r => putAt (C.setIfInBounds o v) (o + 1) r
theorem putAt_size (o : Nat) (vs : List Value) : ∀ (C : Array Value), (putAt C o vs).size = C.size := by
 induction vs generalizing o with
 | nil => intro C; rfl
 | cons v r ih => intro C; show (putAt (C.setIfInBounds o v) (o + 1) r).size = C.size; rw [ih]; simp
theorem putAt_get (vs : List Value) : ∀ (o : Nat) (C : Array Value) (j : Nat), o + vs.length ≤ C.size → (putAt C o vs)[j]? = if o ≤ j ∧ j < o + vs.length then vs[j - o]? else C[j]? := by
 induction vs with
 | nil =>
  intro o C j _
  rw [if_neg (by simp only [List.length_nil]; omega)]
  rfl
 | cons v r ih =>
  intro o C j h
  show (putAt (C.setIfInBounds o v) (o + 1) r)[j]? = _
  simp only [List.length_cons] at h
  rw [ih (o + 1) _ j (by simp; omega)]
  by_cases h1 : j = o
  ·subst h1
   rw [if_neg (by omega), if_pos (by simp only [List.length_cons]; omega), Array.getElem?_setIfInBounds, if_pos rfl, if_pos (by omega), Nat.sub_self]
   rfl
  ·by_cases h2 : o + 1 ≤ j ∧ j < o + 1 + r.length
   ·rw [if_pos h2, if_pos (by simp only [List.length_cons]; omega), show j - o = (j - (o + 1)) + 1 by omega]
    rfl
   ·rw [if_neg h2, if_neg (by simp only [List.length_cons]; omega), Array.getElem?_setIfInBounds, if_neg (fun e => h1 e.symm)]
theorem putAt_all (C D : Array Value) (h : C.size = D.size) : putAt C 0 D.toList = D := by
 apply Array.ext_getElem?
 intro j
 rw [putAt_get D.toList 0 C j (by simp [h])]
 by_cases hj : j < D.size
 ·rw [if_pos (by simp; omega), Nat.sub_zero, Array.getElem?_toList]
 ·rw [if_neg (by simp; omega), Array.getElem?_eq_none (by omega), Array.getElem?_eq_none (by omega)]
theorem Blk.setCells {B : Nat} {T : TypeId} : ∀ (vs : List Value) (o : Nat) {C : Array Value} {w : World}, Blk B C T w → Blk B (putAt C o vs) T (w.setCells B o vs)
 | [], _, _, _, h => h
 | v :: r, o, C, w, h => Blk.setCells r (o + 1) (heap_setCell_same w B o C T v h)
theorem Blk.range {B : Nat} {C : Array Value} {T : TypeId} {w : World} (h : Blk B C T w) (o : Nat) (cs : List Value) (hcs : (C.extract o (o + cs.length)).toList = cs) : w.rangeAt B o cs := by
 have := World.rangeAt_of_block h o cs.length; rw [hcs] at this; exact this
theorem Blk.whole {B : Nat} {C : Array Value} {T : TypeId} {w : World} (h : Blk B C T w) : w.rangeAt B 0 C.toList := fun j v hv => by
 rw [cell_of_row w B (0 + j) C T (0, 0) h, Nat.zero_add]
 simpa using hv
theorem Blk.there {B : Nat} {C : Array Value} {T : TypeId} {w : World} (h : Blk B C T w) (o n : Nat) (hn : o + n ≤ C.size) : w.there B o n := fun j hj => by
 refine ⟨?_, frozen_of_row w B _ C T h⟩
 rw [cell_of_row w B (o + j) C T (0, 0) h, Array.getElem?_eq_getElem (by omega)]
 rfl
theorem Blk.cell {B : Nat} {C : Array Value} {T : TypeId} {w : World} (h : Blk B C T w) (o : Nat) (v : Value) (hv : C[o]? = some v) : w.cell? ⟨B, o, none⟩ = some v := by
 rw [cell_of_row w B o C T (0, 0) h]; exact hv
theorem Blk.set {B : Nat} {C : Array Value} {T : TypeId} {w : World} (h : Blk B C T w) (o : Nat) (v : Value) : Blk B (C.setIfInBounds o v) T (w.setCell ⟨B, o, none⟩ v) := heap_setCell_same w B o C T v h
structure Kp (S : List Nat) (w w' : World) : Prop where
 os : w'.os = w.os
 tape : w'.tape = w.tape
 output : w'.output = w.output
 size : w.heap.size ≤ w'.heap.size
 block : ∀ k, k < w.heap.size → k ∉ S → w'.heap[k]? = w.heap[k]?
theorem Kp.refl (S : List Nat) (w : World) : Kp S w w := ⟨rfl, rfl, rfl, Nat.le_refl _, fun _ _ _ => rfl⟩
theorem Kp.trans {S : List Nat} {u v w : World} (h : Kp S u v) (k : Kp S v w) : Kp S u w :=
 ⟨k.os.trans h.os, k.tape.trans h.tape, k.output.trans h.output, Nat.le_trans h.size k.size, fun i hi hb => (k.block i (Nat.lt_of_lt_of_le hi h.size) hb).trans (h.block i hi hb)⟩
theorem Kp.mono {S S' : List Nat} {w w' : World} (h : Kp S w w') (hs : ∀ k ∈ S, k ∈ S') : Kp S' w w' := ⟨h.os, h.tape, h.output, h.size, fun k hk hn => h.block k hk (fun hm => hn (hs k hm))⟩
theorem Kp.of_below {S : List Nat} {w w' : World} (h : Below w.heap.size w w') : Kp S w w' := ⟨h.os, h.tape, h.output, h.size, fun k hk _ => h.block k hk⟩
theorem Kp.below {S : List Nat} {B : Nat} {w w' : World} (h : Kp S w w') (hS : ∀ k ∈ S, B ≤ k) (hw : B ≤ w.heap.size) : Below B w w' :=
 ⟨h.os, h.tape, h.output, h.size, fun k hk => h.block k (by omega) (fun hm => by have := hS k hm; omega)⟩
theorem Kp.alloc (S : List Nat) (w : World) (o : Obj) : Kp S w (w.alloc o) := Kp.of_below ((Below.refl _ _).alloc (Nat.le_refl _) o)
theorem Kp.drew (S : List Nat) (w : World) : Kp S w w.drew := ⟨rfl, rfl, rfl, Nat.le_refl _, fun _ _ _ => rfl⟩
theorem Kp.setCell {S : List Nat} (b o : Nat) (w : World) (v : Value) (hb : b ∈ S) : Kp S w (w.setCell ⟨b, o, none⟩ v) :=
 ⟨rfl, rfl, rfl, by simp [World.setCell], fun k _ hk => Below.heap_setCell _ _ _ _ (fun e => hk (by rw [e]; exact hb))⟩
theorem Kp.setCells {S : List Nat} (b : Nat) (hb : b ∈ S) : ∀ (vs : List Value) (o : Nat) (w : World), Kp S w (w.setCells b o vs)
 | [], _, w => Kp.refl S w
 | v :: r, o, w => (Kp.setCell b o w v hb).trans (Kp.setCells b hb r (o + 1) _)
theorem Blk.kp {A : Nat} {S : List Nat} {C : Array Value} {T : TypeId} {w w' : World} (h : Blk A C T w) (hb : Kp S w w') (hne : A ∉ S) : Blk A C T w' := (hb.block A h.lt hne).trans h
theorem Kp.below1 {b B : Nat} {w w' : World} (h : Kp [b] w w') (hb : B ≤ b) (hw : B ≤ w.heap.size) : Below B w w' := h.below (fun k hk => by simp at hk; omega) hw
theorem Blk.kp1 {A b : Nat} {C : Array Value} {T : TypeId} {w w' : World} (h : Blk A C T w) (hb : Kp [b] w w') (hne : A ≠ b) : Blk A C T w' := h.kp hb (by simpa using hne)
theorem Kp.since {S : List Nat} {b : Nat} {u w w' : World} (h : Kp S u w) (k : Kp (b :: S) w w') (hb : u.heap.size ≤ b) : Kp S u w' :=
 ⟨k.os.trans h.os, k.tape.trans h.tape, k.output.trans h.output, Nat.le_trans h.size k.size, fun i hi hs => (k.block i (Nat.lt_of_lt_of_le hi h.size) (by simp only [List.mem_cons, not_or]; exact ⟨by omega, hs⟩)).trans (h.block i hi hs)⟩
theorem store_part {P : Program} {ops : Array Oper} {rest : List Oper} {o : Oper} {a : Act} {w : World} {Q : Exit → Act → World → Prop} (hgd : o.guard = none) (ty : TypeId) (x y : Operand) (ho : o.op = .store ty x y)
  {B off : Nat} {C cells : Array Value} {T : TypeId} (hB : Blk B C T w) (hx : a.eval x = .pointer (some ⟨B, off, none⟩)) (hy : a.eval y = .agg cells) (hi : (P.info? ty).map (·.size) = some cells.size) (hs : off + cells.size ≤ C.size) (h1 : cells.all (·.oneCell') = true)
  (h : ∀ W, Blk B (putAt C off cells.toList) T W → Kp [B] w W → wpList P ops Q rest (a.put o.dst undef) W) : wpList P ops Q (o :: rest) a w :=
 wpList_store_mid hgd ty x y ho B off cells hx hy (hB.there off cells.size hs) hi h1 (h _ (hB.setCells cells.toList off) (Kp.setCells B (by simp) cells.toList off w))
theorem run_storeVar_one {P : Program} (w : World) (b o : Nat) (ty : TypeId) (v : Value) (hv : v.cells = #[v]) (h1 : v.oneCell' = true) (ht : w.there b o 1) (hi : (P.info? ty).map (·.size) = some 1) :
  (storeVar ty ⟨b, o, none⟩ v).run P w = .ok () (w.setCell ⟨b, o, none⟩ v) := by
 have := run_storeCells_cells (P := P) b o [v] 0 w (fun j hj => by simpa using (ht j (by simpa using hj)).1) (fun j hj => by simpa using (ht j (by simpa using hj)).2) (fun u hu => by simp at hu; rw [hu]; exact h1)
 cases hq : P.info? ty with
 | none => simp [hq] at hi
 | some i =>
  have hs : i.size = 1 := by simpa [hq] using hi
  simp only [Nat.add_zero] at this
  simp [storeVar, sizeOf, typeInfo, hq, hv, hs, this]
  rfl
theorem wp_store_one {P : Program} {op : Oper} {a : Act} {w : World} {K : Act → World → Prop} {Q : Exit → Act → World → Prop} (ty : TypeId) (x y : Operand) (ho : op.op = .store ty x y)
  {B off : Nat} {C : Array Value} {T : TypeId} (v : Value) (hB : Blk B C T w) (hx : a.eval x = .pointer (some ⟨B, off, none⟩)) (hy : a.eval y = v) (hv : v.cells = #[v]) (h1 : v.oneCell' = true) (hi : (P.info? ty).map (·.size) = some 1) (hs : off + 1 ≤ C.size)
  (h : ∀ W, Blk B (C.setIfInBounds off v) T W → Kp [B] w W → K (a.put op.dst undef) W) : op.wp P a w K Q := by
 unfold Oper.wp execOp
 simp only [ho, hx, hy, Instr.storeAt, Instr.sureAddr, Sem.run_bind, Sem.run_pure, Result.andThen_ok, run_storeVar_one w B off ty v hv h1 (hB.there off 1 hs) hi]
 exact h _ (hB.set off v) (Kp.setCell B off w v (by simp))
theorem store_one {P : Program} {ops : Array Oper} {rest : List Oper} {op : Oper} {a : Act} {w : World} {Q : Exit → Act → World → Prop} (hgd : op.guard = none) (ty : TypeId) (x y : Operand) (ho : op.op = .store ty x y)
  {B off : Nat} {C : Array Value} {T : TypeId} (v : Value) (hB : Blk B C T w) (hx : a.eval x = .pointer (some ⟨B, off, none⟩)) (hy : a.eval y = v) (hv : v.cells = #[v]) (h1 : v.oneCell' = true) (hi : (P.info? ty).map (·.size) = some 1) (hs : off + 1 ≤ C.size)
  (h : ∀ W, Blk B (C.setIfInBounds off v) T W → Kp [B] w W → wpList P ops Q rest (a.put op.dst undef) W) : wpList P ops Q (op :: rest) a w :=
 wpList_plain hgd fun _ hK => wp_store_one ty x y ho v hB hx hy hv h1 hi hs (fun W b k => hK _ _ (h W b k))
theorem alloc_zero {P : Program} {T : TypeId} {C : Array Value} {n : Nat} (hz : (P.info? T).map (fun i => (i.zero, i.size)) = some (some (.agg C), n)) {ops : Array Oper} {rest : List Oper} {o : Oper} {a : Act} {w : World} {Q : Exit → Act → World → Prop} (hgd : o.guard = none) (ho : o.op = .alloc T)
  (h : wpList P ops Q rest (a.put o.dst (.pointer (some ⟨w.heap.size, 0, none⟩))) (w.alloc (.cells C T))) : wpList P ops Q (o :: rest) a w :=
 wpList_plain hgd fun _ hK => by
  have hz := (zero_of_info hz).1
  have hk := hK _ _ h
  unfold Oper.wp execOp
  simp only [ho, Instr.alloc, Sem.run_bind, hz, Result.andThen_ok]
  exact hk
theorem wp_alloc_zero {P : Program} {T : TypeId} {C : Array Value} {n : Nat} (hz : (P.info? T).map (fun i => (i.zero, i.size)) = some (some (.agg C), n)) {o : Oper} {a : Act} {w : World} {K : Act → World → Prop} {Q : Exit → Act → World → Prop} (ho : o.op = .alloc T)
  (h : K (a.put o.dst (.pointer (some ⟨w.heap.size, 0, none⟩))) (w.alloc (.cells C T))) : o.wp P a w K Q := by
 have hz := (zero_of_info hz).1
 unfold Oper.wp execOp
 simp only [ho, Instr.alloc, Sem.run_bind, hz, Result.andThen_ok]
 exact h
theorem build_zero {P : Program} {T : TypeId} {C : Array Value} (hz : P.built T [] = some C) {ops : Array Oper} {rest : List Oper} {o : Oper} {a : Act} {w : World} {Q : Exit → Act → World → Prop} (hgd : o.guard = none) (ho : o.op = .build T #[])
  (h : wpList P ops Q rest (a.put o.dst (.agg C)) w) : wpList P ops Q (o :: rest) a w :=
 wpList_build hgd T #[] ho (by simp [hz]) (by simpa [hz] using h)
theorem quiet_load {P : Program} {o : Oper} {a : Act} {C : World → Prop} {K : Act → Prop} {x : Operand} {ty : TypeId} {B : Nat} {D : Array Value} {T : TypeId} (ho : o.op = .load ty x) (hx : a.eval x = .pointer (some ⟨B, 0, none⟩)) (hC : ∀ w, C w → Blk B D T w) {d : TypeDesc} (hu : P.underlying ty = some d) (hd : d.isRow = true) (hi : (P.info? ty).map (·.size) = some D.size)
  (h : K (a.put o.dst (.agg D))) : o.quiet P a C K := by
 refine ⟨_, fun w hw => ?_, h⟩
 unfold Oper.quietAt execOp
 simp only [ho, hx, Instr.loadAt, Instr.sureAddr, Sem.run_bind, Sem.run_pure, Result.andThen_ok, run_loadVar_row w B T ty D (0, 0) _ (hC w hw) hu (by cases d <;> first | rfl | exact hd) hi]
 exact ⟨rfl, rfl⟩
theorem quiet_range {P : Program} {o : Oper} {a : Act} {C : World → Prop} {K : Act → Prop} {x : Operand} {ty : TypeId} {B off : Nat} {cs : List Value} (ho : o.op = .load ty x) (hx : a.eval x = .pointer (some ⟨B, off, none⟩)) (hC : ∀ w, C w → w.rangeAt B off cs) {d : TypeDesc} (hu : P.underlying ty = some d) (hd : d.isRow = true) (hi : (P.info? ty).map (·.size) = some cs.length)
  (h : K (a.put o.dst (.agg cs.toArray))) : o.quiet P a C K := by
 refine ⟨_, fun w hw => ?_, h⟩
 unfold Oper.quietAt execOp
 simp only [ho, hx, Instr.loadAt, Instr.sureAddr, Sem.run_bind, Sem.run_pure, Result.andThen_ok, run_loadVar_mid w B off ty cs _ (hC w hw) hu hd hi]
 exact ⟨rfl, rfl⟩
theorem Blk.regrown {B : Nat} {C : Array Value} {T : TypeId} {w : World} (h : Blk B C T w) : ∀ w', (∃ p : Regrown, w' = grow (redrawn w p.d) p.os) → Blk B C T w' := by
 rintro w' ⟨p, rfl⟩
 exact h.below (below_regrown w p.d p.os)
theorem ret_one {P : Program} {fn : Func} {p : Tmp} {T U : TypeId} (hr : fn.results = #[.cell p T]) {tmps : Array Value} {w : World} {B : Nat} {C : Array Value} (hp : tmps.getD p undef = .pointer (some ⟨B, 0, none⟩)) (hB : Blk B C U w) {d : TypeDesc} (hu : P.underlying T = some d) (hd : d.isRow = true) (hC : (P.info? T).map (·.size) = some C.size) :
  (results fn tmps).run P w = .ok (.agg C) w :=
 results_cell_row hr tmps w B U C (0, 0) _ hp hB hu (by cases d <;> first | rfl | exact hd) hC
theorem ret_two {P : Program} {fn : Func} {p u : Tmp} {T U : TypeId} (hr : fn.results = #[.cell p T, .tmp u]) {tmps : Array Value} {w : World} {B : Nat} {C : Array Value} (hp : tmps.getD p undef = .pointer (some ⟨B, 0, none⟩)) (hB : Blk B C U w) {d : TypeDesc} (hU : P.underlying T = some d) (hd : d.isRow = true) (hC : (P.info? T).map (·.size) = some C.size) {v : Value} (hu : tmps.getD u undef = v) :
  (results fn tmps).run P w = .ok (.tuple #[.agg C, v]) w := by
 rw [results_cell_tmp hr, hp, hu]
 have := run_loadVar_row (P := P) w B U T C (0, 0) _ hB hU (by cases d <;> first | rfl | exact hd) hC
 simp [asAddr, this]
end Go.Proofs.YthgfpdidilolgaaGreat
namespace Go.Proofs.YthgfpdidilolgaaGreat
set_option maxRecDepth 10000
open Go.RowKit Go.Sort
section
variable {α : Type} {f : α → List Value} {k : Nat}
def flat (f : α → List Value) (l : List α) : List Value := l.flatMap f
theorem flat_cons (f : α → List Value) (x : α) (l : List α) : flat f (x :: l) = f x ++ flat f l := rfl
theorem flat_append (f : α → List Value) (l m : List α) : flat f (l ++ m) = flat f l ++ flat f m := by simp [flat]
theorem flat_length (hk : ∀ x, (f x).length = k) (l : List α) : (flat f l).length = l.length * k := by
 induction l with
 | nil => simp [flat]
 | cons x l ih => rw [flat_cons, List.length_append, hk, ih, List.length_cons, Nat.add_mul]; omega
theorem flat_get (hk : ∀ x, (f x).length = k) : ∀ (l : List α) (i : Nat) (x : α), l[i]? = some x → ∀ j, j < k → (flat f l)[i * k + j]? = (f x)[j]?
 | [], i, x, h, _, _ => by simp at h
 | y :: l, 0, x, h, j, hj => by
  simp at h
  subst h
  rw [flat_cons, List.getElem?_append_left (by rw [hk]; omega)]
  simp
 | y :: l, i + 1, x, h, j, hj => by
  simp at h
  rw [flat_cons, List.getElem?_append_right (by rw [hk, Nat.add_mul]; omega), ← flat_get hk l i x h j hj, hk]
  congr 1
  rw [Nat.add_mul]
  omega
theorem flat_take (hk : ∀ x, (f x).length = k) (l : List α) (n : Nat) : (flat f l).take (n * k) = flat f (l.take n) := by
 induction l generalizing n with
 | nil => simp [flat]
 | cons x l ih =>
  cases n with
  | zero => simp [flat]
  | succ n =>
   rw [List.take_succ_cons, flat_cons, flat_cons, List.take_append, ← ih n, List.take_of_length_le (by rw [hk, Nat.add_mul]; omega), hk, show (n + 1) * k - k = n * k by rw [Nat.add_mul]; omega]
theorem flat_one (h1 : ∀ x, ∀ v ∈ f x, v.oneCell' = true) (l : List α) : ∀ v ∈ flat f l, v.oneCell' = true := by
 intro v hv
 simp only [flat, List.mem_flatMap] at hv
 obtain ⟨x, _, hx⟩ := hv
 exact h1 x v hx
theorem flat_set (hk : ∀ x, (f x).length = k) (hpos : 0 < k) (l : List α) (p : Nat) (hp : p < l.length) (e : α) : putAt (flat f l).toArray (p * k) (f e) = (flat f (l.set p e)).toArray := by
 have hle : p * k + k ≤ l.length * k := by rw [← Nat.succ_mul]; exact Nat.mul_le_mul_right _ hp
 apply Array.ext_getElem?
 intro j
 rw [putAt_get (f e) (p * k) _ j (by rw [List.size_toArray, flat_length hk, hk]; exact hle), hk]
 have e2 : ∀ m : List α, (flat f m).toArray[j]? = (flat f m)[j]? := fun m => by simp
 rw [e2, e2]
 by_cases hj : j < l.length * k
 ·have hd : j / k < l.length := (Nat.div_lt_iff_lt_mul hpos).2 hj
  have hmod : j % k < k := Nat.mod_lt _ hpos
  have hjj : j / k * k + j % k = j := by rw [Nat.mul_comm]; exact Nat.div_add_mod j k
  obtain ⟨x, hx⟩ : ∃ x, (l.set p e)[j / k]? = some x := ⟨_, List.getElem?_eq_getElem (by rw [List.length_set]; exact hd)⟩
  have hat := flat_get hk (l.set p e) (j / k) x hx (j % k) hmod
  rw [hjj] at hat
  rw [hat]
  by_cases hq : j / k = p
  ·rw [hq] at hjj
   rw [hq, List.getElem?_set_self hp] at hx
   cases hx
   rw [if_pos (by omega), show j - p * k = j % k by omega]
  ·have hne : ¬ (p * k ≤ j ∧ j < p * k + k) := by
    rintro ⟨h1, h2⟩
    apply hq
    have a1 : p ≤ j / k := (Nat.le_div_iff_mul_le hpos).2 h1
    have a2 : j / k < p + 1 := (Nat.div_lt_iff_lt_mul hpos).2 (by rw [Nat.succ_mul]; exact h2)
    omega
   rw [if_neg hne]
   rw [List.getElem?_set_ne (fun h => hq h.symm)] at hx
   have hat2 := flat_get hk l (j / k) x hx (j % k) hmod
   rw [hjj] at hat2
   exact hat2
 ·rw [if_neg (by omega), List.getElem?_eq_none (by rw [flat_length hk]; omega), List.getElem?_eq_none (by rw [flat_length hk, List.length_set]; omega)]
def Li (f : α → List Value) (B : Nat) (a : Option Addr) (L : List α) (w : World) : Prop := L = [] ∨ ∃ b o, a = some ⟨b, o, none⟩ ∧ B ≤ b ∧ b < w.heap.size ∧ w.rangeAt b o (flat f L)
theorem Li.nil (B : Nat) (a : Option Addr) (w : World) : Li f B a [] w := .inl rfl
theorem Li.mono {B B' : Nat} {a : Option Addr} {L : List α} {w : World} (h : Li f B a L w) (hB : B' ≤ B) : Li f B' a L w := by
 rcases h with h | ⟨b, o, e, h1, h2⟩
 ·exact .inl h
 ·exact .inr ⟨b, o, e, Nat.le_trans hB h1, h2⟩
theorem range_block {b o : Nat} {cs : List Value} {w w' : World} (h : w.rangeAt b o cs) (hb : w'.heap[b]? = w.heap[b]?) : w'.rangeAt b o cs := fun j v hv => by
 rw [World.cell?_of_block (w := w) (w' := w') (a := ⟨b, o + j, none⟩) hb]
 exact h j v hv
theorem Li.below {B : Nat} {a : Option Addr} {L : List α} {w w' : World} (h : Li f B a L w) (hb : Below w.heap.size w w') : Li f B a L w' := by
 rcases h with h | ⟨b, o, rfl, hB, hlt, hr⟩
 ·exact .inl h
 ·exact .inr ⟨b, o, rfl, hB, Nat.lt_of_lt_of_le hlt hb.size, range_block hr (hb.block b hlt)⟩
theorem Li.kp {B : Nat} {S : List Nat} {a : Option Addr} {L : List α} {w w' : World} (h : Li f B a L w) (hb : Kp S w w') (hS : ∀ k ∈ S, k < B) : Li f B a L w' := by
 rcases h with h | ⟨b, o, rfl, hB, hlt, hr⟩
 ·exact .inl h
 ·exact .inr ⟨b, o, rfl, hB, Nat.lt_of_lt_of_le hlt hb.size, range_block hr (hb.block b hlt (fun hm => by have := hS b hm; omega))⟩
theorem Li.kept {B : Nat} {S : List Nat} {a : Option Addr} {L : List α} {w w' : World} (h : Li f B a L w) (hb : Kp S w w') (hS : ∀ b o, a = some ⟨b, o, none⟩ → b ∉ S) : Li f B a L w' := by
 rcases h with h | ⟨b, o, rfl, hB, hlt, hr⟩
 ·exact .inl h
 ·exact .inr ⟨b, o, rfl, hB, Nat.lt_of_lt_of_le hlt hb.size, range_block hr (hb.block b hlt (hS b o rfl))⟩
theorem range_part (hk : ∀ x, (f x).length = k) {b o : Nat} {L : List α} {w : World} (h : w.rangeAt b o (flat f L)) (i : Nat) (x : α) (hx : L[i]? = some x) : w.rangeAt b (o + i * k) (f x) := fun j v hv => by
 have hj : j < k := by rw [← hk x]; exact (List.getElem?_eq_some_iff.1 hv).1
 rw [Nat.add_assoc]
 exact h (i * k + j) v (by rw [flat_get hk L i x hx j hj]; exact hv)
theorem Li.at (hk : ∀ x, (f x).length = k) {B : Nat} {a : Option Addr} {L : List α} {w : World} (h : Li f B a L w) (i : Nat) (x : α) (hx : L[i]? = some x) : ∃ b o, a = some ⟨b, o, none⟩ ∧ B ≤ b ∧ b < w.heap.size ∧ w.rangeAt b (o + i * k) (f x) := by
 rcases h with rfl | ⟨b, o, rfl, hB, hlt, hr⟩
 ·simp at hx
 ·exact ⟨b, o, rfl, hB, hlt, range_part hk hr i x hx⟩
theorem range_drop (hk : ∀ x, (f x).length = k) {b o : Nat} {L : List α} {w : World} (h : w.rangeAt b o (flat f L)) (n : Nat) (hn : n ≤ L.length) : w.rangeAt b (o + n * k) (flat f (L.drop n)) := fun j v hv => by
 rw [Nat.add_assoc]
 refine h (n * k + j) v ?_
 have e : flat f L = flat f (L.take n) ++ flat f (L.drop n) := by rw [← flat_append, List.take_append_drop]
 rw [e, List.getElem?_append_right (by rw [flat_length hk, List.length_take, Nat.min_eq_left hn]; omega), flat_length hk, List.length_take, Nat.min_eq_left hn, Nat.add_sub_cancel_left]
 exact hv
theorem Li.src {P : Program} (hk : ∀ x, (f x).length = k) (h1 : ∀ x, ∀ v ∈ f x, v.oneCell' = true) {t e' : TypeId} (ht : P.underlying t = some (.slice e')) {B : Nat} {a : Option Addr} {L : List α} {w : World} (h : Li f B a L w) (c : Nat) : Src P k t (.slice a L.length c) L.length (flat f L) w := by
 rcases h with rfl | ⟨b, o, rfl, _, _, hr⟩
 ·cases a with
  | none => exact Src.ofNil w ht c
  | some a => exact Src.ofSlice w ht a 0 c [] (by simp) (fun j u hu => by simp at hu) (fun u hu => by simp at hu)
 ·exact Src.ofSlice w ht _ _ c _ (flat_length hk L) (fun j u hu => by rw [Addr.add_mid]; exact hr j u hu) (flat_one h1 L)
def Ow (f : α → List Value) (k : Nat) (T : TypeId) (g cap : Nat) (L : List α) (w : World) : Prop :=
 ∃ cur, Blk g cur T w ∧ L.length ≤ cap ∧ cap ≤ maxLen ∧ cur.size = cap * k ∧ cur.toList.take (L.length * k) = flat f L
theorem Ow.lt {T : TypeId} {g cap : Nat} {L : List α} {w : World} (h : Ow f k T g cap L w) : g < w.heap.size := by obtain ⟨_, h, _⟩ := h; exact h.lt
theorem Ow.cap {T : TypeId} {g cap : Nat} {L : List α} {w : World} (h : Ow f k T g cap L w) : L.length ≤ cap := by obtain ⟨_, _, h, _⟩ := h; exact h
theorem Ow.below {T : TypeId} {g cap : Nat} {L : List α} {w w' : World} (h : Ow f k T g cap L w) (hb : Below w.heap.size w w') : Ow f k T g cap L w' := by
 obtain ⟨c, h0, h1⟩ := h; exact ⟨c, h0.below hb, h1⟩
theorem Ow.kp {T : TypeId} {S : List Nat} {g cap : Nat} {L : List α} {w w' : World} (h : Ow f k T g cap L w) (hb : Kp S w w') (hg : g ∉ S) : Ow f k T g cap L w' := by
 obtain ⟨c, h0, h1⟩ := h; exact ⟨c, h0.kp hb hg, h1⟩
theorem Ow.empty {T : TypeId} {g : Nat} {w : World} (h : Blk g #[] T w) : Ow f k T g 0 [] w := ⟨#[], h, Nat.le_refl _, Nat.zero_le _, by simp, by simp [flat]⟩
theorem Ow.li {T : TypeId} {B g cap : Nat} {L : List α} {w : World} (h : Ow f k T g cap L w) (hB : B ≤ g) : Li f B (some ⟨g, 0, none⟩) L w := by
 obtain ⟨c, h0, _, _, _, h4⟩ := h
 refine .inr ⟨g, 0, rfl, hB, h0.lt, fun j v hv => ?_⟩
 rw [cell_of_row w g (0 + j) c T (0, 0) h0, Nat.zero_add]
 rw [← h4, List.getElem?_take] at hv
 split at hv
 ·simpa using hv
 ·cases hv
theorem run_append_ow {P : Program} (hk : ∀ x, (f x).length = k) {t T : TypeId} (ty : TypeId) (ht : P.underlying t = some (.slice T)) {i : TypeInfo} {z : Value} {bytes : Nat} (hi : P.info? T = some i) (hz : i.zero = some z) (hs : i.size = k) (hby : i.bytes = bytes) (hzs : z.cells.size = k)
  {g cap : Nat} {L : List α} {w : World} (h : Ow f k T g cap L w) {x : Value} {M : List α} (hx : Src P k t x M.length (flat f M) w) (hb : (L.length + M.length) * bytes ≤ 140737488355328) (h63 : L.length + M.length ≤ maxLen) :
  ∃ g' cap' w', (Builtin.append_ #[t, t] ty #[.slice (some ⟨g, 0, none⟩) L.length cap, x]).run P w = .ok (.slice (some ⟨g', 0, none⟩) (L ++ M).length cap') w' ∧ Ow f k T g' cap' (L ++ M) w' ∧ Kp [g] w w' ∧ (g' = g ∨ w.heap.size ≤ g') := by
 subst hs
 subst hby
 obtain ⟨cur, h0, hlc, hcm, hcs, htk⟩ := h
 have hsmall : L.length + M.length ≤ 9223372036854775807 := by simp only [maxLen] at h63; omega
 by_cases hroom : L.length + M.length ≤ cap
 ·have hle : L.length * i.size + M.length * i.size ≤ cur.size := by rw [hcs, ← Nat.add_mul]; exact Nat.mul_le_mul_right _ hroom
  have hth := h0.there (L.length * i.size) (M.length * i.size) hle
  have hr := run_append_room_src (P := P) w t t ty T i ht hi g 0 L.length cap x M.length (flat f M) hx hroom (fun j hj => by rw [flat_length hk] at hj; simpa using (hth j hj).1) (fun j hj => by rw [flat_length hk] at hj; simpa using (hth j hj).2)
  rw [Nat.zero_add] at hr
  refine ⟨g, cap, _, by rw [List.length_append]; exact hr, ⟨_, h0.setCells (flat f M) (L.length * i.size), by rw [List.length_append]; exact hroom, hcm, by rw [putAt_size]; exact hcs, ?_⟩, Kp.setCells g (by simp) _ _ w, .inl rfl⟩
  apply List.ext_getElem?
  intro j
  rw [List.getElem?_take, flat_append, List.length_append, Nat.add_mul]
  have hg := putAt_get (flat f M) (L.length * i.size) cur j (by rw [flat_length hk]; exact hle)
  rw [Array.getElem?_toList, hg, flat_length hk]
  by_cases h1 : j < L.length * i.size
  ·rw [if_pos (by omega), if_neg (by omega), List.getElem?_append_left (by rw [flat_length hk]; exact h1), ← htk, List.getElem?_take, if_pos h1, Array.getElem?_toList]
  ·by_cases h2 : j < L.length * i.size + M.length * i.size
   ·rw [if_pos h2, if_pos (by omega), List.getElem?_append_right (by rw [flat_length hk]; omega), flat_length hk]
   ·rw [if_neg h2, List.getElem?_eq_none (by rw [List.length_append, flat_length hk, flat_length hk]; omega)]
 ·have hold := run_firstCells_some (P := P) w.drew i.size L.length ⟨g, 0, none⟩ L.length cap (flat f L) (flat_length hk L) (fun j u hu => by
   rw [Addr.add_mid, Nat.zero_add]
   have : w.cell? ⟨g, j, none⟩ = some u := by
    rw [cell_of_row w g j cur T (0, 0) h0]
    rw [← htk, List.getElem?_take] at hu
    split at hu
    ·simpa using hu
    ·cases hu
   exact this)
  have hr := run_append_grow_src (P := P) w t t ty T i z ht hi hz (some ⟨g, 0, none⟩) L.length cap (flat f L) hold x M.length (flat f M) hx (by omega) (by omega) (growslice_fits (by omega) hb)
  have hge := grownCap_ge w (L.length + M.length) cap T
  refine ⟨w.heap.size, _, _, by rw [List.length_append]; exact hr, ⟨_, heap_alloc_new w.drew _, by rw [List.length_append]; exact hge, grownCap_le_maxLen w _ _ _ h63, ?_, ?_⟩, (Kp.drew _ w).trans (Kp.alloc _ _ _), .inr (Nat.le_refl _)⟩
  ·simp only [Array.size_append, List.size_toArray, size_zeroCells, hzs, List.length_append, flat_length hk, ← Nat.add_mul]
   congr 1
   omega
  ·rw [Array.toList_append, List.take_append_of_le_length (by simp [flat_length hk, Nat.add_mul])]
   simp only [List.length_append]
   rw [← flat_append, List.take_of_length_le]
   rw [flat_length hk, List.length_append]
   exact Nat.le_refl _
theorem append_ow {P : Program} (hk : ∀ x, (f x).length = k) {ops : Array Oper} {rest : List Oper} {o : Oper} {a : Act} {Q : Exit → Act → World → Prop} (hgd : o.guard = none) (s y : Operand) {t T : TypeId} (ho : o.op = .call { callee := .builtin .append, args := #[s, y], argTypes := #[t, t] })
  (ht : P.underlying t = some (.slice T)) {i : TypeInfo} {z : Value} {bytes : Nat} (hi : P.info? T = some i) (hz : i.zero = some z) (hs : i.size = k) (hby : i.bytes = bytes) (hzs : z.cells.size = k)
  {g cap : Nat} {L : List α} {w : World} (h : Ow f k T g cap L w) (he : a.eval s = .slice (some ⟨g, 0, none⟩) L.length cap) {x : Value} {M : List α} (hx : Src P k t x M.length (flat f M) w) (hey : a.eval y = x) (hb : (L.length + M.length) * bytes ≤ 140737488355328) (h63 : L.length + M.length ≤ maxLen)
  (hK : ∀ g' cap' w', Ow f k T g' cap' (L ++ M) w' → Kp [g] w w' → (g' = g ∨ w.heap.size ≤ g') → wpList P ops Q rest (a.put o.dst (.slice (some ⟨g', 0, none⟩) (L ++ M).length cap')) w') : wpList P ops Q (o :: rest) a w := by
 refine wpList_plain hgd fun K hK' => ?_
 obtain ⟨g', cap', w', hr, h1, h2, h3⟩ := run_append_ow (P := P) hk o.type ht hi hz hs hby hzs h hx hb h63
 have hk2 := hK' _ _ (hK g' cap' w' h1 h2 h3)
 unfold Oper.wp execOp
 simp only [ho, resolve, invoke, builtin, Sem.run_bind, Sem.run_pure, Result.andThen_ok, List.map_toArray, List.map_cons, List.map_nil, he, hey, hr]
 exact hk2
theorem flat_made (hk : ∀ x, (f x).length = k) (hpos : 0 < k) (e : α) (n : Nat) : madeCells (f e).toArray (n * k) = (flat f (List.replicate n e)).toArray := by
 apply Array.ext_getElem?
 intro j
 by_cases hj : j < n * k
 ·have hd : j / k < n := (Nat.div_lt_iff_lt_mul hpos).2 hj
  have hmod : j % k < k := Nat.mod_lt _ hpos
  have hat := flat_get hk (List.replicate n e) (j / k) e (by simp [hd]) (j % k) hmod
  have hjj : j / k * k + j % k = j := by rw [Nat.mul_comm]; exact Nat.div_add_mod j k
  rw [hjj] at hat
  have e2 : (flat f (List.replicate n e)).toArray[j]? = (flat f (List.replicate n e))[j]? := by simp
  rw [e2, hat, madeCells]
  simp [hj, hk, hmod]
 ·rw [Array.getElem?_eq_none (by rw [size_madeCells]; omega), Array.getElem?_eq_none (by rw [List.size_toArray, flat_length hk, List.length_replicate]; omega)]
theorem li_box (w : World) (x : α) (T : TypeId) (B : Nat) (hB : B ≤ w.heap.size) : Li f B (some ⟨w.heap.size, 0, none⟩) [x] (w.alloc (.cells (f x).toArray T)) := by
 refine .inr ⟨w.heap.size, 0, rfl, hB, by simp, ?_⟩
 have := (blk_new w (f x).toArray T).whole
 simpa [flat] using this
end
section
variable {α : Type} {f : α → List Value} {k : Nat} {P : Program} {H : Type} {enc : TypeId × Value → H} {W : World} {base : Nat} {spare : Nat → Bool} {held : Bool}
theorem open_li (e0 : α) (hk : ∀ x, (f x).length = k) (hpos : 0 < k) {TS T : TypeId} (hu : P.underlying TS = some (.slice T)) (hC : P.cellsOf T = k) (hel : ∀ {cs : List Value} {fuel : Nat} {x : DataW H × List MemPlace}, DataW.trod enc P W base spare held fuel T cs = some x → ∃ e : α, cs = f e)
  {v : Value} {d : DataW H} {p : List MemPlace} (hv : ∃ a n c, v = .slice a n c) (h : DataW.Trod enc P W base spare held TS v d p) :
  ∃ (a : Option Addr) (L : List α) (c : Nat), v = .slice a L.length c ∧ L.length ≤ maxLen ∧ Li f 0 a L W := by
 obtain ⟨a0, n0, c0, rfl⟩ := hv
 obtain ⟨fuel, hf⟩ := h
 rcases Go.Deep.open_slice hu hf with ⟨hc, _⟩ | ⟨a, len, cap, m, n, D, Pl, hcs, _, hlc, hcm, hm, _, hcell⟩
 ·simp [Value.cells] at hc
  obtain ⟨rfl, rfl, rfl⟩ := hc
  exact ⟨none, [], 0, rfl, Nat.zero_le _, .inl rfl⟩
 ·simp [Value.cells] at hcs
  obtain ⟨rfl, rfl, rfl⟩ := hcs
  rw [hC] at hcell
  have hlm : n0 ≤ m := by rw [hm]; split <;> omega
  have key : ∀ i, ∃ e : α, i < n0 → ∃ cs', W.cells? base (a.add (i * k)) k = some cs' ∧ cs' = f e := by
   intro i
   by_cases hi : i < n0
   ·obtain ⟨cs', h1, h2⟩ := hcell i (by omega)
    obtain ⟨e, he⟩ := hel h2
    exact ⟨e, fun _ => ⟨cs', h1, he⟩⟩
   ·exact ⟨e0, fun h => absurd h hi⟩
  obtain ⟨E, hE⟩ := Classical.axiomOfChoice key
  refine ⟨some a, (List.range n0).map E, c0, by simp, by simp; omega, ?_⟩
  by_cases h0 : n0 = 0
  ·subst h0; exact .inl rfl
  ·have hget : ∀ i r, i < n0 → r < k → W.cell? ((a.add (i * k)).add r) = (f (E i))[r]? := by
    intro i r hi hr
    obtain ⟨cs', h1, rfl⟩ := hE i hi
    unfold World.cells? at h1
    split at h1
    ·exact mapM_some_get h1 r r (by simp [hr])
    ·cases h1
   have h0' := hget 0 0 (by omega) hpos
   obtain ⟨v0, hv0⟩ : ∃ v0, (f (E 0))[0]? = some v0 := ⟨_, List.getElem?_eq_getElem (by rw [hk]; exact hpos)⟩
   obtain ⟨b, o, s⟩ := a
   cases s with
   | some q =>
    rw [hv0] at h0'
    simp [World.cell?, Addr.add] at h0'
    split at h0' <;> simp_all
   | none =>
   have hfirst : W.cell? ⟨b, o, none⟩ = some v0 := by
    rw [Addr.add_mid, Addr.add_mid, hv0] at h0'
    simpa using h0'
   refine .inr ⟨b, o, rfl, Nat.zero_le _, block_lt_of_cell hfirst, fun j v hv => ?_⟩
   have hj : j < n0 * k := by
    have h := (List.getElem?_eq_some_iff.1 hv).1
    rw [flat_length hk] at h
    simpa using h
   have hd : j / k < n0 := (Nat.div_lt_iff_lt_mul hpos).2 hj
   have hmod : j % k < k := Nat.mod_lt _ hpos
   have hat := flat_get hk ((List.range n0).map E) (j / k) (E (j / k)) (by simp [hd]) (j % k) hmod
   have hjj : j / k * k + j % k = j := by rw [Nat.mul_comm]; exact Nat.div_add_mod j k
   rw [hjj] at hat
   have h := hget (j / k) (j % k) hd hmod
   rw [Addr.add_mid, Addr.add_mid] at h
   rw [show o + j = o + j / k * k + j % k by omega, h, ← hat]
   exact hv
end
section
variable {H : Type} {enc : TypeId × Value → H} {W W' : World}
theorem laidOut : laidOutB Tryz.prog = true := by kernel_rfl
theorem stays_all {P : Program} (hl : laidOutB P = true) (hb : Below W.heap.size W W') : ∀ {ts : List TypeId} {vs : List Value} {ds : List (DataW H)} {ps : List MemPlace}, (ts.all fun t => P.readableRec t && decide (t < P.types.size)) = true →
  DataW.TrodAll enc P W 0 (fun _ => true) true ts vs ds ps → DataW.TrodAll enc P W' 0 (fun b => decide (b < W.heap.size)) true ts vs ds ps
 | [], [], [], _, _, h => h
 | [], [], _ :: _, _, _, h => h.elim
 | [], _ :: _, _, _, _, h => h.elim
 | _ :: _, [], _, _, _, h => h.elim
 | _ :: _, _ :: _, [], _, _, h => h.elim
 | t :: ts, v :: vs, d :: ds, ps, hr, h => by
  have hlt := h.lt
  obtain ⟨p, q, ⟨fuel, h4⟩, hs, e⟩ := h
  simp only [List.all_cons, Bool.and_eq_true, decide_eq_true_eq] at hr
  have hp : ∀ x ∈ p, x.block < W.heap.size := fun x hx => hlt x (by rw [e]; simp [hx])
  exact ⟨p, q, ⟨fuel, DataW.trod_stays (kids_book hl hr.1.1) (book_sized hr.1.1) (fun h => by cases h) ⟨hr.1.2, book_self t⟩ h4 (fun x hx => hb.same (hp x hx)) (fun x hx => by simpa using hp x hx)⟩,
   stays_all hl hb (by simpa using hr.2) hs, e⟩
end
end Go.Proofs.YthgfpdidilolgaaGreat
namespace Go.Proofs.YthgfpdidilolgaaGreat
set_option maxRecDepth 10000
open Go.RowKit Go.Sort
theorem alloc_size (w : World) (o : Obj) : (w.alloc o).heap.size = w.heap.size + 1 := by simp
theorem wp_alloc_any {P : Program} {T : TypeId} {C : Array Value} {n : Nat} (hz : (P.info? T).map (fun i => (i.zero, i.size)) = some (some (.agg C), n)) {o : Oper} {a : Act} {w : World} {K : Act → World → Prop} {Q : Exit → Act → World → Prop} (ho : o.op = .alloc T)
  (h : ∀ p W, Blk p C T W → Below w.heap.size w W → w.heap.size ≤ p → p < W.heap.size → K (a.put o.dst (.pointer (some ⟨p, 0, none⟩))) W) : o.wp P a w K Q :=
 wp_alloc_zero hz ho (h _ _ (blk_new w C T) (below_box w _) (Nat.le_refl _) (by simp))
theorem wp_store_all {P : Program} {op : Oper} {a : Act} {w : World} {K : Act → World → Prop} {Q : Exit → Act → World → Prop} (ty : TypeId) (x y : Operand) (ho : op.op = .store ty x y)
  {B : Nat} {C cells : Array Value} {T : TypeId} (hB : Blk B C T w) (hx : a.eval x = .pointer (some ⟨B, 0, none⟩)) (hy : a.eval y = .agg cells) (hi : (P.info? ty).map (·.size) = some cells.size) (hs : C.size = cells.size) (h1 : cells.all (·.oneCell') = true)
  (h : ∀ W, Blk B cells T W → Kp [B] w W → K (a.put op.dst undef) W) : op.wp P a w K Q := by
 refine wp_store_mid ty x y ho B 0 cells hx hy (hB.there 0 cells.size (by omega)) hi h1 ?_
 have hb := hB.setCells cells.toList 0
 rw [putAt_all _ _ hs] at hb
 exact h _ hb (Kp.setCells B (by simp) cells.toList 0 w)
theorem wp_store_part {P : Program} {op : Oper} {a : Act} {w : World} {K : Act → World → Prop} {Q : Exit → Act → World → Prop} (ty : TypeId) (x y : Operand) (ho : op.op = .store ty x y)
  {B off : Nat} {C cells : Array Value} {T : TypeId} (hB : Blk B C T w) (hx : a.eval x = .pointer (some ⟨B, off, none⟩)) (hy : a.eval y = .agg cells) (hi : (P.info? ty).map (·.size) = some cells.size) (hs : off + cells.size ≤ C.size) (h1 : cells.all (·.oneCell') = true)
  (h : ∀ W, Blk B (putAt C off cells.toList) T W → Kp [B] w W → K (a.put op.dst undef) W) : op.wp P a w K Q :=
 wp_store_mid ty x y ho B off cells hx hy (hB.there off cells.size hs) hi h1 (h _ (hB.setCells cells.toList off) (Kp.setCells B (by simp) cells.toList off w))
theorem build_as {P : Program} {ops : Array Oper} {rest : List Oper} {o : Oper} {a : Act} {w : World} {Q : Exit → Act → World → Prop} (hgd : o.guard = none) (T : TypeId) (parts : Array (Nat × Operand)) (ho : o.op = .build T parts) {C : Array Value}
  (hz : P.built T (parts.map fun (i, x) => (i, a.eval x)).toList = some C) (h : wpList P ops Q rest (a.put o.dst (.agg C)) w) : wpList P ops Q (o :: rest) a w :=
 wpList_build hgd T parts ho (by rw [hz]; rfl) (by rw [hz]; exact h)
theorem yields_build {P : Program} {ops : Array Oper} {S : World → Prop} {op : Oper} {a : Act} (hw : Region.wanted op (yielded ops a.tmps) = true) (T : TypeId) (parts : Array (Nat × Operand)) (ho : op.op = .build T parts) {C : Array Value}
  (hz : P.built T (parts.map fun (i, x) => (i, a.eval x)).toList = some C) : YieldsIf P ops S op (.agg C) a :=
 .inl ⟨hw, fun w _ => by unfold execOp; simp only [ho, Sem.run_bind, run_build w T _ C hz, Result.andThen_ok]; rfl⟩
theorem yA {α : Type} {l : List α} {i : Nat} (h : i < l.toArray.size) : l.toArray[i] = l[i]'(by simpa using h) := List.getElem_toArray h
theorem yB {α : Type} (a : α) (l : List α) (i : Nat) (h : i + 1 < (a :: l).length) : (a :: l)[i + 1] = l[i]'(by simpa using h) := List.getElem_cons_succ a l i h
theorem yC {α : Type} {a : α} {l : List α} (h : 0 < (a :: l).length) : (a :: l)[0] = a := List.getElem_cons_zero a l h
theorem yD {α : Type} (l : List α) (i : Nat) (a : α) : l.toArray.setIfInBounds i a = (l.set i a).toArray := List.setIfInBounds_toArray l i a
theorem yE {α : Type} {x a : α} {l : List α} {n : Nat} : (x :: l).set (n + 1) a = x :: l.set n a := List.set_cons_succ
theorem yF {α : Type} {x a : α} {l : List α} : (x :: l).set 0 a = a :: l := List.set_cons_zero
theorem tkH {P : Program} {md : Region.Mode} {ops : Array Oper} {Q : Exit → Act → World → Prop} {S : World → Prop} (i : Nat) {oi : Oper} {v : Value} {fuel : Nat} {listed : Array Bool} {a : Act} {w : World} (hi : ops[i]? = some oi)
  (h3 : (Region.noSelect ops && (Region.free md ops listed i && (Region.ready md ops listed).contains i)) = true) (hQ : ∀ c a w, Q (.panic c) (a.put oi.dst v) w → Q (.panic c) a w) (hy : YieldsIf P ops S oi v a) (hS : S w)
  (h : wpAnyH P md ops Q S fuel (listed.setIfInBounds i true) (a.put oi.dst v) w) : wpAnyH P md ops Q S (fuel + 1) listed a w := by
 rw [Bool.and_eq_true, Bool.and_eq_true] at h3
 exact wpAnyH_take hi h3.1 h3.2.1 h3.2.2 hQ hy hS h
theorem tkQ {P : Program} {md : Region.Mode} {ops : Array Oper} {Q : Exit → Act → World → Prop} {S : World → Prop} (i : Nat) {oi : Oper} {v : Value} {fuel : Nat} {listed : Array Bool} {a : Act} {w : World} (hS : S w)
  (h : wpAnyH P md ops Q S fuel (listed.setIfInBounds i true) (a.put oi.dst v) w) (hi : ops[i]? = some oi := by rfl)
  (h3 : (Region.noSelect ops && (Region.free md ops listed i && (Region.ready md ops listed).contains i)) = true := by kernel_rfl) (hQ : ∀ c a w, Q (.panic c) (a.put oi.dst v) w → Q (.panic c) a w := by exact fun _ _ _ h => h)
  (hw : Region.wanted oi (yielded ops a.tmps) = true := by rfl) (hy : ∀ w, S w → (execOp a.eval oi).run P w = .ok (.value v) w := by (intro w hSw; clear hSw; go_simp; try with_reducible rfl)) : wpAnyH P md ops Q S (fuel + 1) listed a w :=
 tkH i hi h3 hQ (Or.inl ⟨hw, hy⟩) hS h
theorem tkU {P : Program} {md : Region.Mode} {ops : Array Oper} {Q : Exit → Act → World → Prop} {S : World → Prop} (i : Nat) {oi : Oper} {fuel : Nat} {listed : Array Bool} {a : Act} {w : World} (hS : S w)
  (h : wpAnyH P md ops Q S fuel (listed.setIfInBounds i true) (a.put oi.dst undef) w) (hi : ops[i]? = some oi := by rfl)
  (h3 : (Region.noSelect ops && (Region.free md ops listed i && (Region.ready md ops listed).contains i)) = true := by kernel_rfl) (hQ : ∀ c a w, Q (.panic c) (a.put oi.dst undef) w → Q (.panic c) a w := by exact fun _ _ _ h => h)
  (hw : Region.wanted oi (yielded ops a.tmps) = false := by rfl) : wpAnyH P md ops Q S (fuel + 1) listed a w :=
 tkH i hi h3 hQ (Or.inr ⟨hw, rfl⟩) hS h
theorem rd1 {P : Program} {md : Region.Mode} {ops : Array Oper} {Q : Exit → Act → World → Prop} {S : World → Prop} (i : Nat) {o : Oper} {fuel : Nat} {listed : Array Bool} {a : Act} {w : World}
  (h : ∀ K' : Act → World → Prop, Shut (∀ a w, S w → (S w → wpAnyH P md ops Q S fuel (listed.setIfInBounds i true) a w) → K' a w) → if Region.wanted o (yielded ops a.tmps) = true then Oper.wp P o a w K' Q else K' (a.put o.dst undef) w)
  (hr : Region.ready md ops listed = [i] := by kernel_rfl) (ho : ops[i]? = some o := by rfl) : wpAnyH P md ops Q S (fuel + 1) listed a w :=
 wpAnyH_ready hr (by simp) (AllReadyH.cons ho h AllReadyH.nil)
theorem yy : (∀ {α : Type} {l : List α} {i : Nat} (h : i < l.toArray.size), l.toArray[i] = l[i]'(by simpa using h)) ∧ (∀ {α : Type} (a : α) (l : List α) (i : Nat) (h : i + 1 < (a :: l).length), (a :: l)[i + 1] = l[i]'(by simpa using h)) ∧ (∀ {α : Type} {a : α} {l : List α} (h : 0 < (a :: l).length), (a :: l)[0] = a) ∧
  (∀ (a : Act) (d : Tmp) (v : Value), a.put (some d) v = { a with tmps := a.tmps.setIfInBounds d v }) ∧ (∀ (a : Act) (v : Value), a.put none v = a) ∧
  (∀ {α : Type} (l : List α) (i : Nat) (a : α), l.toArray.setIfInBounds i a = (l.set i a).toArray) ∧ (∀ {α : Type} {x a : α} {l : List α} {n : Nat}, (x :: l).set (n + 1) a = x :: l.set n a) ∧ ∀ {α : Type} {x a : α} {l : List α}, (x :: l).set 0 a = a :: l :=
 ⟨@yA, @yB, @yC, fun _ _ _ => rfl, fun _ _ => rfl, @yD, @yE, @yF⟩
theorem three_blk {T0 T1 T2 : TypeId} {C0 C1 C2 : Array Value} {w W : World} (h : ((w.alloc (.cells C0 T0)).alloc (.cells C1 T1)).alloc (.cells C2 T2) = W) :
  Blk w.heap.size C0 T0 W ∧ Blk (w.heap.size + 1) C1 T1 W ∧ Blk (w.heap.size + 1 + 1) C2 T2 W ∧ Below w.heap.size w W := by
 subst h
 refine ⟨((blk_new w C0 T0).alloc _).alloc _, ?_, ?_, ((below_box w _).alloc (by simp) _).alloc (by simp; omega) _⟩
 ·have h := (blk_new (w.alloc (.cells C0 T0)) C1 T1)
  rw [alloc_size] at h
  exact h.alloc _
 ·have h := (blk_new ((w.alloc (.cells C0 T0)).alloc (.cells C1 T1)) C2 T2)
  rw [alloc_size, alloc_size] at h
  exact h
theorem two_blk {T0 T1 : TypeId} {C0 C1 : Array Value} {w W : World} (h : (w.alloc (.cells C0 T0)).alloc (.cells C1 T1) = W) :
  Blk w.heap.size C0 T0 W ∧ Blk (w.heap.size + 1) C1 T1 W ∧ Below w.heap.size w W := by
 subst h
 refine ⟨(blk_new w C0 T0).alloc _, ?_, (below_box w _).alloc (by simp) _⟩
 have h := (blk_new (w.alloc (.cells C0 T0)) C1 T1)
 rw [alloc_size] at h
 exact h
theorem four_blk {T0 T1 T2 T3 : TypeId} {C0 C1 C2 C3 : Array Value} {w W : World} (h : (((w.alloc (.cells C0 T0)).alloc (.cells C1 T1)).alloc (.cells C2 T2)).alloc (.cells C3 T3) = W) :
  Blk w.heap.size C0 T0 W ∧ Blk (w.heap.size + 1) C1 T1 W ∧ Blk (w.heap.size + 1 + 1) C2 T2 W ∧ Blk (w.heap.size + 1 + 1 + 1) C3 T3 W ∧ Below w.heap.size w W := by
 subst h
 obtain ⟨h0, h1, h2, hb⟩ := three_blk (T0 := T0) (T1 := T1) (T2 := T2) (C0 := C0) (C1 := C1) (C2 := C2) (w := w) rfl
 refine ⟨h0.alloc _, h1.alloc _, h2.alloc _, ?_, hb.alloc hb.size _⟩
 have h := (blk_new (((w.alloc (.cells C0 T0)).alloc (.cells C1 T1)).alloc (.cells C2 T2)) C3 T3)
 rw [alloc_size, alloc_size, alloc_size] at h
 exact h
end Go.Proofs.YthgfpdidilolgaaGreat
namespace Go.Proofs.YthgfpdidilolgaaGreat
set_option maxRecDepth 10000
open Go.RowKit Go.Sort
theorem five_blk {T0 T1 T2 T3 T4 : TypeId} {C0 C1 C2 C3 C4 : Array Value} {w W : World} (h : ((((w.alloc (.cells C0 T0)).alloc (.cells C1 T1)).alloc (.cells C2 T2)).alloc (.cells C3 T3)).alloc (.cells C4 T4) = W) :
  Blk w.heap.size C0 T0 W ∧ Blk (w.heap.size + 1) C1 T1 W ∧ Blk (w.heap.size + 1 + 1) C2 T2 W ∧ Blk (w.heap.size + 1 + 1 + 1) C3 T3 W ∧ Blk (w.heap.size + 1 + 1 + 1 + 1) C4 T4 W ∧ Below w.heap.size w W := by
 subst h
 obtain ⟨h0, h1, h2, h3, hb⟩ := four_blk (T0 := T0) (T1 := T1) (T2 := T2) (T3 := T3) (C0 := C0) (C1 := C1) (C2 := C2) (C3 := C3) (w := w) rfl
 refine ⟨h0.alloc _, h1.alloc _, h2.alloc _, h3.alloc _, ?_, hb.alloc hb.size _⟩
 have h := (blk_new ((((w.alloc (.cells C0 T0)).alloc (.cells C1 T1)).alloc (.cells C2 T2)).alloc (.cells C3 T3)) C4 T4)
 rw [alloc_size, alloc_size, alloc_size, alloc_size] at h
 exact h
end Go.Proofs.YthgfpdidilolgaaGreat
namespace Go.Proofs.YthgfpdidilolgaaGreat
set_option maxRecDepth 10000
open Go.RowKit Go.Sort
section
variable {α : Type} {f : α → List Value} {k : Nat}
theorem li_whole {B g : Nat} {L : List α} {T : TypeId} {w : World} (h : Blk g (flat f L).toArray T w) (hB : B ≤ g) : Li f B (some ⟨g, 0, none⟩) L w :=
 .inr ⟨g, 0, rfl, hB, h.lt, by simpa using h.whole⟩
def Lg (f : α → List Value) (k : Nat) (T : TypeId) (B : Nat) (a : Option Addr) (cap : Nat) (L : List α) (w : World) : Prop :=
 (a = none ∧ cap = 0 ∧ L = []) ∨ ∃ g, a = some ⟨g, 0, none⟩ ∧ B ≤ g ∧ Ow f k T g cap L w
theorem Lg.none (T : TypeId) (B : Nat) (w : World) : Lg f k T B none 0 [] w := .inl ⟨rfl, rfl, rfl⟩
theorem Lg.of {T : TypeId} {B g cap : Nat} {L : List α} {w : World} (h : Ow f k T g cap L w) (hB : B ≤ g) : Lg f k T B (some ⟨g, 0, .none⟩) cap L w := .inr ⟨g, rfl, hB, h⟩
theorem Lg.li {T : TypeId} {B : Nat} {a : Option Addr} {cap : Nat} {L : List α} {w : World} (h : Lg f k T B a cap L w) : Li f B a L w := by
 rcases h with ⟨_, _, rfl⟩ | ⟨g, rfl, hB, h⟩
 ·exact Li.nil _ _ _
 ·exact h.li hB
theorem Lg.below {T : TypeId} {B : Nat} {a : Option Addr} {cap : Nat} {L : List α} {w w' : World} (h : Lg f k T B a cap L w) (hb : Below w.heap.size w w') : Lg f k T B a cap L w' := by
 rcases h with h | ⟨g, e, hB, h⟩
 ·exact .inl h
 ·exact .inr ⟨g, e, hB, h.below hb⟩
theorem Lg.kp {T : TypeId} {B : Nat} {S : List Nat} {a : Option Addr} {cap : Nat} {L : List α} {w w' : World} (h : Lg f k T B a cap L w) (hb : Kp S w w') (hS : ∀ k ∈ S, k < B) : Lg f k T B a cap L w' := by
 rcases h with h | ⟨g, e, hB, h⟩
 ·exact .inl h
 ·exact .inr ⟨g, e, hB, h.kp hb (fun hm => by have := hS g hm; omega)⟩
theorem Lg.cap {T : TypeId} {B : Nat} {a : Option Addr} {cap : Nat} {L : List α} {w : World} (h : Lg f k T B a cap L w) : L.length ≤ cap := by
 rcases h with ⟨_, _, rfl⟩ | ⟨g, e, hB, h⟩
 ·exact Nat.zero_le _
 ·exact h.cap
theorem run_append_nil {P : Program} (hk : ∀ x, (f x).length = k) {t T : TypeId} (ty : TypeId) (ht : P.underlying t = some (.slice T)) {i : TypeInfo} {z : Value} {bytes : Nat} (hi : P.info? T = some i) (hz : i.zero = some z) (hs : i.size = k) (hby : i.bytes = bytes) (hzs : z.cells.size = k)
  {w : World} {x : Value} {M : List α} (hx : Src P k t x M.length (flat f M) w) (hM : 0 < M.length) (hb : M.length * bytes ≤ 140737488355328) (h63 : M.length ≤ maxLen) :
  ∃ cap' w', (Builtin.append_ #[t, t] ty #[.slice none 0 0, x]).run P w = .ok (.slice (some ⟨w.heap.size, 0, none⟩) M.length cap') w' ∧ Ow f k T w.heap.size cap' M w' ∧ Below w.heap.size w w' := by
 subst hs
 subst hby
 have hsmall : M.length ≤ 9223372036854775807 := by simp only [maxLen] at h63; omega
 have hold := run_firstCells_none (P := P) w.drew i.size 0 0 0
 have hr := run_append_grow_src (P := P) w t t ty T i z ht hi hz none 0 0 [] hold x M.length (flat f M) hx (by omega) (by omega) (growslice_fits (by omega) (by rw [Nat.zero_add]; exact hb))
 rw [Nat.zero_add, List.nil_append] at hr
 have hge := grownCap_ge w M.length 0 T
 refine ⟨_, _, hr, ⟨_, heap_alloc_new w.drew _, hge, grownCap_le_maxLen w _ _ _ h63, ?_, ?_⟩, ((Below.refl _ _).drew).alloc (Nat.le_refl _) _⟩
 ·simp only [Array.size_append, List.size_toArray, size_zeroCells, hzs, flat_length hk, ← Nat.add_mul]
  congr 1
  omega
 ·rw [Array.toList_append, List.take_append_of_le_length (by simp [flat_length hk])]
  rw [List.take_of_length_le]
  show (flat f M).length ≤ _
  rw [flat_length hk]
  exact Nat.le_refl _
theorem append_lg {P : Program} (hk : ∀ x, (f x).length = k) {ops : Array Oper} {rest : List Oper} {o : Oper} {a : Act} {Q : Exit → Act → World → Prop} (hgd : o.guard = none) (s y : Operand) {t T : TypeId} (ho : o.op = .call { callee := .builtin .append, args := #[s, y], argTypes := #[t, t] })
  (ht : P.underlying t = some (.slice T)) {i : TypeInfo} {z : Value} {bytes : Nat} (hi : P.info? T = some i) (hz : i.zero = some z) (hs : i.size = k) (hby : i.bytes = bytes) (hzs : z.cells.size = k)
  {B : Nat} {ad : Option Addr} {cap : Nat} {L : List α} {w : World} (h : Lg f k T B ad cap L w) (hB : B ≤ w.heap.size) {n : Nat} (hn : L.length = n) (he : a.eval s = .slice ad n cap) {x : Value} {M : List α} (hM : 0 < M.length) (hx : Src P k t x M.length (flat f M) w) (hey : a.eval y = x) (hb : (n + M.length) * bytes ≤ 140737488355328) (h63 : n + M.length ≤ maxLen)
  (hK : ∀ ad' cap' w', Lg f k T B ad' cap' (L ++ M) w' → Below B w w' → wpList P ops Q rest (a.put o.dst (.slice ad' (n + M.length) cap')) w') : wpList P ops Q (o :: rest) a w := by
 subst hn
 refine wpList_plain hgd fun K hK' => ?_
 have key : ∃ ad' cap' w', (Builtin.append_ #[t, t] o.type #[.slice ad L.length cap, x]).run P w = .ok (.slice ad' (L.length + M.length) cap') w' ∧ Lg f k T B ad' cap' (L ++ M) w' ∧ Below B w w' := by
  rcases h with ⟨rfl, rfl, rfl⟩ | ⟨g, rfl, hBg, h⟩
  ·obtain ⟨cap', w', hr, h1, h2⟩ := run_append_nil (P := P) hk o.type ht hi hz hs hby hzs hx hM (by simpa using hb) (by simpa using h63)
   exact ⟨_, cap', w', by simpa using hr, by simpa using Lg.of h1 hB, h2.mono hB⟩
  ·obtain ⟨g', cap', w', hr, h1, h2, h3⟩ := run_append_ow (P := P) hk o.type ht hi hz hs hby hzs h hx hb h63
   refine ⟨_, cap', w', by rw [← List.length_append]; exact hr, Lg.of h1 (by rcases h3 with rfl | h3 <;> omega), h2.below (by simp; exact hBg) hB⟩
 obtain ⟨ad', cap', w', hr, h1, h2⟩ := key
 have hk2 := hK' _ _ (hK ad' cap' w' h1 h2)
 unfold Oper.wp execOp
 simp only [ho, resolve, invoke, builtin, Sem.run_bind, Sem.run_pure, Result.andThen_ok, List.map_toArray, List.map_cons, List.map_nil, he, hey, hr]
 exact hk2
end
end Go.Proofs.YthgfpdidilolgaaGreat
namespace Go.Proofs.YthgfpdidilolgaaGreat
set_option maxRecDepth 10000
open Go.RowKit Go.Sort
section
variable {α : Type} {f : α → List Value} {k : Nat}
theorem Ow.len {T : TypeId} {g cap : Nat} {L : List α} {w : World} (h : Ow f k T g cap L w) : L.length ≤ cap ∧ cap ≤ maxLen := by obtain ⟨_, _, h1, h2, _⟩ := h; exact ⟨h1, h2⟩
theorem take_put (C : Array Value) (a o : Nat) (vs : List Value) (ha : o + vs.length ≤ a) (hC : a ≤ C.size) : (putAt C o vs).toList.take a = (putAt (C.toList.take a).toArray o vs).toList := by
 have hl : (C.toList.take a).length = a := by rw [List.length_take, Array.length_toList]; omega
 apply List.ext_getElem?
 intro j
 rw [List.getElem?_take, Array.getElem?_toList, Array.getElem?_toList, putAt_get vs o C j (by omega), putAt_get vs o _ j (by rw [List.size_toArray, hl]; omega)]
 by_cases hj : j < a
 ·rw [if_pos hj]
  by_cases h : o ≤ j ∧ j < o + vs.length
  ·rw [if_pos h, if_pos h]
  ·rw [if_neg h, if_neg h]
   simp [hj]
 ·rw [if_neg hj, if_neg (by omega)]
  simp
  omega
theorem Ow.put (hk : ∀ x, (f x).length = k) (hpos : 0 < k) {T : TypeId} {g cap : Nat} {L : List α} {w W : World} (h : Ow f k T g cap L w) (i : Nat) (hi : i < L.length) (e : α)
  {C : Array Value} (hC : Blk g C T w) (hW : Blk g (putAt C (i * k) (f e)) T W) : Ow f k T g cap (L.set i e) W := by
 obtain ⟨cur, h0, h1, h2, h3, h4⟩ := h
 obtain ⟨rfl, _⟩ := h0.eq hC
 refine ⟨_, hW, by rw [List.length_set]; exact h1, h2, by rw [putAt_size]; exact h3, ?_⟩
 rw [List.length_set]
 have hle : i * k + (f e).length ≤ L.length * k := by rw [hk, ← Nat.succ_mul]; exact Nat.mul_le_mul_right _ hi
 have hle2 : L.length * k ≤ cur.size := by rw [h3]; exact Nat.mul_le_mul_right _ h1
 rw [take_put cur (L.length * k) (i * k) (f e) hle hle2, h4, flat_set hk hpos L i hi e]
theorem Ow.front (hk : ∀ x, (f x).length = k) {T : TypeId} {g cap : Nat} {L : List α} {w W : World} (h : Ow f k T g cap L w) (i : Nat) (hi : i ≤ L.length) (vs : List Value) (hvs : i * k + vs.length ≤ cap * k)
  {C : Array Value} (hC : Blk g C T w) (hW : Blk g (putAt C (i * k) vs) T W) : Ow f k T g cap (L.take i) W := by
 obtain ⟨cur, h0, h1, h2, h3, h4⟩ := h
 obtain ⟨rfl, _⟩ := h0.eq hC
 refine ⟨_, hW, by rw [List.length_take]; omega, h2, by rw [putAt_size]; exact h3, ?_⟩
 rw [List.length_take, Nat.min_eq_left hi, ← flat_take hk, ← h4, List.take_take]
 have hle : i * k ≤ L.length * k := Nat.mul_le_mul_right _ hi
 rw [Nat.min_eq_left hle]
 apply List.ext_getElem?
 intro j
 rw [List.getElem?_take, List.getElem?_take, Array.getElem?_toList, putAt_get vs (i * k) cur j (by omega), Array.getElem?_toList]
 by_cases hj : j < i * k
 ·rw [if_pos hj, if_pos hj, if_neg (by omega), Array.getElem?_toList]
 ·rw [if_neg hj, if_neg hj]
theorem cut_low {P : Program} {ops : Array Oper} {rest : List Oper} {op : Oper} {a : Act} {Q : Exit → Act → World → Prop} (hgd : op.guard = none) (x y : Operand) {t T : TypeId} (ho : op.op = .slice t x (some y) none none)
  (ht : P.underlying t = some (.slice (P.elem t))) (hT : P.elem t = T) (hsz : ∀ w, (sizeOf T).run P w = .ok k w) {g n c i : Nat} {w : World} (hi : i < n) (hc : n ≤ c) (hx : a.eval x = .slice (some ⟨g, 0, none⟩) n c) (hy : a.eval y = .int .i64 (i : Int))
  (hK : wpList P ops Q rest (a.put op.dst (.slice (some ⟨g, i * k, none⟩) (n - i) (c - i))) w) : wpList P ops Q (op :: rest) a w := by
 refine wpList_plain hgd fun K hK' => ?_
 have hr : (Instr.slice t (.slice (some ⟨g, 0, none⟩) n c) (some (.int .i64 (i : Int))) none none).run P w = .ok (.slice (some ⟨g, i * k, none⟩) (n - i) (c - i)) w := by
  rw [run_slice_l w t (some ⟨g, 0, none⟩) n c ht .i64 i (by omega) (by omega), hT, hsz w]
  simp only [Result.andThen, sliced, Int.toNat_natCast]
  rw [if_neg (by omega)]
  simp [Addr.add_mid]
 have hk2 := hK' _ _ hK
 unfold Oper.wp execOp
 simp only [ho, Option.map_some, Option.map_none, hx, hy, Sem.run_bind, run_sliceAt_slice _ _ _ _ _ _ ht, hr, Result.andThen_ok, Sem.run_pure]
 exact hk2
theorem clear_at {P : Program} (hk : ∀ x, (f x).length = k) (hpos : 0 < k) (h1 : ∀ x, ∀ v ∈ f x, v.oneCell' = true) (e : α) {ops : Array Oper} {rest : List Oper} {o : Oper} {a : Act} {Q : Exit → Act → World → Prop} (hgd : o.guard = none) (s : Operand) {t T : TypeId} (ho : o.op = .call { callee := .builtin .clear, args := #[s], argTypes := #[t] })
  (ht : P.underlying t = some (.slice T)) {z : Value} (hv : ∀ w, (zeroValue T).run P w = .ok z w) (hzc : z.cells = (f e).toArray) {G off n c : Nat} {C : Array Value} {w : World} (hG : Blk G C T w) (hn : 0 < n) (hs : off + n * k ≤ C.size) (he : a.eval s = .slice (some ⟨G, off, none⟩) n c)
  (hK : ∀ W, Blk G (putAt C off (flat f (List.replicate n e))) T W → Kp [G] w W → wpList P ops Q rest (a.put o.dst (.tuple #[])) W) : wpList P ops Q (o :: rest) a w := by
 refine wpList_plain hgd fun K hK' => ?_
 have hr : (Builtin.clear_ #[t] o.type #[.slice (some ⟨G, off, none⟩) n c]).run P w = .ok (.tuple #[]) (w.setCells G off (flat f (List.replicate n e))) := by
  have hth := hG.there off (n * k) hs
  have hlen : (flat f (List.replicate n e)).length = n * k := by rw [flat_length hk, List.length_replicate]
  have hst := run_storeCells_cells (P := P) G off (flat f (List.replicate n e)) 0 w (fun j hj => by simpa using (hth j (by omega)).1) (fun j hj => by simpa using (hth j (by omega)).2) (flat_one h1 _)
  simp only [Nat.add_zero] at hst
  have hzz : (Builtin.zeroCells z.cells n).toList = flat f (List.replicate n e) := by
   have := flat_made hk hpos e n
   rw [hzc]
   have e2 : Builtin.zeroCells (f e).toArray n = madeCells (f e).toArray (n * k) := by rw [← hk e]; rfl
   rw [e2, this]
  obtain ⟨m, rfl⟩ : ∃ m, n = m + 1 := ⟨n - 1, by omega⟩
  simp [Builtin.clear_, run_underlying ht, hv, hzz, hst]
 have hk2 := hK' _ _ (hK _ (hG.setCells (flat f (List.replicate n e)) off) (Kp.setCells G (by simp) _ _ w))
 unfold Oper.wp execOp
 simp only [ho, resolve, invoke, builtin, Sem.run_bind, Sem.run_pure, Result.andThen_ok, List.map_toArray, List.map_cons, List.map_nil, he, hr]
 exact hk2
def blkOf (a : Option Addr) : List Nat := a.toList.map (·.block)
theorem Lg.in {T : TypeId} {B : Nat} {a : Option Addr} {cap : Nat} {L : List α} {w : World} (h : Lg f k T B a cap L w) : ∀ j ∈ blkOf a, B ≤ j ∧ j < w.heap.size := by
 rcases h with ⟨rfl, _, _⟩ | ⟨g, rfl, hB, h⟩
 ·intro j hj; simp [blkOf] at hj
 ·intro j hj
  simp [blkOf] at hj
  subst hj
  exact ⟨hB, h.lt⟩
theorem run_append_lk {P : Program} (hk : ∀ x, (f x).length = k) {t T : TypeId} (ty : TypeId) (ht : P.underlying t = some (.slice T)) {i : TypeInfo} {z : Value} {bytes : Nat} (hi : P.info? T = some i) (hz : i.zero = some z) (hs : i.size = k) (hby : i.bytes = bytes) (hzs : z.cells.size = k)
  {B : Nat} {ad : Option Addr} {cap : Nat} {L : List α} {w : World} (h : Lg f k T B ad cap L w) (hB : B ≤ w.heap.size) {x : Value} {M : List α} (hM : 0 < M.length) (hx : Src P k t x M.length (flat f M) w) (hb : (L.length + M.length) * bytes ≤ 140737488355328) (h63 : L.length + M.length ≤ maxLen) :
  ∃ ad' cap' w', (Builtin.append_ #[t, t] ty #[.slice ad L.length cap, x]).run P w = .ok (.slice ad' (L.length + M.length) cap') w' ∧ Lg f k T B ad' cap' (L ++ M) w' ∧ Kp (blkOf ad) w w' ∧ (∃ g, ad' = some ⟨g, 0, none⟩ ∧ (ad' = ad ∨ w.heap.size ≤ g)) := by
 rcases h with ⟨rfl, rfl, rfl⟩ | ⟨g, rfl, hBg, h⟩
 ·obtain ⟨cap', w', hr, h1, h2⟩ := run_append_nil (P := P) hk ty ht hi hz hs hby hzs hx hM (by simpa using hb) (by simpa using h63)
  exact ⟨_, cap', w', by simpa using hr, by simpa using Lg.of h1 hB, Kp.of_below h2, _, rfl, .inr (Nat.le_refl _)⟩
 ·obtain ⟨g', cap', w', hr, h1, h2, h3⟩ := run_append_ow (P := P) hk ty ht hi hz hs hby hzs h hx hb h63
  refine ⟨_, cap', w', by rw [← List.length_append]; exact hr, Lg.of h1 (by rcases h3 with rfl | h3 <;> omega), h2, g', rfl, ?_⟩
  rcases h3 with rfl | h3
  ·exact .inl rfl
  ·exact .inr h3
theorem append_lk {P : Program} (hk : ∀ x, (f x).length = k) {ops : Array Oper} {rest : List Oper} {o : Oper} {a : Act} {Q : Exit → Act → World → Prop} (hgd : o.guard = none) (s y : Operand) {t T : TypeId} (ho : o.op = .call { callee := .builtin .append, args := #[s, y], argTypes := #[t, t] })
  (ht : P.underlying t = some (.slice T)) {i : TypeInfo} {z : Value} {bytes : Nat} (hi : P.info? T = some i) (hz : i.zero = some z) (hs : i.size = k) (hby : i.bytes = bytes) (hzs : z.cells.size = k)
  {B : Nat} {ad : Option Addr} {cap : Nat} {L : List α} {w : World} (h : Lg f k T B ad cap L w) (hB : B ≤ w.heap.size) {n : Nat} (hn : L.length = n) (he : a.eval s = .slice ad n cap) {x : Value} {M : List α} (hM : 0 < M.length) (hx : Src P k t x M.length (flat f M) w) (hey : a.eval y = x) (hb : (n + M.length) * bytes ≤ 140737488355328) (h63 : n + M.length ≤ maxLen)
  (hK : ∀ ad' cap' w', Lg f k T B ad' cap' (L ++ M) w' → Kp (blkOf ad) w w' → wpList P ops Q rest (a.put o.dst (.slice ad' (n + M.length) cap')) w') : wpList P ops Q (o :: rest) a w := by
 subst hn
 refine wpList_plain hgd fun K hK' => ?_
 obtain ⟨ad', cap', w', hr, h1, h2, _⟩ := run_append_lk (P := P) hk o.type ht hi hz hs hby hzs h hB hM hx hb h63
 have hk2 := hK' _ _ (hK ad' cap' w' h1 h2)
 unfold Oper.wp execOp
 simp only [ho, resolve, invoke, builtin, Sem.run_bind, Sem.run_pure, Result.andThen_ok, List.map_toArray, List.map_cons, List.map_nil, he, hey, hr]
 exact hk2
end
end Go.Proofs.YthgfpdidilolgaaGreat
namespace Go.Proofs.YthgfpdidilolgaaGreat
set_option maxRecDepth 10000
open Go.RowKit Go.Sort
theorem ret_tct {P : Program} {fn : Func} {p u v : Tmp} {T U : TypeId} (hr : fn.results = #[.tmp u, .cell p T, .tmp v]) {tmps : Array Value} {w : World} {B : Nat} {C : Array Value} (hp : tmps.getD p undef = .pointer (some ⟨B, 0, none⟩)) (hB : Blk B C U w) {d : TypeDesc} (hU : P.underlying T = some d) (hd : d.isRow = true) (hC : (P.info? T).map (·.size) = some C.size) {x y : Value} (hu : tmps.getD u undef = x) (hv : tmps.getD v undef = y) :
  (results fn tmps).run P w = .ok (.tuple #[x, .agg C, y]) w := by
 have := run_loadVar_row (P := P) w B U T C (0, 0) _ hB hU (by cases d <;> first | rfl | exact hd) hC
 rw [Array.getD_eq_getD_getElem?] at hp hu hv
 simp only [results, hr]
 simp [hp, hu, hv, asAddr, this]
theorem Li.rng {α : Type} {f : α → List Value} {k : Nat} (hk : ∀ x, (f x).length = k) {B b o : Nat} {L : List α} {w : World} (h : Li f B (some ⟨b, o, none⟩) L w) (i : Nat) (x : α) (hx : L[i]? = some x) : w.rangeAt b (o + i * k) (f x) := by
 obtain ⟨b', o', e, _, _, hr⟩ := h.at hk i x hx
 injection e with e
 injection e with e1 e2 e3
 subst e1 e2
 exact hr
theorem Lg.mono {α : Type} {f : α → List Value} {k : Nat} {T : TypeId} {B B' : Nat} {a : Option Addr} {cap : Nat} {L : List α} {w : World} (h : Lg f k T B a cap L w) (hB : B' ≤ B) : Lg f k T B' a cap L w := by
 rcases h with h | ⟨g, e, h1, h2⟩
 ·exact .inl h
 ·exact .inr ⟨g, e, Nat.le_trans hB h1, h2⟩
end Go.Proofs.YthgfpdidilolgaaGreat
namespace Go.Proofs.YthgfpdidilolgaaGreat
set_option maxRecDepth 10000
open Go.RowKit Go.Sort
theorem append_ln {α : Type} {f : α → List Value} {k : Nat} {P : Program} (hk : ∀ x, (f x).length = k) {ops : Array Oper} {rest : List Oper} {o : Oper} {a : Act} {Q : Exit → Act → World → Prop} (hgd : o.guard = none) (s y : Operand) {t T : TypeId} (ho : o.op = .call { callee := .builtin .append, args := #[s, y], argTypes := #[t, t] })
  (ht : P.underlying t = some (.slice T)) {i : TypeInfo} {z : Value} {bytes : Nat} (hi : P.info? T = some i) (hz : i.zero = some z) (hs : i.size = k) (hby : i.bytes = bytes) (hzs : z.cells.size = k)
  {B : Nat} {ad : Option Addr} {cap : Nat} {L : List α} {w : World} (h : Lg f k T B ad cap L w) (hB : B ≤ w.heap.size) {n : Nat} (hn : L.length = n) (he : a.eval s = .slice ad n cap) {x : Value} {M : List α} (hM : 0 < M.length) (hx : Src P k t x M.length (flat f M) w) (hey : a.eval y = x) (hb : (n + M.length) * bytes ≤ 140737488355328) (h63 : n + M.length ≤ maxLen)
  (hK : ∀ ad' cap' w', Lg f k T B ad' cap' (L ++ M) w' → Kp (blkOf ad) w w' → (∀ A ∈ blkOf ad', A ∈ blkOf ad ∨ w.heap.size ≤ A) → wpList P ops Q rest (a.put o.dst (.slice ad' (n + M.length) cap')) w') : wpList P ops Q (o :: rest) a w := by
 subst hn
 refine wpList_plain hgd fun K hK' => ?_
 obtain ⟨ad', cap', w', hr, h1, h2, g, e, h3⟩ := run_append_lk (P := P) hk o.type ht hi hz hs hby hzs h hB hM hx hb h63
 have hk2 := hK' _ _ (hK ad' cap' w' h1 h2 (fun A hA => by
  rcases h3 with h3 | h3
  ·rw [h3] at hA; exact .inl hA
  ·rw [e] at hA; simp [blkOf] at hA; subst hA; exact .inr h3))
 unfold Oper.wp execOp
 simp only [ho, resolve, invoke, builtin, Sem.run_bind, Sem.run_pure, Result.andThen_ok, List.map_toArray, List.map_cons, List.map_nil, he, hey, hr]
 exact hk2
theorem Lg.away {α : Type} {f : α → List Value} {k : Nat} {T : TypeId} {A B : Nat} {a : Option Addr} {c : Nat} {L : List α} {w w' : World} (h : Lg f k T B a c L w) (hk : Kp [A] w w') (hA : A ∉ blkOf a) : Lg f k T B a c L w' := by
 rcases h with h | ⟨g, e, hB, h⟩
 ·exact .inl h
 ·exact .inr ⟨g, e, hB, h.kp hk (fun hm => hA (by simp at hm; subst hm; rw [e]; simp [blkOf]))⟩
end Go.Proofs.YthgfpdidilolgaaGreat
namespace Go.Proofs.YthgfpdidilolgaaGreat
set_option maxRecDepth 10000
open Go.RowKit Go.Sort
theorem wp_load_cell {P : Program} {op : Oper} {a : Act} {w : World} {K : Act → World → Prop} {Q : Exit → Act → World → Prop} (ty : TypeId) (x : Operand) (ho : op.op = .load ty x) {B off : Nat} (v : Value) (hx : a.eval x = .pointer (some ⟨B, off, none⟩)) (hc : w.cell? ⟨B, off, none⟩ = some v) {d : TypeDesc} (hu : P.underlying ty = some d) (hd : d.isRow = false)
  (h : K (a.put op.dst v) w) : op.wp P a w K Q := by
 have hagg : (isAgg ty).run P w = .ok false w := by
  unfold isAgg
  rw [Sem.run_bind, run_underlying hu w]
  cases d <;> simp_all
 have hl : (load ⟨B, off, none⟩).run P w = .ok v w := by simp [go_sem, hc]
 unfold Oper.wp execOp
 simp only [ho, hx, Instr.loadAt, Instr.sureAddr, loadVar, Sem.run_bind, Sem.run_pure, Result.andThen_ok, hagg, Bool.false_eq_true, if_false, hl]
 exact h
theorem wp_load_part {P : Program} {op : Oper} {a : Act} {w : World} {K : Act → World → Prop} {Q : Exit → Act → World → Prop} (ty : TypeId) (x : Operand) (ho : op.op = .load ty x) {B o : Nat} {C : Array Value} {T : TypeId} (hB : Blk B C T w) (hx : a.eval x = .pointer (some ⟨B, o, none⟩)) (cs : List Value) (hcs : (C.extract o (o + cs.length)).toList = cs) {d : TypeDesc} (hu : P.underlying ty = some d) (hd : d.isRow = true) (hi : (P.info? ty).map (·.size) = some cs.length)
  (h : K (a.put op.dst (.agg cs.toArray)) w) : op.wp P a w K Q :=
 wp_load_mid ty x ho B o hx cs d (hB.range o cs hcs) hu hd hi h
section
variable {α : Type} {f : α → List Value} {k : Nat}
theorem wp_append_ln {P : Program} (hk : ∀ x, (f x).length = k) {op : Oper} {a : Act} {K : Act → World → Prop} {Q : Exit → Act → World → Prop} (s y : Operand) {t T : TypeId} (ho : op.op = .call { callee := .builtin .append, args := #[s, y], argTypes := #[t, t] })
  (ht : P.underlying t = some (.slice T)) {i : TypeInfo} {z : Value} {bytes : Nat} (hi : P.info? T = some i) (hz : i.zero = some z) (hs : i.size = k) (hby : i.bytes = bytes) (hzs : z.cells.size = k)
  {B : Nat} {ad : Option Addr} {cap : Nat} {L : List α} {w : World} (h : Lg f k T B ad cap L w) (hB : B ≤ w.heap.size) {n : Nat} (hn : L.length = n) (he : a.eval s = .slice ad n cap) {x : Value} {M : List α} (hM : 0 < M.length) (hx : Src P k t x M.length (flat f M) w) (hey : a.eval y = x) (hb : (n + M.length) * bytes ≤ 140737488355328) (h63 : n + M.length ≤ maxLen)
  (hK : ∀ ad' cap' w', Lg f k T B ad' cap' (L ++ M) w' → Kp (blkOf ad) w w' → (∀ A ∈ blkOf ad', A ∈ blkOf ad ∨ w.heap.size ≤ A) → K (a.put op.dst (.slice ad' (n + M.length) cap')) w') : op.wp P a w K Q := by
 subst hn
 obtain ⟨ad', cap', w', hr, h1, h2, g, e, h3⟩ := run_append_lk (P := P) hk op.type ht hi hz hs hby hzs h hB hM hx hb h63
 have hk2 := hK ad' cap' w' h1 h2 (fun A hA => by
  rcases h3 with h3 | h3
  ·rw [h3] at hA; exact .inl hA
  ·rw [e] at hA; simp [blkOf] at hA; subst hA; exact .inr h3)
 unfold Oper.wp execOp
 simp only [ho, resolve, invoke, builtin, Sem.run_bind, Sem.run_pure, Result.andThen_ok, List.map_toArray, List.map_cons, List.map_nil, he, hey, hr]
 exact hk2
end
theorem ret_ctt {P : Program} {fn : Func} {p u v : Tmp} {T U : TypeId} (hr : fn.results = #[.cell p T, .tmp u, .tmp v]) {tmps : Array Value} {w : World} {B : Nat} {C : Array Value} (hp : tmps.getD p undef = .pointer (some ⟨B, 0, none⟩)) (hB : Blk B C U w) {d : TypeDesc} (hU : P.underlying T = some d) (hd : d.isRow = true) (hC : (P.info? T).map (·.size) = some C.size) {x y : Value} (hu : tmps.getD u undef = x) (hv : tmps.getD v undef = y) :
  (results fn tmps).run P w = .ok (.tuple #[.agg C, x, y]) w := by
 have := run_loadVar_row (P := P) w B U T C (0, 0) _ hB hU (by cases d <;> first | rfl | exact hd) hC
 rw [Array.getD_eq_getD_getElem?] at hp hu hv
 simp only [results, hr]
 simp [hp, hu, hv, asAddr, this]
end Go.Proofs.YthgfpdidilolgaaGreat
namespace Go.Proofs.YthgfpdidilolgaaGreat
set_option maxRecDepth 10000
open Go.ChangeShapes Go.WideShapes Go.ChangeAt Go.RowKit Go.WideElems Go.Sort
def row8 (f : Nat → Nat) : List Value := [.int .u32 (f 0 : Int), .int .u32 (f 1 : Int), .int .u32 (f 2 : Int), .int .u32 (f 3 : Int), .int .u32 (f 4 : Int), .int .u32 (f 5 : Int), .int .u32 (f 6 : Int), .int .u32 (f 7 : Int)]
def mbc (f : Nat → Nat) : Array Value := (row8 f).toArray
def noMb : Nat → Nat := fun _ => 0
theorem row8_length (f : Nat → Nat) : (row8 f).length = 8 := rfl
theorem mbc_size (f : Nat → Nat) : (mbc f).size = 8 := rfl
theorem mbc_one (f : Nat → Nat) : (mbc f).all (·.oneCell') = true := by kernel_rfl
theorem mbc_get (f : Nat → Nat) (i : Nat) (h : i < 8) : (mbc f)[i]? = some (.int .u32 (f i : Int)) := by
 obtain rfl | rfl | rfl | rfl | rfl | rfl | rfl | rfl : i = 0 ∨ i = 1 ∨ i = 2 ∨ i = 3 ∨ i = 4 ∨ i = 5 ∨ i = 6 ∨ i = 7 := by omega
 all_goals rfl
theorem mbc_set (f : Nat → Nat) (i v : Nat) (h : i < 8) : (mbc f).setIfInBounds i (.int .u32 (v : Int)) = mbc (fun j => if j = i then v else f j) := by
 obtain rfl | rfl | rfl | rfl | rfl | rfl | rfl | rfl : i = 0 ∨ i = 1 ∨ i = 2 ∨ i = 3 ∨ i = 4 ∨ i = 5 ∨ i = 6 ∨ i = 7 := by omega
 all_goals rfl
theorem mbc_ext {f g : Nat → Nat} (h : ∀ i, i < 8 → f i = g i) : mbc f = mbc g := by
 simp only [mbc, row8, h 0 (by decide), h 1 (by decide), h 2 (by decide), h 3 (by decide), h 4 (by decide), h 5 (by decide), h 6 (by decide), h 7 (by decide)]
theorem sizeMb : (Tryz.prog.info? 55).map (·.size) = some 8 := by kernel_rfl
theorem zeroMb : (Tryz.prog.info? 55).map (fun i => (i.zero, i.size)) = some (some (.agg (mbc noMb)), 8) := by kernel_rfl
theorem indexMb (f : Nat → Nat) (i : Nat) (h : i < 8) (w : World) : (Instr.index 55 (.agg (mbc f)) (.int .i64 (i : Int))).run Tryz.prog w = .ok (.int .u32 (f i : Int)) w := by
 obtain rfl | rfl | rfl | rfl | rfl | rfl | rfl | rfl : i = 0 ∨ i = 1 ∨ i = 2 ∨ i = 3 ∨ i = 4 ∨ i = 5 ∨ i = 6 ∨ i = 7 := by omega
 all_goals kernel_rfl
theorem items_u32 (d : Nat) (xs ys : Array Value) (x y : Nat → Nat) (w : World) : ∀ is : List Nat, (∀ i ∈ is, (Go.part 37 xs (i * 1)).run Tryz.prog w = .ok (.int .u32 (x i : Int)) w ∧ (Go.part 37 ys (i * 1)).run Tryz.prog w = .ok (.int .u32 (y i : Int)) w) → (Op.eqItems (d + 1) 37 1 xs ys is).run Tryz.prog w = .ok (is.all fun i => decide (x i = y i)) w
 | [], _ => rfl
 | i :: is, h => by
  obtain ⟨h1, h2⟩ := h i (by simp)
  have ih := items_u32 d xs ys x y w is (fun j hj => h j (by simp [hj]))
  have he : (Op.equalIn (d + 1) 37 (.int .u32 (x i : Int)) (.int .u32 (y i : Int))).run Tryz.prog w = .ok (decide (x i = y i)) w := by
   have hb : ((x i : Int) == (y i : Int)) = decide (x i = y i) := by rw [Bool.eq_iff_iff, beq_iff_eq, decide_eq_true_iff]; omega
   simp [go_sem, hb]
  simp only [Op.eqItems, Sem.run_bind, h1, h2, he, Result.andThen_ok]
  cases hd : decide (x i = y i)
  ·simp [hd]
  ·simpa [hd] using ih
def mbSame (x y : Nat → Nat) : Bool := (List.range 8).all fun i => decide (x i = y i)
theorem mbSame_iff (x y : Nat → Nat) : mbSame x y = true ↔ ∀ i, i < 8 → x i = y i := by simp [mbSame, List.all_eq_true]
theorem mbSame_self (x : Nat → Nat) : mbSame x x = true := (mbSame_iff x x).2 fun _ _ => rfl
theorem equalRow {T : TypeId} (hu : Tryz.prog.underlying T = some (.array 8 37)) (d : Nat) (x y : Nat → Nat) (w : World) : (Op.equalIn (d + 1 + 1) T (.agg (mbc x)) (.agg (mbc y))).run Tryz.prog w = .ok (mbSame x y) w := by
 obtain ⟨i, hi⟩ : ∃ i, Tryz.prog.info? 37 = some i := Option.isSome_iff_exists.1 (by kernel_rfl)
 have hc : Tryz.prog.cellsOf 37 = 1 := by kernel_rfl
 rw [run_equalIn_array w (d + 1) (mbc x) (mbc y) hu hi, hc, items_u32 d (mbc x) (mbc y) x y w]
 ·rfl
 ·intro i hi
  have hi8 := List.mem_range.1 hi
  obtain rfl | rfl | rfl | rfl | rfl | rfl | rfl | rfl : i = 0 ∨ i = 1 ∨ i = 2 ∨ i = 3 ∨ i = 4 ∨ i = 5 ∨ i = 6 ∨ i = 7 := by omega
  all_goals exact ⟨by kernel_rfl, by kernel_rfl⟩
theorem equalMb (x y : Nat → Nat) (w : World) : (Op.equalIn 10000 55 (.agg (mbc x)) (.agg (mbc y))).run Tryz.prog w = .ok (mbSame x y) w := equalRow Tryz.underlying55 9998 x y w
theorem eqlMb (x y : Nat → Nat) (c : Bool) (h : mbSame x y = c) (w : World) : (binOp .eql 55 (.agg (mbc x)) (.agg (mbc y))).run Tryz.prog w = .ok (.bool c) w := by
 rw [run_eql_struct, equalMb, h]; rfl
theorem neqMb (x y : Nat → Nat) (c : Bool) (h : mbSame x y = c) (w : World) : (binOp .neq 55 (.agg (mbc x)) (.agg (mbc y))).run Tryz.prog w = .ok (.bool (!c)) w := by
 rw [run_neq_struct, equalMb, h]; rfl
def iv (x : Int) : List Value := [.int .i64 x]
theorem iv_length (x : Int) : (iv x).length = 1 := rfl
theorem sizeU32 : (Tryz.prog.info? 37).map (·.size) = some 1 := by kernel_rfl
section
variable {H : Type} {enc : TypeId × Value → H} {W : World} {base : Nat} {spare : Nat → Bool} {held : Bool}
theorem u32_cell {l : List Value} {fuel : Nat} {o : Option (DataW H × List MemPlace)} (ho : o.isSome = true) (h : DataW.trod enc Tryz.prog W base spare held fuel 37 l = o) : ∃ x : Nat, l = [.int .u32 (x : Int)] ∧ x < 4294967296 := by
 obtain ⟨y, rfl⟩ := Option.isSome_iff_exists.1 ho
 obtain ⟨k, e, _, hw⟩ := DataW.trod_int Tryz.underlying37 h
 have hb := bounds_u32 hw
 refine ⟨k.toNat, ?_, by omega⟩
 rw [e]
 congr 2
 omega
theorem more (l : List Value) (a b : Nat) : l.drop a = (l.drop a).take b ++ l.drop (a + b) := by rw [← List.drop_drop, List.take_append_drop]
theorem agg_of {cs : Array Value} {l : List Value} (e : (Value.agg cs).cells.toList = l) : Value.agg cs = .agg l.toArray := by
 have ecs : (Value.agg cs).cells.toList = cs.toList := by simp [Value.cells]
 rw [ecs] at e
 congr 1
 apply Array.toList_inj.1
 rw [e]
end
end Go.Proofs.YthgfpdidilolgaaGreat
namespace Go.Proofs.YthgfpdidilolgaaGreat
set_option maxRecDepth 10000
open Go.ChangeShapes Go.WideShapes Go.ChangeAt Go.RowKit Go.WideElems Go.Sort
def put8 (f : Nat → Nat) (i v : Nat) : Nat → Nat := fun j => if j = i then v else f j
theorem mbc_put (f : Nat → Nat) (i v : Nat) (h : i < 8) : (mbc f).setIfInBounds i (.int .u32 (v : Int)) = mbc (put8 f i v) := mbc_set f i v h
theorem fields_same (d : Nat) (xs : Array Value) (w : World) : ∀ fs : List Field, (∀ f ∈ fs, f.name ≠ "_" ∧ ∃ v, (Go.part f.type xs f.offset).run Tryz.prog w = .ok v w ∧ (Op.equalIn d f.type v v).run Tryz.prog w = .ok true w) → (Op.eqFields d xs xs fs).run Tryz.prog w = .ok true w
 | [], _ => rfl
 | f :: fs, h => by
  obtain ⟨hn, v, h1, h2⟩ := h f (by simp)
  have ih := fields_same d xs w fs (fun g hg => h g (by simp [hg]))
  simp only [Op.eqFields, hn, ne_eq, not_false_eq_true, if_true, Sem.run_bind, h1, h2, Result.andThen_ok]
  simpa using ih
theorem items_same (d : Nat) (T : TypeId) (n : Nat) (xs : Array Value) (w : World) : ∀ is : List Nat, (∀ i ∈ is, ∃ v, (Go.part T xs (i * n)).run Tryz.prog w = .ok v w ∧ (Op.equalIn d T v v).run Tryz.prog w = .ok true w) → (Op.eqItems d T n xs xs is).run Tryz.prog w = .ok true w
 | [], _ => rfl
 | i :: is, h => by
  obtain ⟨v, h1, h2⟩ := h i (by simp)
  have ih := items_same d T n xs w is (fun j hj => h j (by simp [hj]))
  simp only [Op.eqItems, Sem.run_bind, h1, h2, Result.andThen_ok]
  simpa using ih
end Go.Proofs.YthgfpdidilolgaaGreat
namespace Go.Proofs.YthgfpdidilolgaaGreat
set_option maxRecDepth 10000
open Go.ChangeShapes Go.WideShapes Go.ChangeAt Go.RowKit Go.WideElems Go.Sort
theorem sizeCt : (Tryz.prog.info? 60).map (·.size) = some 8 := by kernel_rfl
theorem zeroCt : (Tryz.prog.info? 60).map (fun i => (i.zero, i.size)) = some (some (.agg (mbc noMb)), 8) := by kernel_rfl
theorem equalCt (x y : Nat → Nat) (w : World) : (Op.equalIn 10000 60 (.agg (mbc x)) (.agg (mbc y))).run Tryz.prog w = .ok (mbSame x y) w := equalRow Tryz.underlying60 9998 x y w
theorem eqlCt (x y : Nat → Nat) (c : Bool) (h : mbSame x y = c) (w : World) : (binOp .eql 60 (.agg (mbc x)) (.agg (mbc y))).run Tryz.prog w = .ok (.bool c) w := by
 rw [run_eql_struct, equalCt, h]; rfl
structure Pl where
 r : Nat
 f : Int
 s : Int
section
variable {H : Type} {enc : TypeId × Value → H} {W : World} {base : Nat} {spare : Nat → Bool} {held : Bool}
end
end Go.Proofs.YthgfpdidilolgaaGreat
namespace Go.Proofs.YthgfpdidilolgaaGreat
set_option maxRecDepth 10000
open Go.RowKit Go.Sort
def nv (x : Nat) : List Value := [.int .i64 (x : Int)]
theorem nv_length (x : Nat) : (nv x).length = 1 := rfl
theorem nv_one (x : Nat) : ∀ v ∈ nv x, v.oneCell' = true := by
 intro v hv
 simp [nv] at hv
 subst hv
 rfl
def lstTo (m : Nat → Nat) (j : Nat) : List Nat := (List.range j).filter (fun i => decide (m i ≠ 0))
def lst (m : Nat → Nat) : List Nat := lstTo m 8
theorem lstTo_zero (m : Nat → Nat) : lstTo m 0 = [] := rfl
theorem lstTo_skip (m : Nat → Nat) (j : Nat) (h : m j = 0) : lstTo m (j + 1) = lstTo m j := by simp [lstTo, List.range_succ, h]
theorem lstTo_take (m : Nat → Nat) (j : Nat) (h : m j ≠ 0) : lstTo m (j + 1) = lstTo m j ++ [j] := by simp [lstTo, List.range_succ, h]
theorem lstTo_le (m : Nat → Nat) (j n : Nat) (h : j ≤ n) : ∃ r, lstTo m n = lstTo m j ++ r := by
 induction n with
 | zero =>
      obtain rfl : j = 0 := by omega
      exact ⟨[], by simp⟩
 | succ n ih =>
  by_cases hj : j = n + 1
  ·exact ⟨[], by simp [hj]⟩
  ·obtain ⟨r, hr⟩ := ih (by omega)
   by_cases hm : m n = 0
   ·exact ⟨r, by rw [lstTo_skip m n hm, hr]⟩
   ·exact ⟨r ++ [n], by rw [lstTo_take m n hm, hr, List.append_assoc]⟩
theorem lst_first (m : Nat → Nat) (j : Nat) (h0 : lstTo m j = []) (hj : j < 8) (h : m j ≠ 0) : ∃ r, lst m = j :: r := by
 obtain ⟨r, hr⟩ := lstTo_le m (j + 1) 8 (by omega)
 exact ⟨r, by rw [lst, hr, lstTo_take m j h, h0]; rfl⟩
theorem lstTo_len (m : Nat → Nat) (j : Nat) : (lstTo m j).length ≤ j := by
 have := List.length_filter_le (fun i => decide (m i ≠ 0)) (List.range j)
 rwa [List.length_range] at this
theorem lst_len (m : Nat → Nat) : (lst m).length ≤ 8 := lstTo_len m 8
set_option maxHeartbeats 1000000 in
theorem least_ok (m : Nat → Nat) (w : World) : Calls Tryz.prog 161 #[.agg (mbc m)] w fun e w' => e = .returned (.tuple #[.int .i64 ((lst m).headD 0 : Nat), .bool (!(lst m).isEmpty)]) ∧ Below w.heap.size w w' := by
 have b1 := blk_new w (mbc m) 55
 have hB : Below w.heap.size w (w.alloc (.cells (mbc m) 55)) := below_box w _
 obtain ⟨W, hW⟩ : ∃ W, w.alloc (.cells (mbc m) 55) = W := ⟨_, rfl⟩
 rw [hW] at b1 hB
 obtain ⟨r, hr⟩ : ∃ r, Hid ((lst m).headD 0 = r) := ⟨_, rfl⟩
 obtain ⟨t, ht⟩ : ∃ t, Hid ((!(lst m).isEmpty) = t) := ⟨_, rfl⟩
 rw [hr.out, ht.out]
 go_enter Tryz.func161, Tryz.ntmps161
 go_wp2_with (refine load_blk rfl 55 _ rfl b1 rfl Tryz.underlying55 rfl sizeMb ?_)
 go_loopw [7] (fun iv wr => ∃ j : Nat, j ≤ 8 ∧ iv = .int .i64 j ∧ wr = W ∧ Hid (lstTo m j = [])) (fun iv _ => 8 - (intOf iv).toNat)
 case atStart => exact ⟨0, by omega, rfl, rfl, lstTo_zero m⟩
 case round =>
  obtain ⟨j, hj, rfl, rfl, h0⟩ := hrel
  by_cases hj8 : j < 8
  ·have j0 : (j : Int) < 8 := by omega
   have hix := indexMb m j hj8
   by_cases hm : m j = 0
   ·have HS : Hid (lstTo m (j + 1) = []) := by rw [lstTo_skip m j hm]; exact h0.out
    have hm' : (m j : Int) = 0 := by omega
    clear b1 h0 hm
    go_wp2_with fail
    refine ⟨⟨j + 1, by omega, by go_num, trivial, HS⟩, by simp [intOf]; omega⟩
   ·obtain ⟨q, hq⟩ := lst_first m j h0.out hj8 hm
    have e1 : r = j := by rw [← hr.out, hq]; rfl
    have e2 : t = true := by rw [← ht.out, hq]; rfl
    subst e1 e2
    have hm' : ¬ (m r : Int) = 0 := by omega
    clear b1 h0 hm hr ht hq
    go_wp2_with fail
    go_ret2
    exact ⟨rfl, hB⟩
  ·obtain rfl : j = 8 := by omega
   have hq : lst m = [] := h0.out
   have e1 : r = 0 := by rw [← hr.out, hq]; rfl
   have e2 : t = false := by rw [← ht.out, hq]; rfl
   subst e1 e2
   clear b1 h0 hr ht hq
   go_wp2_with fail
   go_ret2
   exact ⟨rfl, hB⟩
theorem infoInt : ∃ i z, Tryz.prog.info? 3 = some i ∧ i.zero = some z ∧ i.size = 1 ∧ i.bytes = 8 ∧ z.cells.size = 1 := by
 have h : (Tryz.prog.info? 3).map (fun i => (i.zero, i.size, i.bytes)) = some (some (.int .i64 0), 1, 8) := by kernel_rfl
 obtain ⟨i, hi, h0, h1, h2⟩ := info_parts h
 exact ⟨i, _, hi, h0, h1, h2, rfl⟩
theorem bsNat (x : Nat) (w : World) : (Instr.buildSlice 93 1 #[(0, .int .i64 (x : Int))]).run Tryz.prog w = .ok (.slice (some ⟨w.heap.size, 0, none⟩) 1 1) (w.alloc (.cells (nv x).toArray 3)) := by kernel_rfl
theorem box_nat {ops : Array Oper} {rest : List Oper} {op : Oper} {a : Act} {w : World} {Q : Exit → Act → World → Prop} (hgd : op.guard = none) (x : Operand) (ho : op.op = .buildSlice 93 1 #[(0, x)]) (n : Nat) (hx : a.eval x = .int .i64 (n : Int))
  (h : wpList Tryz.prog ops Q rest (a.put op.dst (.slice (some ⟨w.heap.size, 0, none⟩) 1 1)) (w.alloc (.cells (nv n).toArray 3))) : wpList Tryz.prog ops Q (op :: rest) a w :=
 wpList_plain hgd fun _ hK => by
  have hk := hK _ _ h
  unfold Oper.wp execOp
  simp only [ho, List.map_toArray, List.map_cons, List.map_nil, hx, Sem.run_bind, Sem.run_pure, bsNat, Result.andThen_ok]
  exact hk
def Listed (m : Nat → Nat) (B : Nat) (e : Ending) (w' : World) : Prop := ∃ a c, e = .returned (.slice a (lst m).length c) ∧ Li nv B a (lst m) w'
set_option maxHeartbeats 4000000 in
theorem list_ok (m : Nat → Nat) (w : World) : Calls Tryz.prog 200 #[.agg (mbc m)] w fun e w' => Listed m w.heap.size e w' ∧ Below w.heap.size w w' := by
 have b1 := blk_new w (mbc m) 55
 have hB : Below w.heap.size w (w.alloc (.cells (mbc m) 55)) := below_box w _
 have hlt : w.heap.size < (w.alloc (.cells (mbc m) 55)).heap.size := by simp
 obtain ⟨W, hW⟩ : ∃ W, w.alloc (.cells (mbc m) 55) = W := ⟨_, rfl⟩
 rw [hW] at b1 hB hlt
 obtain ⟨iI, zI, hI, hz0, hsz, hby, hzs⟩ := infoInt
 go_enter Tryz.func200, Tryz.ntmps200
 go_wp2_with (refine load_blk rfl 55 _ rfl b1 rfl Tryz.underlying55 rfl sizeMb ?_)
 go_loopw [3, 7] (fun lv iv wr => ∃ (j n cap : Nat) (ad : Option Addr), j ≤ 8 ∧ n ≤ 8 ∧ iv = .int .i64 j ∧ lv = .slice ad n cap ∧ Hid ((lstTo m j).length = n) ∧ Lg nv 1 3 W.heap.size ad cap (lstTo m j) wr ∧ Below w.heap.size w wr ∧ W.heap.size ≤ wr.heap.size) (fun _ iv _ => 8 - (intOf iv).toNat)
 case atStart => exact ⟨0, 0, 0, none, by omega, by omega, rfl, rfl, congrArg List.length (lstTo_zero m), Lg.none _ _ _, hB, Nat.le_refl _⟩
 case round =>
  clear hB
  obtain ⟨j, n, cap, ad, hj, hn, rfl, rfl, h0, hg, hb, hs⟩ := hrel
  by_cases hj8 : j < 8
  ·have j0 : (j : Int) < 8 := by omega
   have hix := indexMb m j hj8
   have hle := lstTo_len m j
   rw [h0.out] at hle
   by_cases hm : m j = 0
   ·have HS : Hid ((lstTo m (j + 1)).length = n) := by rw [lstTo_skip m j hm]; exact h0.out
    have hm' : (m j : Int) = 0 := by omega
    rw [← lstTo_skip m j hm] at hg
    clear b1 h0 hm hle hI
    go_wp2_with fail
    refine ⟨⟨j + 1, n, cap, ad, by omega, by omega, by go_num, rfl, HS, hg, hb, hs⟩, by simp [intOf]; omega⟩
   ·have HS : Hid ((lstTo m (j + 1)).length = n + 1) := by
     show (lstTo m (j + 1)).length = n + 1
     rw [lstTo_take m j hm, List.length_append, h0.out]; rfl
    have hm' : ¬ (m j : Int) = 0 := by omega
    have hst := lstTo_take m j hm
    have hg2 := hg.below (below_box wr (.cells (nv j).toArray 3))
    have hx := (li_box (f := nv) wr j 3 0 (Nat.zero_le _)).src (P := Tryz.prog) nv_length nv_one Tryz.underlying93 1
    have hs2 : W.heap.size ≤ (wr.alloc (.cells (nv j).toArray 3)).heap.size := by simp; omega
    have hb2 : Below w.heap.size w (wr.alloc (.cells (nv j).toArray 3)) := hb.alloc hb.size _
    have hlen := h0.out
    clear b1 h0 hm hg
    go_wp2_with (first | refine box_nat rfl _ rfl j rfl ?_ | (refine append_lg nv_length rfl _ _ rfl Tryz.underlying93 hI hz0 hsz hby hzs hg2 hs2 hlen rfl (M := [j]) (by simp) hx rfl (by simp; omega) (by simp [maxLen]; omega) ?_; intro ad' cap' w5 hg5 hb5; rw [← hst] at hg5; have hb6 : Below w.heap.size w w5 := hb2.trans (hb5.mono (by omega)); have hs6 : W.heap.size ≤ w5.heap.size := Nat.le_trans hs2 hb5.size))
    refine ⟨⟨j + 1, n + 1, cap', ad', by omega, by omega, by go_num, rfl, HS, hg5, hb6, hs6⟩, by simp [intOf]; omega⟩
  ·obtain rfl : j = 8 := by omega
   have hfin : Listed m w.heap.size (.returned (.slice ad n cap)) wr := ⟨ad, cap, by rw [← h0.out]; rfl, hg.li.mono (by omega)⟩
   clear b1 h0 hg hI
   go_wp2_with fail
   go_ret
   exact ⟨hfin, hb⟩
def hasM (m : Nat → Nat) (i : Int) (n : Nat) : Bool := decide (0 ≤ i ∧ i < 8 ∧ n ≠ 0 ∧ m i.toNat = n)
set_option maxHeartbeats 1000000 in
theorem has_ok (m : Nat → Nat) (i : Int) (n : Nat) (w : World) : Calls Tryz.prog 195 #[.agg (mbc m), .int .i64 i, .int .u32 (n : Int)] w fun e w' => e = .returned (.bool (hasM m i n)) ∧ Below w.heap.size w w' := by
 have b1 := blk_new w (mbc m) 55
 have hB : Below w.heap.size w (w.alloc (.cells (mbc m) 55)) := below_box w _
 obtain ⟨W, hW⟩ : ∃ W, w.alloc (.cells (mbc m) 55) = W := ⟨_, rfl⟩
 rw [hW] at b1 hB
 by_cases h0 : 0 ≤ i
 ·by_cases h1 : i < 8
  ·obtain ⟨k, rfl⟩ : ∃ k : Nat, i = (k : Int) := ⟨i.toNat, by omega⟩
   have c0 := b1.cell k _ (mbc_get m k (by omega))
   by_cases h2 : n = 0
   ·subst h2
    have hr : hasM m (k : Int) 0 = false := by simp [hasM]
    rw [hr]
    clear b1
    go_enter Tryz.func195, Tryz.ntmps195
    go_wp2_with fail
    go_ret
    exact ⟨rfl, hB⟩
   ·have h2' : ((n : Int) != 0) = true := by rw [bne_iff_ne]; omega
    by_cases h3 : m k = n
    ·have hr : hasM m (k : Int) n = true := by simp [hasM, h2, h3]; omega
     rw [hr]
     rw [h3] at c0
     clear b1
     go_enter Tryz.func195, Tryz.ntmps195
     go_wp2_with fail
     go_ret
     exact ⟨rfl, hB⟩
    ·have hr : hasM m (k : Int) n = false := by simp [hasM, h3]
     rw [hr]
     have h3' : ((m k : Int) == (n : Int)) = false := by rw [beq_eq_false_iff_ne]; omega
     clear b1
     go_enter Tryz.func195, Tryz.ntmps195
     go_wp2_with fail
     go_ret
     exact ⟨rfl, hB⟩
  ·have hr : hasM m i n = false := by simp [hasM, h1]
   rw [hr]
   clear b1
   go_enter Tryz.func195, Tryz.ntmps195
   go_wp2_with fail
   go_ret
   exact ⟨rfl, hB⟩
 ·have hr : hasM m i n = false := by simp [hasM, h0]
  rw [hr]
  clear b1
  go_enter Tryz.func195, Tryz.ntmps195
  go_wp2_with fail
  go_ret
  exact ⟨rfl, hB⟩
end Go.Proofs.YthgfpdidilolgaaGreat
namespace Go.Proofs.YthgfpdidilolgaaGreat
set_option maxRecDepth 10000
open Go.RowKit Go.Sort
def ListedG (m : Nat → Nat) (B : Nat) (e : Ending) (w' : World) : Prop := ∃ a c, e = .returned (.slice a (lst m).length c) ∧ Lg nv 1 3 B a c (lst m) w'
set_option maxHeartbeats 4000000 in
theorem list_lg (m : Nat → Nat) (w : World) : Calls Tryz.prog 200 #[.agg (mbc m)] w fun e w' => ListedG m w.heap.size e w' ∧ Below w.heap.size w w' := by
 have b1 := blk_new w (mbc m) 55
 have hB : Below w.heap.size w (w.alloc (.cells (mbc m) 55)) := below_box w _
 have hlt : w.heap.size < (w.alloc (.cells (mbc m) 55)).heap.size := by simp
 obtain ⟨W, hW⟩ : ∃ W, w.alloc (.cells (mbc m) 55) = W := ⟨_, rfl⟩
 rw [hW] at b1 hB hlt
 obtain ⟨iI, zI, hI, hz0, hsz, hby, hzs⟩ := infoInt
 go_enter Tryz.func200, Tryz.ntmps200
 go_wp2_with (refine load_blk rfl 55 _ rfl b1 rfl Tryz.underlying55 rfl sizeMb ?_)
 go_loopw [3, 7] (fun lv iv wr => ∃ (j n cap : Nat) (ad : Option Addr), j ≤ 8 ∧ n ≤ 8 ∧ iv = .int .i64 j ∧ lv = .slice ad n cap ∧ Hid ((lstTo m j).length = n) ∧ Lg nv 1 3 W.heap.size ad cap (lstTo m j) wr ∧ Below w.heap.size w wr ∧ W.heap.size ≤ wr.heap.size) (fun _ iv _ => 8 - (intOf iv).toNat)
 case atStart => exact ⟨0, 0, 0, none, by omega, by omega, rfl, rfl, congrArg List.length (lstTo_zero m), Lg.none _ _ _, hB, Nat.le_refl _⟩
 case round =>
  clear hB
  obtain ⟨j, n, cap, ad, hj, hn, rfl, rfl, h0, hg, hb, hs⟩ := hrel
  by_cases hj8 : j < 8
  ·have j0 : (j : Int) < 8 := by omega
   have hix := indexMb m j hj8
   have hle := lstTo_len m j
   rw [h0.out] at hle
   by_cases hm : m j = 0
   ·have HS : Hid ((lstTo m (j + 1)).length = n) := by rw [lstTo_skip m j hm]; exact h0.out
    have hm' : (m j : Int) = 0 := by omega
    rw [← lstTo_skip m j hm] at hg
    clear b1 h0 hm hle hI
    go_wp2_with fail
    refine ⟨⟨j + 1, n, cap, ad, by omega, by omega, by go_num, rfl, HS, hg, hb, hs⟩, by simp [intOf]; omega⟩
   ·have HS : Hid ((lstTo m (j + 1)).length = n + 1) := by
     show (lstTo m (j + 1)).length = n + 1
     rw [lstTo_take m j hm, List.length_append, h0.out]; rfl
    have hm' : ¬ (m j : Int) = 0 := by omega
    have hst := lstTo_take m j hm
    have hg2 := hg.below (below_box wr (.cells (nv j).toArray 3))
    have hx := (li_box (f := nv) wr j 3 0 (Nat.zero_le _)).src (P := Tryz.prog) nv_length nv_one Tryz.underlying93 1
    have hs2 : W.heap.size ≤ (wr.alloc (.cells (nv j).toArray 3)).heap.size := by simp; omega
    have hb2 : Below w.heap.size w (wr.alloc (.cells (nv j).toArray 3)) := hb.alloc hb.size _
    have hlen := h0.out
    clear b1 h0 hm hg
    go_wp2_with (first | refine box_nat rfl _ rfl j rfl ?_ | (refine append_lg nv_length rfl _ _ rfl Tryz.underlying93 hI hz0 hsz hby hzs hg2 hs2 hlen rfl (M := [j]) (by simp) hx rfl (by simp; omega) (by simp [maxLen]; omega) ?_; intro ad' cap' w5 hg5 hb5; rw [← hst] at hg5; have hb6 : Below w.heap.size w w5 := hb2.trans (hb5.mono (by omega)); have hs6 : W.heap.size ≤ w5.heap.size := Nat.le_trans hs2 hb5.size))
    refine ⟨⟨j + 1, n + 1, cap', ad', by omega, by omega, by go_num, rfl, HS, hg5, hb6, hs6⟩, by simp [intOf]; omega⟩
  ·obtain rfl : j = 8 := by omega
   have hfin : ListedG m w.heap.size (.returned (.slice ad n cap)) wr := ⟨ad, cap, by rw [← h0.out]; rfl, hg.mono (by omega)⟩
   clear b1 h0 hg hI
   go_wp2_with fail
   go_ret
   exact ⟨hfin, hb⟩
end Go.Proofs.YthgfpdidilolgaaGreat
namespace Go.Proofs.YthgfpdidilolgaaGreat
set_option maxRecDepth 10000
open Go.RowKit Go.Sort
theorem mem_lst (m : Nat → Nat) (d : Nat) : d ∈ lst m ↔ d < 8 ∧ m d ≠ 0 := by simp [lst, lstTo]
theorem at_lst (m : Nat → Nat) (j d : Nat) (h : (lst m)[j]? = some d) : d < 8 ∧ m d ≠ 0 := (mem_lst m d).1 (List.mem_of_getElem? h)
def isM (m : Nat → Nat) (i : Int) : Bool := decide (0 ≤ i ∧ i < 8 ∧ m i.toNat ≠ 0)
theorem isM_nat (m : Nat → Nat) (d : Nat) : isM m (d : Int) = true ↔ d ∈ lst m := by
 unfold isM
 rw [decide_eq_true_eq, mem_lst, Int.toNat_natCast]
 constructor
 ·rintro ⟨_, h1, h2⟩; exact ⟨by omega, h2⟩
 ·rintro ⟨h1, h2⟩; exact ⟨by omega, by omega, h2⟩
theorem isM_iff (m : Nat → Nat) (i : Int) : isM m i = true ↔ ∃ d : Nat, i = (d : Int) ∧ d ∈ lst m := by
 constructor
 ·intro h
  have h' := h
  unfold isM at h'
  rw [decide_eq_true_eq] at h'
  obtain ⟨d, rfl⟩ : ∃ d : Nat, i = (d : Int) := ⟨i.toNat, by omega⟩
  exact ⟨d, rfl, (isM_nat m d).1 h⟩
 ·rintro ⟨d, rfl, h⟩
  exact (isM_nat m d).2 h
def hasL (L : List Nat) (v : Int) : Bool := L.any fun d => decide ((d : Int) = v)
theorem hasL_isM (m : Nat → Nat) (v : Int) : hasL (lst m) v = isM m v := by
 rw [Bool.eq_iff_iff, isM_iff, hasL, List.any_eq_true]
 constructor
 ·rintro ⟨d, h1, h2⟩
  exact ⟨d, (of_decide_eq_true h2).symm, h1⟩
 ·rintro ⟨d, rfl, h⟩
  exact ⟨d, h, by simp⟩
def Found (L : List Nat) (v : Int) (e : Ending) : Prop := ∃ k : Int, e = .returned (.int .i64 k) ∧ decide (0 ≤ k) = hasL L v
set_option maxHeartbeats 1000000 in
theorem index_ok (L : List Nat) (la : Option Addr) (lc : Nat) (v : Int) (lm : L.length ≤ 9223372036854775807) (w : World) (hS : Li nv 0 la L w) : Calls Tryz.prog 219 #[.slice la L.length lc, .int .i64 v] w fun e w' => Found L v e ∧ w' = w := by
 obtain ⟨n, hn⟩ : ∃ n, L.length = n := ⟨_, rfl⟩
 rw [hn] at lm ⊢
 have HN : Hid (L.length = n) := hn
 clear hn
 go_enter Tryz.func219, Tryz.ntmps219
 go_wp2_with fail
 go_loopw [8] (fun iv wr => ∃ j : Nat, j ≤ n ∧ iv = .int .i64 j ∧ wr = w ∧ Hid (∀ d ∈ L.take j, (d : Int) ≠ v)) (fun iv _ => n - (intOf iv).toNat)
 case atStart => exact ⟨0, by omega, rfl, rfl, fun d h => by simp at h⟩
 case round =>
  obtain ⟨j, hj, rfl, rfl, h0⟩ := hrel
  by_cases hjn : j < n
  ·have j0 : (j : Int) < (n : Int) := by omega
   have j1 : (0 : Int) ≤ (j : Int) := by omega
   obtain ⟨d, hd⟩ : ∃ d, L[j]? = some d := ⟨_, List.getElem?_eq_getElem (by rw [HN.out]; exact hjn)⟩
   obtain ⟨b, o, rfl, _, hbl, hr⟩ := hS.at nv_length j d hd
   have c0 : wr.cell? ⟨b, o + j, none⟩ = some (.int .i64 (d : Int)) := by have := hr 0 _ rfl; simpa using this
   by_cases hv : (d : Int) = v
   ·have HF : Found L v (.returned (.int .i64 (j : Int))) := ⟨j, rfl, by
     rw [decide_eq_true j1, eq_comm, hasL, List.any_eq_true]
     exact ⟨d, List.mem_of_getElem? hd, by simp [hv]⟩⟩
    have hv' : (v == (d : Int)) = true := by simp [hv]
    clear hv hr hd h0 hS
    go_wp2_with fail
    go_ret
    exact ⟨HF, rfl⟩
   ·have HS : Hid (∀ d ∈ L.take (j + 1), (d : Int) ≠ v) := by
     intro e he
     rw [List.take_add_one, hd] at he
     rcases List.mem_append.1 he with he | he
     ·exact h0.out e he
     ·simp at he
      rw [he]
      exact hv
    have hv' : (v == (d : Int)) = false := by rw [beq_eq_false_iff_ne]; exact fun h => hv h.symm
    clear hv hr hd h0
    go_wp2_with fail
    exact ⟨⟨j + 1, by omega, by go_num, trivial, HS⟩, by simp [intOf]; omega⟩
  ·obtain rfl : j = n := by omega
   have HF : Found L v (.returned (.int .i64 (-1))) := ⟨-1, rfl, by
    rw [decide_eq_false (by omega), eq_comm, hasL, List.any_eq_false]
    intro d hd
    have := h0.out d (by rw [List.take_of_length_le (by rw [HN.out]; omega)]; exact hd)
    simpa using this⟩
   clear h0 HN hS
   go_wp2_with fail
   go_ret
   exact ⟨HF, rfl⟩
theorem contains_ok (L : List Nat) (la : Option Addr) (lc : Nat) (v : Int) (lm : L.length ≤ 9223372036854775807) (w : World) (hS : Li nv 0 la L w) : Calls Tryz.prog 206 #[.slice la L.length lc, .int .i64 v] w fun e w' => e = .returned (.bool (hasL L v)) ∧ w' = w := by
 go_enter Tryz.func206, Tryz.ntmps206
 go_wp2_with fail
 refine (index_ok L la lc v lm w hS).mono ?_
 rintro r w1 ⟨⟨k, rfl, hk⟩, rfl⟩
 obtain ⟨t, ht⟩ : ∃ t, hasL L v = t := ⟨_, rfl⟩
 rw [ht] at hk
 have HT : Hid (hasL L v = t) := ht
 clear ht hS
 go_wp2_with fail
 go_ret
 exact ⟨by rw [HT.out]; rfl, rfl⟩
end Go.Proofs.YthgfpdidilolgaaGreat
namespace Go.Proofs.YthgfpdidilolgaaGreat
set_option maxRecDepth 10000
open Go.RowKit Go.Sort
end Go.Proofs.YthgfpdidilolgaaGreat
namespace Go.Proofs.YthgfpdidilolgaaGreat
set_option maxRecDepth 10000
open Go.ChangeShapes Go.WideShapes Go.ChangeAt Go.RowKit Go.WideElems Go.Sort
structure En where
 k : Int
 sv : Int
 g : Int
 se : Nat
 n : Nat
 t : ByteArray
def En.vals (e : En) : List Value := [.int .i64 e.k, .int .i64 e.sv, .int .i64 e.g, .int .u64 (e.se : Int), .int .u64 (e.n : Int), .string e.t]
def En.zero : En := ⟨0, 0, 0, 0, 0, ⟨#[]⟩⟩
def En.arr (e : En) : Array Value := e.vals.toArray
theorem En.vals_one (e : En) : ∀ v ∈ e.vals, v.oneCell' = true := by
 intro v hv
 simp [En.vals] at hv
 rcases hv with rfl | rfl | rfl | rfl | rfl | rfl <;> rfl
def En.same (a b : En) : Bool := decide (a.k = b.k ∧ a.sv = b.sv ∧ a.g = b.g ∧ a.se = b.se ∧ a.n = b.n ∧ a.t = b.t)
theorem bytesNe {a b : ByteArray} (h : ¬ a = b) : ¬ a.toList = b.toList := by
 intro e
 rw [ByteArray.toList_eq, ByteArray.toList_eq] at e
 exact h (ByteArray.ext (Array.ext' e))
theorem equalEn (a b : En) (w : World) : (Op.equal 40 (.agg a.arr) (.agg b.arr)).run Tryz.prog w = .ok (En.same a b) w := by
 obtain ⟨k, sv, g, se, n, t⟩ := a
 obtain ⟨k', sv', g', se', n', t'⟩ := b
 by_cases h1 : k = k'
 ·by_cases h2 : sv = sv'
  ·by_cases h3 : g = g'
   ·by_cases h4 : se = se'
    ·by_cases h5 : n = n'
     ·by_cases h6 : t = t'
      ·simp [go_sem, Op.equal, Op.maxDepth, En.arr, En.vals, En.same, *]
      ·have h7 := bytesNe h6
       simp [go_sem, Op.equal, Op.maxDepth, En.arr, En.vals, En.same, *]
     ·simp [go_sem, Op.equal, Op.maxDepth, En.arr, En.vals, En.same, Int.ofNat_inj, *]
    ·simp [go_sem, Op.equal, Op.maxDepth, En.arr, En.vals, En.same, Int.ofNat_inj, *]
   ·simp [go_sem, Op.equal, Op.maxDepth, En.arr, En.vals, En.same, *]
  ·simp [go_sem, Op.equal, Op.maxDepth, En.arr, En.vals, En.same, *]
 ·simp [go_sem, Op.equal, Op.maxDepth, En.arr, En.vals, En.same, *]
section
variable {H : Type} {enc : TypeId × Value → H} {W : World} {base : Nat} {spare : Nat → Bool} {held : Bool}
theorem u64nat {n : Int} (h : (Lit.int .u64 n).wf = true) : ∃ x : Nat, n = (x : Int) ∧ x < 18446744073709551616 := by
 have hb := bounds_u64 h
 exact ⟨n.toNat, by omega, by omega⟩
theorem cellsEn {cs : List Value} {fuel : Nat} {x : DataW H × List MemPlace} (h : DataW.trod enc Tryz.prog W base spare held fuel 40 cs = some x) : ∃ e : En, cs = e.vals := by
 have hC : Tryz.prog.cellsOf 40 = 6 := by kernel_rfl
 have h3 : Tryz.prog.cellsOf 3 = 1 := by kernel_rfl
 have h22 : Tryz.prog.cellsOf 38 = 1 := by kernel_rfl
 have h9 : Tryz.prog.cellsOf 9 = 1 := by kernel_rfl
 obtain ⟨xs, m, _, _, hlen, hl, hg⟩ := DataW.trod_struct Tryz.underlying40 h
 rw [hC] at hlen
 match cs, hlen with
 | [c0, c1, c2, c3, c4, c5], _ =>
  match xs, hl with
  | [y0, y1, y2, y3, y4, y5], _ =>
   have g0 := hg 0 _ rfl
   have g1 := hg 1 _ rfl
   have g2 := hg 2 _ rfl
   have g3 := hg 3 _ rfl
   have g4 := hg 4 _ rfl
   have g5 := hg 5 _ rfl
   simp [h3, h22, h9] at g0 g1 g2 g3 g4 g5
   obtain ⟨k, e0, _, _⟩ := DataW.trod_int Tryz.underlying3 g0
   obtain ⟨sv, e1, _, _⟩ := DataW.trod_int Tryz.underlying3 g1
   obtain ⟨g, e2, _, _⟩ := DataW.trod_int Tryz.underlying3 g2
   obtain ⟨se, e3, _, w3⟩ := DataW.trod_int Tryz.underlying38 g3
   obtain ⟨n, e4, _, w4⟩ := DataW.trod_int Tryz.underlying38 g4
   obtain ⟨t, e5, _, _⟩ := DataW.trod_string Tryz.underlying9 g5
   obtain ⟨a, rfl, _⟩ := u64nat w3
   obtain ⟨b, rfl, _⟩ := u64nat w4
   simp at e0 e1 e2 e3 e4 e5
   subst e0 e1 e2 e3 e4 e5
   exact ⟨⟨k, sv, g, a, b, t⟩, rfl⟩
end
end Go.Proofs.YthgfpdidilolgaaGreat
namespace Go.Proofs.YthgfpdidilolgaaGreat
set_option maxRecDepth 10000
open Go.ChangeShapes Go.WideShapes Go.ChangeAt Go.RowKit Go.WideElems Go.Sort
def frv (f : Nat → En) : List Value := (f 0).vals ++ ((f 1).vals ++ ((f 2).vals ++ ((f 3).vals ++ ((f 4).vals ++ (f 5).vals))))
def frc (f : Nat → En) : Array Value := (frv f).toArray
def noFr : Nat → En := fun _ => En.zero
theorem frv_length (f : Nat → En) : (frv f).length = 36 := rfl
theorem frv_one (f : Nat → En) : ∀ v ∈ frv f, v.oneCell' = true := by
 intro v hv
 simp only [frv, List.mem_append] at hv
 rcases hv with h | h | h | h | h | h <;> exact En.vals_one _ v h
theorem frc_one (f : Nat → En) : (frc f).all (·.oneCell') = true := all_oneCell_toArray (frv_one f)
theorem sizeFr : (Tryz.prog.info? 43).map (·.size) = some 36 := by kernel_rfl
theorem zeroFr : (Tryz.prog.info? 43).map (fun i => (i.zero, i.size)) = some (some (.agg (frc noFr)), 36) := by kernel_rfl
theorem builtFr : Tryz.prog.built 43 [] = some (frc noFr) := by kernel_rfl
structure Kt where
 fr : Int
 rd : Nat
 f : Nat → En
 lt : rd < 4294967296
def Kt.vals (x : Kt) : List Value := .int .i64 x.fr :: .int .u32 (x.rd : Int) :: frv x.f
def Kt.arr (x : Kt) : Array Value := x.vals.toArray
def Kt.zero : Kt := ⟨0, 0, noFr, by decide⟩
theorem Kt.vals_length (x : Kt) : x.vals.length = 38 := rfl
theorem Kt.arr_size (x : Kt) : x.arr.size = 38 := rfl
theorem Kt.vals_one (x : Kt) : ∀ v ∈ x.vals, v.oneCell' = true := by
 intro v hv
 rcases List.mem_cons.1 hv with rfl | hv
 ·rfl
 ·rcases List.mem_cons.1 hv with rfl | hv
  ·rfl
  ·exact frv_one _ v hv
theorem Kt.arr_one (x : Kt) : x.arr.all (·.oneCell') = true := all_oneCell_toArray x.vals_one
theorem sizeKt : (Tryz.prog.info? 53).map (·.size) = some 38 := by kernel_rfl
theorem zeroKt : (Tryz.prog.info? 53).map (fun i => (i.zero, i.size)) = some (some (.agg Kt.zero.arr), 38) := by kernel_rfl
theorem builtKt : Tryz.prog.built 53 [] = some Kt.zero.arr := by kernel_rfl
theorem infoKt : ∃ i z, Tryz.prog.info? 53 = some i ∧ i.zero = some z ∧ i.size = 38 ∧ i.bytes = 352 ∧ z.cells.size = 38 := by
 have h : (Tryz.prog.info? 53).map (fun i => (i.zero, i.size, i.bytes)) = some (some (.agg Kt.zero.arr), 38, 352) := by kernel_rfl
 obtain ⟨i, hi, h0, h1, h2⟩ := info_parts h
 exact ⟨i, _, hi, h0, h1, h2, rfl⟩
theorem Kt.get0 (x : Kt) : x.arr[0]? = some (.int .i64 x.fr) := rfl
theorem Kt.get1 (x : Kt) : x.arr[1]? = some (.int .u32 (x.rd : Int)) := rfl
theorem Kt.frame (x : Kt) : (x.arr.extract 2 (2 + (frv x.f).length)).toList = frv x.f := by kernel_rfl
theorem bsKt (x : Kt) (w : World) : (Instr.buildSlice 73 1 #[(0, .agg x.arr)]).run Tryz.prog w = .ok (.slice (some ⟨w.heap.size, 0, none⟩) 1 1) (w.alloc (.cells x.arr 53)) := by kernel_rfl
theorem bsNo (w : World) : (Instr.buildSlice 73 0 #[]).run Tryz.prog w = .ok (.slice (some ⟨w.heap.size, 0, none⟩) 0 0) (w.alloc (.cells #[] 53)) := by kernel_rfl
theorem box_kt {ops : Array Oper} {rest : List Oper} {op : Oper} {a : Act} {w : World} {Q : Exit → Act → World → Prop} (hgd : op.guard = none) (y : Operand) (ho : op.op = .buildSlice 73 1 #[(0, y)]) (x : Kt) (hx : a.eval y = .agg x.arr)
  (h : wpList Tryz.prog ops Q rest (a.put op.dst (.slice (some ⟨w.heap.size, 0, none⟩) 1 1)) (w.alloc (.cells x.arr 53))) : wpList Tryz.prog ops Q (op :: rest) a w :=
 wpList_plain hgd fun _ hK => by
  have hk := hK _ _ h
  unfold Oper.wp execOp
  simp only [ho, List.map_toArray, List.map_cons, List.map_nil, hx, Sem.run_bind, Sem.run_pure, bsKt, Result.andThen_ok]
  exact hk
theorem box_no {ops : Array Oper} {rest : List Oper} {op : Oper} {a : Act} {w : World} {Q : Exit → Act → World → Prop} (hgd : op.guard = none) (ho : op.op = .buildSlice 73 0 #[])
  (h : wpList Tryz.prog ops Q rest (a.put op.dst (.slice (some ⟨w.heap.size, 0, none⟩) 0 0)) (w.alloc (.cells #[] 53))) : wpList Tryz.prog ops Q (op :: rest) a w :=
 wpList_plain hgd fun _ hK => by
  have hk := hK _ _ h
  unfold Oper.wp execOp
  simp only [ho, List.map_toArray, List.map_nil, Sem.run_bind, Sem.run_pure, bsNo, Result.andThen_ok]
  exact hk
theorem sameEn (e : En) (d : Nat) (w : World) : (Op.equalIn (d + 1 + 1) 40 (.agg e.arr) (.agg e.arr)).run Tryz.prog w = .ok true w := by
 have hu : Tryz.prog.underlying 40 = some (.struct (Tryz.prog.fieldsOf 40)) := by kernel_rfl
 rw [run_equalIn_struct w (d + 1) 40 e.arr e.arr hu (by kernel_rfl)]
 apply fields_same
 have hf : (Tryz.prog.fieldsOf 40).toList.map (fun f => (f.name, f.type, f.offset)) = [("Kind", 3, 0), ("Service", 3, 1), ("Group", 3, 2), ("Session", 38, 3), ("Number", 38, 4), ("Text", 9, 5)] := by kernel_rfl
 intro f hmem
 have hm : (f.name, f.type, f.offset) ∈ (Tryz.prog.fieldsOf 40).toList.map (fun f => (f.name, f.type, f.offset)) := List.mem_map_of_mem (f := fun f : Field => (f.name, f.type, f.offset)) hmem
 rw [hf] at hm
 generalize f.name = fn at hm ⊢
 generalize f.type = ft at hm ⊢
 generalize f.offset = fo at hm ⊢
 simp only [List.mem_cons, List.not_mem_nil, or_false, Prod.mk.injEq] at hm
 rcases hm with ⟨rfl, rfl, rfl⟩ | ⟨rfl, rfl, rfl⟩ | ⟨rfl, rfl, rfl⟩ | ⟨rfl, rfl, rfl⟩ | ⟨rfl, rfl, rfl⟩ | ⟨rfl, rfl, rfl⟩
 ·exact ⟨by decide, .int .i64 e.k, by kernel_rfl, by simp [go_sem]⟩
 ·exact ⟨by decide, .int .i64 e.sv, by kernel_rfl, by simp [go_sem]⟩
 ·exact ⟨by decide, .int .i64 e.g, by kernel_rfl, by simp [go_sem]⟩
 ·exact ⟨by decide, .int .u64 (e.se : Int), by kernel_rfl, by simp [go_sem]⟩
 ·exact ⟨by decide, .int .u64 (e.n : Int), by kernel_rfl, by simp [go_sem]⟩
 ·exact ⟨by decide, .string e.t, by kernel_rfl, by simp [go_sem]⟩
def lnv (a b : En) : Array Value := (a.vals ++ b.vals).toArray
theorem sameLn (a b : En) (d : Nat) (w : World) : (Op.equalIn (d + 1 + 1 + 1) 41 (.agg (lnv a b)) (.agg (lnv a b))).run Tryz.prog w = .ok true w := by
 obtain ⟨i, hi⟩ : ∃ i, Tryz.prog.info? 40 = some i := Option.isSome_iff_exists.1 (by kernel_rfl)
 have hc : Tryz.prog.cellsOf 40 = 6 := by kernel_rfl
 rw [run_equalIn_array w (d + 1 + 1) (lnv a b) (lnv a b) Tryz.underlying41 hi, hc]
 apply items_same
 intro j hj
 have h2 := List.mem_range.1 hj
 obtain rfl | rfl : j = 0 ∨ j = 1 := by omega
 ·exact ⟨.agg a.arr, by kernel_rfl, sameEn a d w⟩
 ·exact ⟨.agg b.arr, by kernel_rfl, sameEn b d w⟩
theorem sameFr (f : Nat → En) (d : Nat) (w : World) : (Op.equalIn (d + 1 + 1 + 1 + 1) 43 (.agg (frc f)) (.agg (frc f))).run Tryz.prog w = .ok true w := by
 obtain ⟨i, hi⟩ : ∃ i, Tryz.prog.info? 41 = some i := Option.isSome_iff_exists.1 (by kernel_rfl)
 have hc : Tryz.prog.cellsOf 41 = 12 := by kernel_rfl
 rw [run_equalIn_array w (d + 1 + 1 + 1) (frc f) (frc f) Tryz.underlying43 hi, hc]
 apply items_same
 intro j hj
 have h2 := List.mem_range.1 hj
 obtain rfl | rfl | rfl : j = 0 ∨ j = 1 ∨ j = 2 := by omega
 ·exact ⟨.agg (lnv (f 0) (f 1)), by kernel_rfl, sameLn _ _ d w⟩
 ·exact ⟨.agg (lnv (f 2) (f 3)), by kernel_rfl, sameLn _ _ d w⟩
 ·exact ⟨.agg (lnv (f 4) (f 5)), by kernel_rfl, sameLn _ _ d w⟩
theorem sameKt (x : Kt) (w : World) : (Op.equalIn 10000 53 (.agg x.arr) (.agg x.arr)).run Tryz.prog w = .ok true w := by
 have hu : Tryz.prog.underlying 53 = some (.struct (Tryz.prog.fieldsOf 53)) := by kernel_rfl
 rw [show (10000 : Nat) = 9999 + 1 from rfl, run_equalIn_struct w 9999 53 x.arr x.arr hu (by kernel_rfl)]
 apply fields_same
 have hf : (Tryz.prog.fieldsOf 53).toList.map (fun f => (f.name, f.type, f.offset)) = [("From", 3, 0), ("Round", 37, 1), ("Frame", 43, 2)] := by kernel_rfl
 intro f hmem
 have hm : (f.name, f.type, f.offset) ∈ (Tryz.prog.fieldsOf 53).toList.map (fun f => (f.name, f.type, f.offset)) := List.mem_map_of_mem (f := fun f : Field => (f.name, f.type, f.offset)) hmem
 rw [hf] at hm
 generalize f.name = fn at hm ⊢
 generalize f.type = ft at hm ⊢
 generalize f.offset = fo at hm ⊢
 simp only [List.mem_cons, List.not_mem_nil, or_false, Prod.mk.injEq] at hm
 rcases hm with ⟨rfl, rfl, rfl⟩ | ⟨rfl, rfl, rfl⟩ | ⟨rfl, rfl, rfl⟩
 ·exact ⟨by decide, .int .i64 x.fr, by kernel_rfl, by simp [go_sem]⟩
 ·exact ⟨by decide, .int .u32 (x.rd : Int), by kernel_rfl, by simp [go_sem]⟩
 ·exact ⟨by decide, .agg (frc x.f), by kernel_rfl, sameFr x.f 9995 w⟩
theorem neqKt (x : Kt) (w : World) : (binOp .neq 53 (.agg x.arr) (.agg x.arr)).run Tryz.prog w = .ok (.bool false) w := by
 rw [run_neq_struct, sameKt]; rfl
section
variable {H : Type} {enc : TypeId × Value → H} {W : World} {base : Nat} {spare : Nat → Bool} {held : Bool}
theorem en_cells {l : List Value} {fuel : Nat} {o : Option (DataW H × List MemPlace)} (ho : o.isSome = true) (h : DataW.trod enc Tryz.prog W base spare held fuel 40 l = o) : ∃ e : En, l = e.vals := by
 obtain ⟨y, rfl⟩ := Option.isSome_iff_exists.1 ho
 exact cellsEn h
theorem ln_cells {l : List Value} {fuel : Nat} {o : Option (DataW H × List MemPlace)} (ho : o.isSome = true) (h : DataW.trod enc Tryz.prog W base spare held fuel 41 l = o) : ∃ a b : En, l = a.vals ++ b.vals := by
 obtain ⟨y, rfl⟩ := Option.isSome_iff_exists.1 ho
 have h6 : Tryz.prog.cellsOf 40 = 6 := by kernel_rfl
 have hC : Tryz.prog.cellsOf 41 = 12 := by kernel_rfl
 obtain ⟨xs, m, _, _, hlen, hl, hg⟩ := DataW.trod_array Tryz.underlying41 h
 rw [hC] at hlen
 have hl2 : xs.length = 2 := hl
 obtain ⟨a, e0⟩ := en_cells (by rw [List.getElem?_eq_getElem (by omega)]; rfl) (hg 0 (by omega))
 obtain ⟨b, e1⟩ := en_cells (by rw [List.getElem?_eq_getElem (by omega)]; rfl) (hg 1 (by omega))
 rw [h6] at e0 e1
 have z : l.drop 12 = [] := List.drop_eq_nil_of_le (by omega)
 have e : l = (l.drop (0 * 6)).take 6 ++ (l.drop (1 * 6)).take 6 := by
  conv => lhs; rw [← List.drop_zero (l := l), more l 0 6, more l 6 6, z, List.append_nil]
 refine ⟨a, b, ?_⟩
 rw [e, e0, e1]
theorem fr_cells {l : List Value} {fuel : Nat} {o : Option (DataW H × List MemPlace)} (ho : o.isSome = true) (h : DataW.trod enc Tryz.prog W base spare held fuel 43 l = o) : ∃ f : Nat → En, l = frv f := by
 obtain ⟨y, rfl⟩ := Option.isSome_iff_exists.1 ho
 have h6 : Tryz.prog.cellsOf 41 = 12 := by kernel_rfl
 have hC : Tryz.prog.cellsOf 43 = 36 := by kernel_rfl
 obtain ⟨xs, m, _, _, hlen, hl, hg⟩ := DataW.trod_array Tryz.underlying43 h
 rw [hC] at hlen
 have hl2 : xs.length = 3 := hl
 obtain ⟨a0, a1, e0⟩ := ln_cells (by rw [List.getElem?_eq_getElem (by omega)]; rfl) (hg 0 (by omega))
 obtain ⟨a2, a3, e1⟩ := ln_cells (by rw [List.getElem?_eq_getElem (by omega)]; rfl) (hg 1 (by omega))
 obtain ⟨a4, a5, e2⟩ := ln_cells (by rw [List.getElem?_eq_getElem (by omega)]; rfl) (hg 2 (by omega))
 rw [h6] at e0 e1 e2
 have z : l.drop 36 = [] := List.drop_eq_nil_of_le (by omega)
 have e : l = (l.drop (0 * 12)).take 12 ++ ((l.drop (1 * 12)).take 12 ++ (l.drop (2 * 12)).take 12) := by
  conv => lhs; rw [← List.drop_zero (l := l), more l 0 12, more l 12 12, more l 24 12, z, List.append_nil]
 refine ⟨fun i => match i with | 0 => a0 | 1 => a1 | 2 => a2 | 3 => a3 | 4 => a4 | _ => a5, ?_⟩
 rw [e, e0, e1, e2]
 simp only [frv, List.append_assoc]
end
end Go.Proofs.YthgfpdidilolgaaGreat
namespace Go.Proofs.YthgfpdidilolgaaGreat
set_option maxRecDepth 10000
open Go.RowKit Go.Sort
def oldB (x k : Kt) : Bool := decide (k.fr = x.fr ∧ k.rd + 3 ≤ x.rd)
def isB (i : Int) (r : Nat) (k : Kt) : Bool := decide (k.fr = i ∧ k.rd = r)
def takesB (c m : Nat → Nat) (x : Kt) : Bool := isM m x.fr && decide (x.rd = c x.fr.toNat + 1)
def young (x : Kt) (L : List Kt) : List Kt := L.filter fun k => !oldB x k
def takeL (L : List Kt) (x : Kt) : List Kt := young x L ++ [x]
def takeC (c : Nat → Nat) (x : Kt) : Nat → Nat := put8 c x.fr.toNat x.rd
theorem young_le (x : Kt) (L : List Kt) : (young x L).length ≤ L.length := List.length_filter_le _ _
theorem takeL_len (x : Kt) (L : List Kt) : (takeL L x).length ≤ L.length + 1 := by
 have := young_le x L
 simp only [takeL, List.length_append, List.length_cons, List.length_nil]
 omega
theorem young_yes (x k : Kt) (L : List Kt) (j : Nat) (h : L[j]? = some k) (ho : oldB x k = true) : young x (L.take (j + 1)) = young x (L.take j) := by
 simp [young, List.take_add_one, h, ho]
theorem young_no (x k : Kt) (L : List Kt) (j : Nat) (h : L[j]? = some k) (ho : oldB x k = false) : young x (L.take (j + 1)) = young x (L.take j) ++ [k] := by
 simp [young, List.take_add_one, h, ho]
theorem takesB_iff (c m : Nat → Nat) (x : Kt) : takesB c m x = true ↔ ∃ d : Nat, x.fr = (d : Int) ∧ d < 8 ∧ m d ≠ 0 ∧ x.rd = c d + 1 := by
 unfold takesB
 rw [Bool.and_eq_true, isM_iff, decide_eq_true_eq]
 constructor
 ·rintro ⟨⟨d, e, h⟩, h2⟩
  obtain ⟨h3, h4⟩ := (mem_lst m d).1 h
  rw [e, Int.toNat_natCast] at h2
  exact ⟨d, e, h3, h4, h2⟩
 ·rintro ⟨d, e, h3, h4, h2⟩
  refine ⟨⟨d, e, (mem_lst m d).2 ⟨h3, h4⟩⟩, ?_⟩
  rw [e, Int.toNat_natCast]
  exact h2
end Go.Proofs.YthgfpdidilolgaaGreat
namespace Go.Proofs.YthgfpdidilolgaaGreat
set_option maxRecDepth 10000
open Go.RowKit Go.Sort
theorem wp_kt {o : Oper} {a : Act} {w : World} {K : Act → World → Prop} {Q : Exit → Act → World → Prop} (y : Operand) (ho : o.op = .buildSlice 73 1 #[(0, y)]) (x : Kt) (hx : a.eval y = .agg x.arr)
  (h : ∀ p W, Blk p x.arr 53 W → Below w.heap.size w W → w.heap.size ≤ p → p < W.heap.size → K (a.put o.dst (.slice (some ⟨p, 0, none⟩) 1 1)) W) : o.wp Tryz.prog a w K Q := by
 have hk := h _ _ (blk_new w x.arr 53) (below_box w _) (Nat.le_refl _) (by simp)
 unfold Oper.wp execOp
 simp only [ho, List.map_toArray, List.map_cons, List.map_nil, hx, Sem.run_bind, Sem.run_pure, bsKt, Result.andThen_ok]
 exact hk
section
variable {α : Type} {f : α → List Value} {k : Nat}
theorem li_one {p : Nat} {x : α} {T : TypeId} {w : World} (h : Blk p (f x).toArray T w) : Li f 0 (some ⟨p, 0, none⟩) [x] w := .inr ⟨p, 0, rfl, Nat.zero_le _, h.lt, by simpa [flat] using h.whole⟩
theorem wp_append_lk {P : Program} (hk : ∀ x, (f x).length = k) {op : Oper} {a : Act} {K : Act → World → Prop} {Q : Exit → Act → World → Prop} (s y : Operand) {t T : TypeId} (ho : op.op = .call { callee := .builtin .append, args := #[s, y], argTypes := #[t, t] })
  (ht : P.underlying t = some (.slice T)) {i : TypeInfo} {z : Value} {bytes : Nat} (hi : P.info? T = some i) (hz : i.zero = some z) (hs : i.size = k) (hby : i.bytes = bytes) (hzs : z.cells.size = k)
  {B : Nat} {ad : Option Addr} {cap : Nat} {L : List α} {w : World} (h : Lg f k T B ad cap L w) (hB : B ≤ w.heap.size) (he : a.eval s = .slice ad L.length cap) {x : Value} {M : List α} (hM : 0 < M.length) (hx : Src P k t x M.length (flat f M) w) (hey : a.eval y = x) (hb : (L.length + M.length) * bytes ≤ 140737488355328) (h63 : L.length + M.length ≤ maxLen)
  (hK : ∀ ad' cap' w', Lg f k T B ad' cap' (L ++ M) w' → Kp (blkOf ad) w w' → K (a.put op.dst (.slice ad' (L.length + M.length) cap')) w') : op.wp P a w K Q := by
 obtain ⟨ad', cap', w', hr, h1, h2, _⟩ := run_append_lk (P := P) hk op.type ht hi hz hs hby hzs h hB hM hx hb h63
 have hk2 := hK ad' cap' w' h1 h2
 unfold Oper.wp execOp
 simp only [ho, resolve, invoke, builtin, Sem.run_bind, Sem.run_pure, Result.andThen_ok, List.map_toArray, List.map_cons, List.map_nil, he, hey, hr]
 exact hk2
end
end Go.Proofs.YthgfpdidilolgaaGreat
namespace Go.Proofs.YthgfpdidilolgaaGreat
set_option maxRecDepth 10000
open Go.ChangeShapes Go.WideShapes Go.ChangeAt Go.RowKit Go.WideElems Go.Sort
structure Idn where
 e : Nat
 c : Nat
 i : Nat
def Idn.vals (x : Idn) : List Value := [.int .u32 (x.e : Int), .int .u32 (x.c : Int), .int .u32 (x.i : Int)]
def Idn.arr (x : Idn) : Array Value := x.vals.toArray
def Idn.zero : Idn := ⟨0, 0, 0⟩
theorem Idn.vals_one (x : Idn) : ∀ v ∈ x.vals, v.oneCell' = true := by
 intro v hv
 simp [Idn.vals] at hv
 rcases hv with rfl | rfl | rfl <;> rfl
theorem Idn.arr_one (x : Idn) : x.arr.all (·.oneCell') = true := all_oneCell_toArray x.vals_one
theorem sizeIdn : (Tryz.prog.info? 51).map (·.size) = some 3 := by kernel_rfl
theorem zeroIdn : (Tryz.prog.info? 51).map (fun i => (i.zero, i.size)) = some (some (.agg Idn.zero.arr), 3) := by kernel_rfl
def Idn.same (a b : Idn) : Bool := decide (a.e = b.e ∧ a.c = b.c ∧ a.i = b.i)
theorem Idn.same_iff (a b : Idn) : Idn.same a b = true ↔ a = b := by
 unfold Idn.same
 rw [decide_eq_true_eq]
 constructor
 ·rintro ⟨h0, h1, h2⟩
  cases a; cases b
  simp_all
 ·rintro rfl
  exact ⟨rfl, rfl, rfl⟩
theorem Idn.same_self (a : Idn) : Idn.same a a = true := (Idn.same_iff a a).2 rfl
theorem equalIdn (a b : Idn) (w : World) : (Op.equal 51 (.agg a.arr) (.agg b.arr)).run Tryz.prog w = .ok (Idn.same a b) w := by
 obtain ⟨e, c, i⟩ := a
 obtain ⟨e', c', i'⟩ := b
 by_cases h1 : e = e'
 ·by_cases h2 : c = c'
  ·by_cases h3 : i = i'
   ·simp [go_sem, Op.equal, Op.maxDepth, Idn.arr, Idn.vals, Idn.same, *]
   ·simp [go_sem, Op.equal, Op.maxDepth, Idn.arr, Idn.vals, Idn.same, Int.ofNat_inj, *]
  ·simp [go_sem, Op.equal, Op.maxDepth, Idn.arr, Idn.vals, Idn.same, Int.ofNat_inj, *]
 ·simp [go_sem, Op.equal, Op.maxDepth, Idn.arr, Idn.vals, Idn.same, Int.ofNat_inj, *]
theorem eqlIdn (a b : Idn) (c : Bool) (h : Idn.same a b = c) (w : World) : (binOp .eql 51 (.agg a.arr) (.agg b.arr)).run Tryz.prog w = .ok (.bool c) w := by
 simp only [binOp]
 simp [equalIdn, h]
theorem neqIdn (a b : Idn) (c : Bool) (h : Idn.same a b = c) (w : World) : (binOp .neq 51 (.agg a.arr) (.agg b.arr)).run Tryz.prog w = .ok (.bool (!c)) w := by
 simp only [binOp]
 simp [equalIdn, h]
section
variable {H : Type} {enc : TypeId × Value → H} {W : World} {base : Nat} {spare : Nat → Bool} {held : Bool}
end
end Go.Proofs.YthgfpdidilolgaaGreat
namespace Go.Proofs.YthgfpdidilolgaaGreat
set_option maxRecDepth 10000
open Go.RowKit Go.Sort
def orI : List Int → Int
 | [] => 0
 | x :: l => if x = 0 then orI l else x
theorem orI_drop (L : List Int) (j : Nat) (x : Int) (hx : L[j]? = some x) : orI (L.drop j) = if x = 0 then orI (L.drop (j + 1)) else x := by
 have hj : j < L.length := (List.getElem?_eq_some_iff.1 hx).1
 rw [List.drop_eq_getElem_cons hj]
 have : L[j] = x := by rw [List.getElem?_eq_getElem hj] at hx; injection hx
 rw [this]
 rfl
set_option maxHeartbeats 1000000 in
theorem or_ok (la : Option Addr) (L : List Int) (lc : Nat) (lm : L.length ≤ 9223372036854775807) (w : World) (hL : Li iv 0 la L w) : Calls Tryz.prog 191 #[.slice la L.length lc] w fun e w' => e = .returned (.int .i64 (orI L)) ∧ w' = w := by
 obtain ⟨n, hn⟩ : ∃ n, L.length = n := ⟨_, rfl⟩
 rw [hn] at lm ⊢
 have HN : Hid (L.length = n) := hn
 obtain ⟨R, hR⟩ : ∃ R, Hid (orI L = R) := ⟨_, rfl⟩
 rw [hR.out]
 clear hn
 go_enter Tryz.func191, Tryz.ntmps191
 go_wp2_with fail
 go_loopw [8] (fun iv wr => ∃ j : Nat, j ≤ n ∧ iv = .int .i64 j ∧ wr = w ∧ Hid (orI (L.drop j) = R)) (fun iv _ => n - (intOf iv).toNat)
 case atStart => exact ⟨0, by omega, rfl, rfl, hR⟩
 case round =>
  clear hR
  obtain ⟨j, hj, rfl, rfl, hR⟩ := hrel
  by_cases hjn : j < n
  ·have j0 : (j : Int) < (n : Int) := by omega
   have j1 : (0 : Int) ≤ (j : Int) := by omega
   obtain ⟨x, hx⟩ : ∃ x, L[j]? = some x := ⟨_, List.getElem?_eq_getElem (by rw [HN.out]; exact hjn)⟩
   have hst := orI_drop L j x hx
   obtain ⟨b, o, rfl, _, hbl, hr⟩ := hL.at iv_length j x hx
   have c0 : wr.cell? ⟨b, o + j, none⟩ = some (.int .i64 x) := by have := hr 0 _ rfl; simpa using this
   by_cases h0 : x = 0
   ·rw [if_pos h0, hR.out] at hst
    have HS : Hid (orI (L.drop (j + 1)) = R) := hst.symm
    subst h0
    clear hst hR hx hr
    go_wp2_with fail
    refine ⟨⟨j + 1, by omega, by go_num, trivial, HS⟩, by simp [intOf]; omega⟩
   ·rw [if_neg h0, hR.out] at hst
    subst hst
    clear hR hx hr
    go_wp2_with fail
    go_ret
    exact ⟨rfl, rfl⟩
  ·obtain rfl : j = n := by omega
   have hz := hR.out
   rw [List.drop_of_length_le (by rw [HN.out]; omega)] at hz
   subst hz
   clear hR HN
   go_wp2_with fail
   go_ret
   exact ⟨rfl, rfl⟩
theorem bsInts3 (p q r : Int) (w : World) : (Instr.buildSlice 93 3 #[(0, .int .i64 p), (1, .int .i64 q), (2, .int .i64 r)]).run Tryz.prog w = .ok (.slice (some ⟨w.heap.size, 0, none⟩) 3 3) (w.alloc (.cells (flat iv [p, q, r]).toArray 3)) := by kernel_rfl
theorem wp_ints3 {o : Oper} {a : Act} {w : World} {K : Act → World → Prop} {Q : Exit → Act → World → Prop} (x y z : Operand) (ho : o.op = .buildSlice 93 3 #[(0, x), (1, y), (2, z)]) (p q r : Int) (h0 : a.eval x = .int .i64 p) (h1 : a.eval y = .int .i64 q) (h2 : a.eval z = .int .i64 r)
  (h : K (a.put o.dst (.slice (some ⟨w.heap.size, 0, none⟩) 3 3)) (w.alloc (.cells (flat iv [p, q, r]).toArray 3))) : o.wp Tryz.prog a w K Q := by
 unfold Oper.wp execOp
 simp only [ho, List.map_toArray, List.map_cons, List.map_nil, h0, h1, h2, Sem.run_bind, Sem.run_pure, bsInts3, Result.andThen_ok]
 exact h
end Go.Proofs.YthgfpdidilolgaaGreat
namespace Go.Proofs.YthgfpdidilolgaaGreat
set_option maxRecDepth 10000
open Go.RowKit Go.Sort
def cmpN (x y : Nat) : Int := if x < y then -1 else if y < x then 1 else 0
def cmpId (a b : Idn) : Int := orI [cmpN a.e b.e, cmpN a.c b.c, cmpN a.i b.i]
theorem isNaN_ok (x : Nat) (w : World) : Calls Tryz.prog 215 #[.int .u32 (x : Int)] w fun e w' => e = .returned (.bool false) ∧ w' = w := by
 go_enter Tryz.func215, Tryz.ntmps215
 go_wp2_with fail
 go_ret
 exact ⟨rfl, rfl⟩
theorem cmpN_ok (x y : Nat) (w : World) : Calls Tryz.prog 192 #[.int .u32 (x : Int), .int .u32 (y : Int)] w fun e w' => e = .returned (.int .i64 (cmpN x y)) ∧ w' = w := by
 have h : (x < y ∧ cmpN x y = -1) ∨ (¬ x < y ∧ y < x ∧ cmpN x y = 1) ∨ (¬ x < y ∧ ¬ y < x ∧ cmpN x y = 0) := by
  unfold cmpN
  by_cases h1 : x < y
  ·simp [h1]
  ·by_cases h2 : y < x
   ·simp [h1, h2]
   ·simp [h1, h2]
 rcases h with ⟨h1, h⟩ | ⟨h1, h2, h⟩ | ⟨h1, h2, h⟩
 ·rw [h]
  have h1' : (x : Int) < (y : Int) := by omega
  go_enter Tryz.func192, Tryz.ntmps192
  go_wp2_with fail
  refine (isNaN_ok x w).mono ?_
  rintro r w1 ⟨rfl, rfl⟩
  go_wp2_with fail
  refine (isNaN_ok y _).mono ?_
  rintro r w1 ⟨rfl, rfl⟩
  go_wp2_with fail
  go_ret
  exact ⟨rfl, rfl⟩
 ·rw [h]
  have h1' : ¬ (x : Int) < (y : Int) := by omega
  have h2' : (y : Int) < (x : Int) := by omega
  go_enter Tryz.func192, Tryz.ntmps192
  go_wp2_with fail
  refine (isNaN_ok x w).mono ?_
  rintro r w1 ⟨rfl, rfl⟩
  go_wp2_with fail
  refine (isNaN_ok y _).mono ?_
  rintro r w1 ⟨rfl, rfl⟩
  go_wp2_with fail
  go_ret
  exact ⟨rfl, rfl⟩
 ·rw [h]
  have h1' : ¬ (x : Int) < (y : Int) := by omega
  have h2' : ¬ (y : Int) < (x : Int) := by omega
  go_enter Tryz.func192, Tryz.ntmps192
  go_wp2_with fail
  refine (isNaN_ok x w).mono ?_
  rintro r w1 ⟨rfl, rfl⟩
  go_wp2_with fail
  refine (isNaN_ok y _).mono ?_
  rintro r w1 ⟨rfl, rfl⟩
  go_wp2_with fail
  go_ret
  exact ⟨rfl, rfl⟩
end Go.Proofs.YthgfpdidilolgaaGreat
namespace Go.Proofs.YthgfpdidilolgaaGreat
set_option maxRecDepth 10000
open Go.RowKit Go.Sort
def Idn.lt (a b : Idn) : Prop := a.e < b.e ∨ (a.e = b.e ∧ (a.c < b.c ∨ (a.c = b.c ∧ a.i < b.i)))
theorem cmpN_cases (x y : Nat) : (x < y ∧ cmpN x y = -1) ∨ (y < x ∧ cmpN x y = 1) ∨ (x = y ∧ cmpN x y = 0) := by
 unfold cmpN
 by_cases h1 : x < y
 ·exact .inl ⟨h1, by simp [h1]⟩
 ·by_cases h2 : y < x
  ·exact .inr (.inl ⟨h2, by simp [h1, h2]⟩)
  ·exact .inr (.inr ⟨by omega, by simp [h1, h2]⟩)
theorem cmpId_cases (a b : Idn) : (a.lt b ∧ cmpId a b = -1) ∨ (b.lt a ∧ cmpId a b = 1) ∨ (a = b ∧ cmpId a b = 0) := by
 unfold cmpId Idn.lt
 rcases cmpN_cases a.e b.e with ⟨h1, e1⟩ | ⟨h1, e1⟩ | ⟨h1, e1⟩
 ·left; exact ⟨.inl h1, by rw [e1]; rfl⟩
 ·right; left; exact ⟨.inl h1, by rw [e1]; rfl⟩
 ·rcases cmpN_cases a.c b.c with ⟨h2, e2⟩ | ⟨h2, e2⟩ | ⟨h2, e2⟩
  ·left; exact ⟨.inr ⟨h1, .inl h2⟩, by rw [e1, e2]; rfl⟩
  ·right; left; exact ⟨.inr ⟨h1.symm, .inl h2⟩, by rw [e1, e2]; rfl⟩
  ·rcases cmpN_cases a.i b.i with ⟨h3, e3⟩ | ⟨h3, e3⟩ | ⟨h3, e3⟩
   ·left; exact ⟨.inr ⟨h1, .inr ⟨h2, h3⟩⟩, by rw [e1, e2, e3]; rfl⟩
   ·right; left; exact ⟨.inr ⟨h1.symm, .inr ⟨h2.symm, h3⟩⟩, by rw [e1, e2, e3]; rfl⟩
   ·right; right
    refine ⟨?_, by rw [e1, e2, e3]; rfl⟩
    cases a; cases b
    simp_all
theorem Idn.lt_irrefl (a : Idn) : ¬ a.lt a := by unfold Idn.lt; omega
theorem Idn.lt_asymm {a b : Idn} (h : a.lt b) : ¬ b.lt a := by unfold Idn.lt at *; omega
theorem cmpId_lt {a b : Idn} : cmpId a b < 0 ↔ a.lt b := by
 rcases cmpId_cases a b with ⟨h, e⟩ | ⟨h, e⟩ | ⟨h, e⟩
 ·simp [h, e]
 ·simp [e, Idn.lt_asymm h]
 ·subst h; simp [e, Idn.lt_irrefl]
theorem cmpId_gt {a b : Idn} : 0 < cmpId a b ↔ b.lt a := by
 rcases cmpId_cases a b with ⟨h, e⟩ | ⟨h, e⟩ | ⟨h, e⟩
 ·simp [e, Idn.lt_asymm h]
 ·simp [h, e]
 ·subst h; simp [e, Idn.lt_irrefl]
end Go.Proofs.YthgfpdidilolgaaGreat
namespace Go.Proofs.YthgfpdidilolgaaGreat
set_option maxRecDepth 10000
set_option linter.unusedSimpArgs false
open Go.RowKit Go.Sort
set_option maxHeartbeats 2000000 in
theorem cmp_ok (a b : Idn) (w : World) : Calls Tryz.prog 193 #[.agg a.arr, .agg b.arr] w fun e w' => e = .returned (.int .i64 (cmpId a b)) ∧ Below w.heap.size w w' := by
 obtain ⟨R, hR⟩ : ∃ R, Hid (cmpId a b = R) := ⟨_, rfl⟩
 have b1 := (blk_new w a.arr 51).alloc (.cells b.arr 51)
 have b2 := blk_new (w.alloc (.cells a.arr 51)) b.arr 51
 have hs : (w.alloc (.cells a.arr 51)).heap.size = w.heap.size + 1 := by simp
 have hB : Below w.heap.size w ((w.alloc (.cells a.arr 51)).alloc (.cells b.arr 51)) := (below_box w _).alloc (by simp) _
 rw [hs] at b2
 obtain ⟨W, hW⟩ : ∃ W, (w.alloc (.cells a.arr 51)).alloc (.cells b.arr 51) = W := ⟨_, rfl⟩
 rw [hW] at b1 b2 hB
 obtain ⟨x, hx⟩ : ∃ x, Hid (cmpN a.e b.e = x) := ⟨_, rfl⟩
 obtain ⟨y, hy⟩ : ∃ x, Hid (cmpN a.c b.c = x) := ⟨_, rfl⟩
 obtain ⟨z, hz⟩ : ∃ x, Hid (cmpN a.i b.i = x) := ⟨_, rfl⟩
 have p0 := cmpN_ok a.e b.e
 have p1 := cmpN_ok a.c b.c
 have p2 := cmpN_ok a.i b.i
 have hc : orI [x, y, z] = R := by rw [← hR.out, ← hx.out, ← hy.out, ← hz.out]; rfl
 rw [hx.out] at p0
 rw [hy.out] at p1
 rw [hz.out] at p2
 have or3_ok : ∀ {g : Nat} {u : World}, Blk g (flat iv [x, y, z]).toArray 3 u → Calls Tryz.prog 191 #[.slice (some ⟨g, 0, none⟩) 3 3] u fun e w' => e = .returned (.int .i64 R) ∧ w' = u := fun h => by
  rw [← hc]
  exact or_ok _ [x, y, z] 3 (by simp) _ (li_whole h (Nat.zero_le _))
 rw [hR.out]
 clear hs hx hy hz hR hc
 go_enter Tryz.func193, Tryz.ntmps193
 go_wp2_with fail
 refine wp_region_held_drew (S := fun w' => Blk w.heap.size a.arr 51 w' ∧ Blk (w.heap.size + 1) b.arr 51 w') (by kernel_rfl) ⟨b1, b2⟩ (fun hHeld => ?_)
 refine tkQ 0 hHeld ?_
 try simp only [yy]
 refine tkH 1 (v := ?v2) rfl (by kernel_rfl) (fun _ _ _ h => h) (Or.inl ⟨by rfl, ?hy2⟩) hHeld ?_
 case hy2 => (intro w hSw; have hc := hSw.1.cell 0 _ rfl; clear hSw; go_simp; try with_reducible rfl)
 try simp only [yy]
 refine tkQ 2 hHeld ?_
 try simp only [yy]
 refine tkH 3 (v := ?v4) rfl (by kernel_rfl) (fun _ _ _ h => h) (Or.inl ⟨by rfl, ?hy4⟩) hHeld ?_
 case hy4 => (intro w hSw; have hc := hSw.2.cell 0 _ rfl; clear hSw; go_simp; try with_reducible rfl)
 try simp only [yy]
 refine tkQ 5 hHeld ?_
 try simp only [yy]
 refine tkH 6 (v := ?v6) rfl (by kernel_rfl) (fun _ _ _ h => h) (Or.inl ⟨by rfl, ?hy6⟩) hHeld ?_
 case hy6 => (intro w hSw; have hc := hSw.1.cell 1 _ rfl; clear hSw; go_simp; try with_reducible rfl)
 try simp only [yy]
 refine tkQ 7 hHeld ?_
 try simp only [yy]
 refine tkH 8 (v := ?v8) rfl (by kernel_rfl) (fun _ _ _ h => h) (Or.inl ⟨by rfl, ?hy8⟩) hHeld ?_
 case hy8 => (intro w hSw; have hc := hSw.2.cell 1 _ rfl; clear hSw; go_simp; try with_reducible rfl)
 try simp only [yy]
 refine tkQ 10 hHeld ?_
 try simp only [yy]
 refine tkH 11 (v := ?v10) rfl (by kernel_rfl) (fun _ _ _ h => h) (Or.inl ⟨by rfl, ?hy10⟩) hHeld ?_
 case hy10 => (intro w hSw; have hc := hSw.1.cell 2 _ rfl; clear hSw; go_simp; try with_reducible rfl)
 try simp only [yy]
 refine tkQ 12 hHeld ?_
 try simp only [yy]
 refine tkH 13 (v := ?v12) rfl (by kernel_rfl) (fun _ _ _ h => h) (Or.inl ⟨by rfl, ?hy12⟩) hHeld ?_
 case hy12 => (intro w hSw; have hc := hSw.2.cell 2 _ rfl; clear hSw; go_simp; try with_reducible rfl)
 try simp only [yy]
 refine rd1 4 (fun K hK => ?_)
 go_simp
 go_wp2_with (refine (p0 _).mono ?_; rintro r w' ⟨rfl, rfl⟩)
 refine hK.out _ _ hHeld (fun hHeld => ?_)
 clear hK K
 refine rd1 9 (fun K hK => ?_)
 go_simp
 go_wp2_with (refine (p1 _).mono ?_; rintro r w' ⟨rfl, rfl⟩)
 refine hK.out _ _ hHeld (fun hHeld => ?_)
 clear hK K
 refine rd1 14 (fun K hK => ?_)
 go_simp
 go_wp2_with (refine (p2 _).mono ?_; rintro r w' ⟨rfl, rfl⟩)
 refine hK.out _ _ hHeld (fun hHeld => ?_)
 clear hK K
 refine rd1 15 (fun K hK => ?_)
 rw [if_pos (by rfl)]
 refine wp_ints3 _ _ _ rfl x y z rfl rfl rfl ?_
 have hb : Blk W.heap.size (flat iv [x, y, z]).toArray 3 (W.drew.alloc (.cells (flat iv [x, y, z]).toArray 3)) := blk_new W.drew _ _
 have ho := or3_ok hb
 clear hb
 refine hK.out _ _ ⟨hHeld.1.alloc _, hHeld.2.alloc _⟩ (fun hHeld => ?_)
 clear hK K
 try simp only [yy]
 refine rd1 16 (fun K hK => ?_)
 go_simp
 go_wp2_with (refine ho.mono ?_; rintro r w' ⟨rfl, rfl⟩)
 refine hK.out _ _ hHeld (fun hHeld => ?_)
 clear hK K
 refine tkQ 17 hHeld ?_
 try simp only [yy]
 refine wpAnyH_done (by kernel_rfl) ?_ _
 clear hHeld b1 b2 hW
 go_wp2_with fail
 go_ret
 refine ⟨rfl, ?_⟩
 exact hB.drew.alloc (Nat.le_trans hB.size (Nat.le_refl _)) _
end Go.Proofs.YthgfpdidilolgaaGreat
namespace Go.Proofs.YthgfpdidilolgaaGreat
set_option maxRecDepth 10000
open Go.RowKit Go.Sort
def maxC (a b : Nat → Nat) : Nat → Nat := fun i => max (a i) (b i)
def unionL (L : List (Nat → Nat)) : Nat → Nat := L.foldl maxC noMb
theorem unionL_take (L : List (Nat → Nat)) (j : Nat) (c : Nat → Nat) (h : L[j]? = some c) : unionL (L.take (j + 1)) = maxC (unionL (L.take j)) c := by
 rw [List.take_add_one, h]
 simp [unionL, List.foldl_append]
def maxTo (u c : Nat → Nat) (j : Nat) : Nat → Nat := fun i => if i < j then max (u i) (c i) else u i
theorem maxTo_zero (u c : Nat → Nat) : maxTo u c 0 = u := by funext i; simp [maxTo]
theorem maxTo_at (u c : Nat → Nat) (j : Nat) : maxTo u c j j = u j := by simp [maxTo]
theorem maxTo_full (u c : Nat → Nat) : mbc (maxTo u c 8) = mbc (maxC u c) := mbc_ext fun i hi => by simp [maxTo, maxC, hi]
theorem maxTo_set (u c : Nat → Nat) (j : Nat) (h : j < 8) (v : Nat) (hv : v = max (u j) (c j)) : (mbc (maxTo u c j)).setIfInBounds j (.int .u32 (v : Int)) = mbc (maxTo u c (j + 1)) := by
 rw [mbc_set _ j v h]
 refine mbc_ext fun i _ => ?_
 simp only [maxTo]
 by_cases e : i = j
 ·subst e
  rw [if_pos rfl, if_pos (by omega), hv]
 ·by_cases l : i < j
  ·simp [e, l, show i < j + 1 by omega]
  ·simp [e, l, show ¬ i < j + 1 by omega]
def withTo (a b : Nat → Nat) (j : Nat) : Bool := (List.range j).all fun i => decide (a i ≤ b i)
def withB (a b : Nat → Nat) : Bool := withTo a b 8
theorem withTo_zero (a b : Nat → Nat) : withTo a b 0 = true := rfl
theorem withTo_iff (a b : Nat → Nat) (j : Nat) : withTo a b j = true ↔ ∀ i, i < j → a i ≤ b i := by simp [withTo, List.all_eq_true]
theorem withTo_step (a b : Nat → Nat) (j : Nat) (h : withTo a b j = true) (hj : a j ≤ b j) : withTo a b (j + 1) = true := by
 rw [withTo_iff] at *
 intro i hi
 by_cases e : i = j
 ·rw [e]; exact hj
 ·exact h i (by omega)
theorem withB_iff (a b : Nat → Nat) : withB a b = true ↔ ∀ i, i < 8 → a i ≤ b i := withTo_iff a b 8
theorem withB_not (a b : Nat → Nat) (j : Nat) (hj : j < 8) (h : ¬ a j ≤ b j) : withB a b = false := by
 rw [Bool.eq_false_iff]
 intro hw
 exact h ((withB_iff a b).1 hw j hj)
end Go.Proofs.YthgfpdidilolgaaGreat
namespace Go.Proofs.YthgfpdidilolgaaGreat
set_option maxRecDepth 10000
open Go.RowKit Go.Sort
set_option linter.unusedVariables false
theorem indexCt (f : Nat → Nat) (i : Nat) (h : i < 8) (w : World) : (Instr.index 60 (.agg (mbc f)) (.int .i64 (i : Int))).run Tryz.prog w = .ok (.int .u32 (f i : Int)) w := by
 obtain rfl | rfl | rfl | rfl | rfl | rfl | rfl | rfl : i = 0 ∨ i = 1 ∨ i = 2 ∨ i = 3 ∨ i = 4 ∨ i = 5 ∨ i = 6 ∨ i = 7 := by omega
 all_goals kernel_rfl
set_option maxHeartbeats 2000000 in
theorem within_ok (a b : Nat → Nat) (w : World) : Calls Tryz.prog 132 #[.agg (mbc a), .agg (mbc b)] w fun e w' => e = .returned (.bool (withB a b)) ∧ Below w.heap.size w w' := by
 obtain ⟨a0, a1, hB⟩ := two_blk (T0 := 60) (T1 := 60) (C0 := mbc a) (C1 := mbc b) (w := w) rfl
 obtain ⟨R, hR⟩ : ∃ R, Hid (withB a b = R) := ⟨_, rfl⟩
 rw [hR.out]
 go_enter Tryz.func132, Tryz.ntmps132
 go_upto_region 1 with fail
 generalize (w.alloc (Obj.cells (mbc a) 60)).alloc (Obj.cells (mbc b) 60) = W at a0 a1 hB ⊢
 go_wp2_with (refine load_blk rfl 60 _ rfl a0 rfl Tryz.underlying60 rfl sizeCt ?_)
 go_loopw [8] (fun iv wr => ∃ j : Nat, j ≤ 8 ∧ iv = .int .i64 j ∧ wr = W ∧ Hid (withTo a b j = true)) (fun iv _ => 8 - (intOf iv).toNat)
 case atStart => exact ⟨0, by omega, rfl, rfl, withTo_zero a b⟩
 case round =>
  obtain ⟨j, hj, rfl, rfl, h0⟩ := hrel
  by_cases hj8 : j < 8
  ·have j0 : (j : Int) < 8 := by omega
   have j1 : (0 : Int) ≤ (j : Int) := by omega
   have hix := indexCt a j hj8
   have c0 := a1.cell j _ (mbc_get b j hj8)
   by_cases hm : a j ≤ b j
   ·have HS : Hid (withTo a b (j + 1) = true) := withTo_step a b j h0.out hm
    have hm' : ¬ (b j : Int) < (a j : Int) := by omega
    clear h0 hm
    go_wp2_with fail
    refine ⟨⟨j + 1, by omega, by go_num, trivial, HS⟩, by simp [intOf]; omega⟩
   ·obtain rfl : R = false := by rw [← hR.out]; exact withB_not a b j hj8 hm
    have hm' : (b j : Int) < (a j : Int) := by omega
    clear h0 hm hR
    go_wp2_with fail
    go_ret
    exact ⟨rfl, hB⟩
  ·obtain rfl : j = 8 := by omega
   obtain rfl : R = true := by rw [← hR.out]; exact h0.out
   clear h0 hR
   go_wp2_with fail
   go_ret
   exact ⟨rfl, hB⟩
set_option maxHeartbeats 4000000 in
theorem union_ok (L : List (Nat → Nat)) (la : Option Addr) (lc : Nat) (lm : L.length ≤ 9223372036854775807) (w : World) (lS : Li row8 0 la L w) : Calls Tryz.prog 167 #[.slice la L.length lc] w fun e w' => e = .returned (.agg (mbc (unionL L))) ∧ Below w.heap.size w w' := by
 obtain ⟨a0, a1, hB⟩ := two_blk (T0 := 60) (T1 := 60) (C0 := mbc noMb) (C1 := mbc noMb) (w := w) rfl
 obtain ⟨R, hR⟩ : ∃ R, Hid (unionL L = R) := ⟨_, rfl⟩
 rw [hR.out]
 obtain ⟨n, hn⟩ : ∃ n, L.length = n := ⟨_, rfl⟩
 rw [hn] at lm ⊢
 have HN : Hid (L.length = n) := hn
 clear hn
 go_enter Tryz.func167, Tryz.ntmps167
 go_upto_region 2 with (refine alloc_zero zeroCt rfl rfl ?_)
 try simp only [Act.put, List.setIfInBounds_toArray, List.set_cons_zero, List.set_cons_succ]
 try simp only [alloc_size]
 generalize (w.alloc (Obj.cells (mbc noMb) 60)).alloc (Obj.cells (mbc noMb) 60) = W at a0 a1 hB ⊢
 go_wp2_with fail
 go_loopw [10] (fun iv wr => ∃ j : Nat, j ≤ n ∧ iv = .int .i64 j ∧ Blk w.heap.size (mbc noMb) 60 wr ∧ Blk (w.heap.size + 1) (mbc (unionL (L.take j))) 60 wr ∧ Below w.heap.size w wr) (fun iv _ => n - (intOf iv).toNat)
 case atStart => exact ⟨0, by omega, rfl, a0, a1, hB⟩
 case round =>
  clear a0 a1 hB
  obtain ⟨j, hj, rfl, a0, a1, hB⟩ := hrel
  by_cases hjn : j < n
  ·have j0 : (j : Int) < (n : Int) := by omega
   have j1 : (0 : Int) ≤ (j : Int) := by omega
   obtain ⟨c, hc⟩ : ∃ c, L[j]? = some c := ⟨_, List.getElem?_eq_getElem (by rw [HN.out]; exact hjn)⟩
   obtain ⟨b, o, rfl, _, _, hr⟩ := (lS.below hB).at row8_length j c hc
   have HS : Hid (unionL (L.take (j + 1)) = maxC (unionL (L.take j)) c) := unionL_take L j c hc
   generalize unionL (L.take j) = u at a1 HS
   have a2 := blk_new wr (mbc c) 60
   have e0 := a0.alloc (.cells (mbc c) 60)
   have e1 := a1.alloc (.cells (mbc c) 60)
   have hE : Below w.heap.size w (wr.alloc (.cells (mbc c) 60)) := hB.alloc hB.size _
   have hV : w.heap.size + 1 < wr.heap.size := a1.lt
   rw [← maxTo_zero u c] at e1
   clear hc a0 a1 hB
   go_upto_region 5 with (first | refine load_range rfl 60 _ rfl (row8 c) hr rfl Tryz.underlying60 rfl sizeCt ?_ | refine alloc_zero zeroCt rfl rfl ?_ | refine store_new rfl 60 _ _ rfl (cells := mbc c) rfl rfl sizeCt rfl (mbc_one _) ?_)
   try simp only [Act.put, List.setIfInBounds_toArray, List.set_cons_zero, List.set_cons_succ]
   generalize wr.alloc (Obj.cells (mbc c) 60) = V at a2 e0 e1 hE ⊢
   clear hr
   generalize wr.heap.size = vs at a2 hV ⊢
   go_wp2_with (refine load_blk rfl 60 _ rfl a2 rfl Tryz.underlying60 rfl sizeCt ?_)
   go_loopw [15] (fun iv wr => ∃ i : Nat, i ≤ 8 ∧ iv = .int .i64 i ∧ Blk w.heap.size (mbc noMb) 60 wr ∧ Blk (w.heap.size + 1) (mbc (maxTo u c i)) 60 wr ∧ Below w.heap.size w wr) (fun iv _ => 8 - (intOf iv).toNat)
   case atStart => exact ⟨0, by omega, rfl, e0, e1, hE⟩
   case round =>
    clear a2 e0 e1 hE
    obtain ⟨i, hi, rfl, a0, a1, hB⟩ := hrel
    by_cases hi8 : i < 8
    ·have i0 : (i : Int) < 8 := by omega
     have i1 : (0 : Int) ≤ (i : Int) := by omega
     have hix := indexCt c i hi8
     have c0 := a1.cell i _ (mbc_get _ i hi8)
     rw [maxTo_at] at c0
     by_cases hm : u i < c i
     ·have hst := maxTo_set u c i hi8 (c i) (by omega)
      have hm' : (u i : Int) < (c i : Int) := by omega
      clear hm
      go_wp2_with (refine store_one rfl 37 _ _ rfl (off := i) (.int .u32 (c i : Int)) a1 rfl rfl rfl rfl sizeU32 (by rw [mbc_size]; omega) ?_; intro w2 b2 k2; rw [hst] at b2; have f0 := a0.kp1 k2 (by omega); have hB2 : Below w.heap.size w w2 := hB.trans (k2.below1 (by omega) hB.size))
      exact ⟨⟨i + 1, by omega, by go_num, f0, b2, hB2⟩, by simp [intOf]; omega⟩
     ·have hst := maxTo_set u c i hi8 (u i) (by omega)
      have hm' : ¬ (u i : Int) < (c i : Int) := by omega
      clear hm
      go_wp2_with (refine store_one rfl 37 _ _ rfl (off := i) (.int .u32 (u i : Int)) a1 rfl rfl rfl rfl sizeU32 (by rw [mbc_size]; omega) ?_; intro w2 b2 k2; rw [hst] at b2; have f0 := a0.kp1 k2 (by omega); have hB2 : Below w.heap.size w w2 := hB.trans (k2.below1 (by omega) hB.size))
      exact ⟨⟨i + 1, by omega, by go_num, f0, b2, hB2⟩, by simp [intOf]; omega⟩
    ·obtain rfl : i = 8 := by omega
     rw [maxTo_full, ← HS.out] at a1
     go_wp2_with fail
     exact ⟨⟨j + 1, by omega, by go_num, a0, a1, hB⟩, by simp [intOf]; omega⟩
  ·obtain rfl : j = n := by omega
   rw [List.take_of_length_le (by rw [HN.out]; omega), hR.out] at a1
   have hpa : putAt (mbc noMb) 0 (mbc R).toList = mbc R := putAt_all _ _ rfl
   clear lS HN hR
   go_wp2_with (first | refine load_blk rfl 60 _ rfl a1 rfl Tryz.underlying60 rfl sizeCt ?_ | (refine store_part rfl 60 _ _ rfl (off := 0) (cells := mbc R) a0 rfl rfl sizeCt (Nat.le_refl _) (mbc_one _) ?_; intro w2 b2 k2; rw [hpa] at b2; have hB2 : Below w.heap.size w w2 := hB.trans (k2.below1 (Nat.le_refl _) hB.size)))
   exact bodyPost_ret (w := w2) (v := .agg (mbc R)) (ret_one rfl rfl b2 Tryz.underlying60 rfl sizeCt) rfl ⟨rfl, hB2⟩
end Go.Proofs.YthgfpdidilolgaaGreat
namespace Go.Proofs.YthgfpdidilolgaaGreat
set_option maxRecDepth 10000
open Go.RowKit Go.Sort
def fm (c : Nat → Nat) (a : Nat) (L : List Nat) : Nat := L.foldl (fun a d => min a (c d)) a
def leastL (c : Nat → Nat) : List Nat → Nat
 | [] => 0
 | x :: l => fm c (c x) l
def leastC (c m : Nat → Nat) : Nat := leastL c (lst m)
theorem fm_le (c : Nat → Nat) : ∀ (L : List Nat) (a : Nat), fm c a L ≤ a
 | [], _ => Nat.le_refl _
 | x :: l, a => Nat.le_trans (fm_le c l (min a (c x))) (Nat.min_le_left _ _)
theorem fm_le_mem (c : Nat → Nat) : ∀ (L : List Nat) (a d : Nat), d ∈ L → fm c a L ≤ c d
 | [], a, d, h => by cases h
 | x :: l, a, d, h => by
  rcases List.mem_cons.1 h with rfl | h
  ·exact Nat.le_trans (fm_le c l (min a (c d))) (Nat.min_le_right _ _)
  ·exact fm_le_mem c l (min a (c x)) d h
theorem fm_take (c : Nat → Nat) (a : Nat) (L : List Nat) (j d : Nat) (h : L[j]? = some d) : fm c a (L.take (j + 1)) = min (fm c a (L.take j)) (c d) := by
 rw [List.take_add_one, h]
 simp [fm, List.foldl_append]
theorem fm_head (c : Nat → Nat) (x : Nat) (l : List Nat) : fm c (c x) (x :: l) = leastL c (x :: l) := by
 show fm c (min (c x) (c x)) l = fm c (c x) l
 rw [Nat.min_self]
theorem leastC_le (c m : Nat → Nat) (d : Nat) (h : d ∈ lst m) : leastC c m ≤ c d := by
 unfold leastC
 cases hL : lst m with
 | nil => rw [hL] at h; cases h
 | cons x l =>
  rw [hL] at h
  rcases List.mem_cons.1 h with rfl | h
  ·exact fm_le c l _
  ·exact fm_le_mem c l _ d h
def mayB (c m : Nat → Nat) (i : Int) : Bool := isM m i && decide (c i.toNat = leastC c m)
end Go.Proofs.YthgfpdidilolgaaGreat
namespace Go.Proofs.YthgfpdidilolgaaGreat
set_option maxRecDepth 10000
open Go.ChangeShapes Go.WideShapes Go.ChangeAt Go.RowKit Go.WideElems Go.Sort
structure Bt where
 now : Nat
 hd : Nat → Nat
 inc : Nat → Nat
def Bt.vals (b : Bt) : List Value := .int .u32 (b.now : Int) :: (row8 b.hd ++ row8 b.inc)
def Bt.arr (b : Bt) : Array Value := b.vals.toArray
def Bt.zero : Bt := ⟨0, noMb, noMb⟩
theorem Bt.arr_size (b : Bt) : b.arr.size = 17 := rfl
theorem Bt.arr_one (b : Bt) : b.arr.all (·.oneCell') = true := by kernel_rfl
theorem sizeBt : (Tryz.prog.info? 72).map (·.size) = some 17 := by kernel_rfl
theorem Bt.size (b : Bt) : (Tryz.prog.info? 72).map (·.size) = some b.arr.size := sizeBt
theorem zeroBt : (Tryz.prog.info? 72).map (fun i => (i.zero, i.size)) = some (some (.agg Bt.zero.arr), 17) := by kernel_rfl
theorem Bt.get_now (b : Bt) : b.arr[0]? = some (.int .u32 (b.now : Int)) := rfl
theorem Bt.get_hd (b : Bt) (i : Nat) (h : i < 8) : b.arr[1 + i]? = some (.int .u32 (b.hd i : Int)) := by
 obtain rfl | rfl | rfl | rfl | rfl | rfl | rfl | rfl : i = 0 ∨ i = 1 ∨ i = 2 ∨ i = 3 ∨ i = 4 ∨ i = 5 ∨ i = 6 ∨ i = 7 := by omega
 all_goals rfl
theorem Bt.get_inc (b : Bt) (i : Nat) (h : i < 8) : b.arr[9 + i]? = some (.int .u32 (b.inc i : Int)) := by
 obtain rfl | rfl | rfl | rfl | rfl | rfl | rfl | rfl : i = 0 ∨ i = 1 ∨ i = 2 ∨ i = 3 ∨ i = 4 ∨ i = 5 ∨ i = 6 ∨ i = 7 := by omega
 all_goals rfl
theorem Bt.set_now (b : Bt) (v : Nat) : b.arr.setIfInBounds 0 (.int .u32 (v : Int)) = (Bt.mk v b.hd b.inc).arr := rfl
theorem Bt.set_hd (b : Bt) (i v : Nat) (h : i < 8) : b.arr.setIfInBounds (1 + i) (.int .u32 (v : Int)) = (Bt.mk b.now (put8 b.hd i v) b.inc).arr := by
 obtain rfl | rfl | rfl | rfl | rfl | rfl | rfl | rfl : i = 0 ∨ i = 1 ∨ i = 2 ∨ i = 3 ∨ i = 4 ∨ i = 5 ∨ i = 6 ∨ i = 7 := by omega
 all_goals rfl
theorem Bt.set_inc (b : Bt) (i v : Nat) (h : i < 8) : b.arr.setIfInBounds (9 + i) (.int .u32 (v : Int)) = (Bt.mk b.now b.hd (put8 b.inc i v)).arr := by
 obtain rfl | rfl | rfl | rfl | rfl | rfl | rfl | rfl : i = 0 ∨ i = 1 ∨ i = 2 ∨ i = 3 ∨ i = 4 ∨ i = 5 ∨ i = 6 ∨ i = 7 := by omega
 all_goals rfl
theorem sameBt (b : Bt) (w : World) : (Op.equalIn 10000 72 (.agg b.arr) (.agg b.arr)).run Tryz.prog w = .ok true w := by
 have hu : Tryz.prog.underlying 72 = some (.struct (Tryz.prog.fieldsOf 72)) := by kernel_rfl
 rw [show (10000 : Nat) = 9999 + 1 from rfl, run_equalIn_struct w 9999 72 b.arr b.arr hu (by kernel_rfl)]
 apply fields_same
 have hf : (Tryz.prog.fieldsOf 72).toList.map (fun f => (f.name, f.type, f.offset)) = [("Now", 37, 0), ("Heard", 54, 1), ("Inc", 54, 9)] := by kernel_rfl
 intro f hmem
 have hm : (f.name, f.type, f.offset) ∈ (Tryz.prog.fieldsOf 72).toList.map (fun f => (f.name, f.type, f.offset)) := List.mem_map_of_mem (f := fun f : Field => (f.name, f.type, f.offset)) hmem
 rw [hf] at hm
 generalize f.name = fn at hm ⊢
 generalize f.type = ft at hm ⊢
 generalize f.offset = fo at hm ⊢
 simp only [List.mem_cons, List.not_mem_nil, or_false, Prod.mk.injEq] at hm
 rcases hm with ⟨rfl, rfl, rfl⟩ | ⟨rfl, rfl, rfl⟩ | ⟨rfl, rfl, rfl⟩
 ·exact ⟨by decide, .int .u32 (b.now : Int), by kernel_rfl, by simp [go_sem]⟩
 ·exact ⟨by decide, .agg (mbc b.hd), by kernel_rfl, by rw [show (9999 : Nat) = 9997 + 1 + 1 from rfl, equalRow Tryz.underlying54 9997, mbSame_self]⟩
 ·exact ⟨by decide, .agg (mbc b.inc), by kernel_rfl, by rw [show (9999 : Nat) = 9997 + 1 + 1 from rfl, equalRow Tryz.underlying54 9997, mbSame_self]⟩
theorem eqlBt (b : Bt) (w : World) : (binOp .eql 72 (.agg b.arr) (.agg b.arr)).run Tryz.prog w = .ok (.bool true) w := by
 rw [run_eql_struct, sameBt]; rfl
def hv (i : Int) (n : Nat) : List Value := [.int .i64 i, .int .u32 (n : Int)]
def hc (i : Int) (n : Nat) : Array Value := (hv i n).toArray
structure Bt.ok (b : Bt) : Prop where
 now : b.now < 4294967296
 hd : ∀ i, b.hd i < 4294967296
 inc : ∀ i, b.inc i < 4294967296
section
variable {H : Type} {enc : TypeId × Value → H} {W : World} {base : Nat} {spare : Nat → Bool} {held : Bool}
end
end Go.Proofs.YthgfpdidilolgaaGreat
namespace Go.Proofs.YthgfpdidilolgaaGreat
set_option maxRecDepth 10000
open Go.ChangeShapes Go.WideShapes Go.ChangeAt Go.RowKit Go.WideElems Go.Sort
structure Pk where
 n : Nat → Nat
 lt : ∀ i, n i < 4294967296
 r : Bool
 f0 : Nat → En
 f1 : Nat → En
 f2 : Nat → En
def pkl (p : Pk) : List Value :=
 [.int .u32 (p.n 0), .int .u32 (p.n 1), .int .u32 (p.n 2), .int .u32 (p.n 3), .int .u32 (p.n 4),
  .int .u32 (p.n 5), .int .u32 (p.n 6), .int .u32 (p.n 7), .int .u32 (p.n 8), .int .u32 (p.n 9), .int .u32 (p.n 10), .int .u32 (p.n 11), .int .u32 (p.n 12),
  .int .u32 (p.n 13), .int .u32 (p.n 14), .int .u32 (p.n 15), .int .u32 (p.n 16), .int .u32 (p.n 17), .int .u32 (p.n 18), .int .u32 (p.n 19), .int .u32 (p.n 20),
  .int .u32 (p.n 21), .int .u32 (p.n 22), .int .u32 (p.n 23),
  .int .u32 (p.n 24), .int .u32 (p.n 25), .int .u32 (p.n 26), .int .u32 (p.n 27), .int .u32 (p.n 28), .int .u32 (p.n 29), .int .u32 (p.n 30), .int .u32 (p.n 31),
  .bool p.r, .int .u32 (p.n 33), .int .u32 (p.n 34)] ++ (frv p.f0 ++ (frv p.f1 ++ ([.int .u32 (p.n 107), .int .u32 (p.n 108)] ++ frv p.f2)))
def pkc (p : Pk) : Array Value := (pkl p).toArray
def Pk.zero : Pk := ⟨fun _ => 0, fun _ => by decide, false, noFr, noFr, noFr⟩
theorem pkl_one (p : Pk) : ∀ v ∈ pkl p, v.oneCell' = true := by
 intro v hv
 simp only [pkl, List.mem_append] at hv
 rcases hv with hv | hv | hv | hv | hv
 ·simp only [List.mem_cons, List.not_mem_nil, or_false] at hv
  rcases hv with rfl | rfl | rfl | rfl | rfl | rfl | rfl | rfl | rfl | rfl | rfl | rfl | rfl | rfl | rfl | rfl | rfl | rfl | rfl | rfl | rfl | rfl | rfl | rfl | rfl | rfl | rfl | rfl | rfl | rfl | rfl | rfl | rfl | rfl | rfl <;> rfl
 ·exact frv_one _ v hv
 ·exact frv_one _ v hv
 ·simp only [List.mem_cons, List.not_mem_nil, or_false] at hv
  rcases hv with rfl | rfl <;> rfl
 ·exact frv_one _ v hv
theorem pkc_one (p : Pk) : (pkc p).all (·.oneCell') = true := all_oneCell_toArray (pkl_one p)
theorem part_f0 (p : Pk) : ((pkc p).extract 35 (35 + (frv p.f0).length)).toList = frv p.f0 := by kernel_rfl
theorem part_f1 (p : Pk) : ((pkc p).extract 71 (71 + (frv p.f1).length)).toList = frv p.f1 := by kernel_rfl
theorem part_f2 (p : Pk) : ((pkc p).extract 109 (109 + (frv p.f2).length)).toList = frv p.f2 := by kernel_rfl
theorem pk_get0 (p : Pk) : (pkc p)[0]? = some (.int .u32 (p.n 0 : Int)) := rfl
theorem pk_get34 (p : Pk) : (pkc p)[34]? = some (.int .u32 (p.n 34 : Int)) := rfl
theorem pk_get107 (p : Pk) : (pkc p)[107]? = some (.int .u32 (p.n 107 : Int)) := rfl
theorem pk_get108 (p : Pk) : (pkc p)[108]? = some (.int .u32 (p.n 108 : Int)) := rfl
theorem sizePk : (Tryz.prog.info? 116).map (·.size) = some 145 := by kernel_rfl
theorem zeroPk : (Tryz.prog.info? 116).map (fun i => (i.zero, i.size)) = some (some (.agg (pkc Pk.zero)), 145) := by kernel_rfl
section
variable {H : Type} {enc : TypeId × Value → H} {W : World} {base : Nat} {spare : Nat → Bool} {held : Bool}
end
end Go.Proofs.YthgfpdidilolgaaGreat
namespace Go.Proofs.YthgfpdidilolgaaGreat
set_option maxRecDepth 10000
open Go.ChangeShapes Go.WideShapes Go.ChangeAt Go.RowKit Go.WideElems Go.Sort
structure Pe where
 inc : Nat
 conf : Idn
 pr : Idn
 cut : Nat → Nat
 rdy : Bool
def Pe.vals (x : Pe) : List Value := .int .u32 (x.inc : Int) :: (x.conf.vals ++ (x.pr.vals ++ (row8 x.cut ++ [.bool x.rdy])))
def Pe.arr (x : Pe) : Array Value := x.vals.toArray
def Pe.zero : Pe := ⟨0, Idn.zero, Idn.zero, noMb, false⟩
theorem Pe.vals_length (x : Pe) : x.vals.length = 16 := rfl
theorem Pe.arr_one (x : Pe) : x.arr.all (·.oneCell') = true := by kernel_rfl
theorem sizePe : (Tryz.prog.info? 75).map (·.size) = some 16 := by kernel_rfl
theorem zeroPe : (Tryz.prog.info? 75).map (fun i => (i.zero, i.size)) = some (some (.agg Pe.zero.arr), 16) := by kernel_rfl
theorem Pe.p_conf (x : Pe) : (x.arr.extract 1 (1 + x.conf.vals.length)).toList = x.conf.vals := by kernel_rfl
theorem Pe.p_pr (x : Pe) : (x.arr.extract 4 (4 + x.pr.vals.length)).toList = x.pr.vals := by kernel_rfl
theorem Pe.p_cut (x : Pe) : (x.arr.extract 7 (7 + (row8 x.cut).length)).toList = row8 x.cut := by kernel_rfl
theorem Pe.s_conf (x : Pe) (y : Idn) : putAt x.arr 1 y.arr.toList = (Pe.mk x.inc y x.pr x.cut x.rdy).arr := by kernel_rfl
theorem Pe.s_cut (x : Pe) (c : Nat → Nat) : putAt x.arr 7 (mbc c).toList = (Pe.mk x.inc x.conf x.pr c x.rdy).arr := by kernel_rfl
theorem Pe.s_rdy (x : Pe) (r : Bool) : x.arr.setIfInBounds 15 (.bool r) = (Pe.mk x.inc x.conf x.pr x.cut r).arr := by kernel_rfl
theorem Pe.all (x y : Pe) : putAt x.arr 0 y.arr.toList = y.arr := putAt_all _ _ rfl
theorem Idn.all (x y : Idn) : putAt x.arr 0 y.arr.toList = y.arr := putAt_all _ _ rfl
theorem mb_all (x y : Nat → Nat) : putAt (mbc x) 0 (mbc y).toList = mbc y := putAt_all _ _ rfl
theorem equalIdnIn (d : Nat) (a : Idn) (w : World) : (Op.equalIn (d + 1 + 1) 51 (.agg a.arr) (.agg a.arr)).run Tryz.prog w = .ok true w := by
 have hu : Tryz.prog.underlying 51 = some (.struct (Tryz.prog.fieldsOf 51)) := by kernel_rfl
 rw [run_equalIn_struct w (d + 1) 51 a.arr a.arr hu (by kernel_rfl)]
 apply fields_same
 have hf : (Tryz.prog.fieldsOf 51).toList.map (fun f => (f.name, f.type, f.offset)) = [("Epoch", 37, 0), ("Coord", 37, 1), ("Inc", 37, 2)] := by kernel_rfl
 intro f hmem
 have hm : (f.name, f.type, f.offset) ∈ (Tryz.prog.fieldsOf 51).toList.map (fun f => (f.name, f.type, f.offset)) := List.mem_map_of_mem (f := fun f : Field => (f.name, f.type, f.offset)) hmem
 rw [hf] at hm
 generalize f.name = fn at hm ⊢
 generalize f.type = ft at hm ⊢
 generalize f.offset = fo at hm ⊢
 simp only [List.mem_cons, List.not_mem_nil, or_false, Prod.mk.injEq] at hm
 rcases hm with ⟨rfl, rfl, rfl⟩ | ⟨rfl, rfl, rfl⟩ | ⟨rfl, rfl, rfl⟩
 ·exact ⟨by decide, .int .u32 (a.e : Int), by kernel_rfl, by simp [go_sem]⟩
 ·exact ⟨by decide, .int .u32 (a.c : Int), by kernel_rfl, by simp [go_sem]⟩
 ·exact ⟨by decide, .int .u32 (a.i : Int), by kernel_rfl, by simp [go_sem]⟩
structure Co where
 self : Int
 wait : Int
 own : Nat
 beat : Bt
 conf : Idn
 mem : Nat → Nat
 count : Nat → Nat
 ka : Option Addr
 kn : Nat
 kc : Nat
 pr : Idn
 want : Nat → Nat
 cut : Nat → Nat
 rdy : Bool
 peers : Nat → Pe
 epoch : Nat
def prs (f : Nat → Pe) : List Value := (f 0).vals ++ ((f 1).vals ++ ((f 2).vals ++ ((f 3).vals ++ ((f 4).vals ++ ((f 5).vals ++ ((f 6).vals ++ (f 7).vals))))))
def col (c : Co) : List Value := .int .i64 c.self :: .int .i64 c.wait :: .int .u32 (c.own : Int) :: (c.beat.vals ++ (c.conf.vals ++ (row8 c.mem ++ (row8 c.count ++ (.slice c.ka c.kn c.kc :: (c.pr.vals ++ (row8 c.want ++ (row8 c.cut ++ (.bool c.rdy :: (prs c.peers ++ [.int .u32 (c.epoch : Int)]))))))))))
def coc (c : Co) : Array Value := (col c).toArray
def noPe : Nat → Pe := fun _ => Pe.zero
def Co.zero : Co := ⟨0, 0, 0, Bt.zero, Idn.zero, noMb, noMb, none, 0, 0, Idn.zero, noMb, noMb, false, noPe, 0⟩
theorem coc_size (c : Co) : (coc c).size = 189 := rfl
theorem coc_one (c : Co) : (coc c).all (·.oneCell') = true := by kernel_rfl
theorem sizeCo : (Tryz.prog.info? 78).map (·.size) = some 189 := by kernel_rfl
theorem zeroCo : (Tryz.prog.info? 78).map (fun i => (i.zero, i.size)) = some (some (.agg (coc Co.zero)), 189) := by kernel_rfl
theorem Co.p_beat (c : Co) : ((coc c).extract 3 (3 + c.beat.vals.length)).toList = c.beat.vals := by kernel_rfl
theorem Co.p_conf (c : Co) : ((coc c).extract 20 (20 + c.conf.vals.length)).toList = c.conf.vals := by kernel_rfl
theorem Co.p_mem (c : Co) : ((coc c).extract 23 (23 + (row8 c.mem).length)).toList = (row8 c.mem) := by kernel_rfl
theorem Co.p_count (c : Co) : ((coc c).extract 31 (31 + (row8 c.count).length)).toList = (row8 c.count) := by kernel_rfl
theorem Co.p_pr (c : Co) : ((coc c).extract 40 (40 + c.pr.vals.length)).toList = c.pr.vals := by kernel_rfl
theorem Co.p_want (c : Co) : ((coc c).extract 43 (43 + (row8 c.want).length)).toList = (row8 c.want) := by kernel_rfl
theorem Co.p_cut (c : Co) : ((coc c).extract 51 (51 + (row8 c.cut).length)).toList = (row8 c.cut) := by kernel_rfl
theorem Co.p_peers (c : Co) : ((coc c).extract 60 (60 + (prs c.peers).length)).toList = (prs c.peers) := by kernel_rfl
theorem Co.get_count (c : Co) (i : Nat) (h : i < 8) : (coc c)[31 + i]? = some (.int .u32 (c.count i : Int)) := by
 obtain rfl | rfl | rfl | rfl | rfl | rfl | rfl | rfl : i = 0 ∨ i = 1 ∨ i = 2 ∨ i = 3 ∨ i = 4 ∨ i = 5 ∨ i = 6 ∨ i = 7 := by omega
 all_goals rfl
theorem Co.get_want (c : Co) (i : Nat) (h : i < 8) : (coc c)[43 + i]? = some (.int .u32 (c.want i : Int)) := by
 obtain rfl | rfl | rfl | rfl | rfl | rfl | rfl | rfl : i = 0 ∨ i = 1 ∨ i = 2 ∨ i = 3 ∨ i = 4 ∨ i = 5 ∨ i = 6 ∨ i = 7 := by omega
 all_goals rfl
theorem Co.p_peer (c : Co) (i : Nat) (h : i < 8) : ((coc c).extract (60 + i * 16) (60 + i * 16 + (c.peers i).vals.length)).toList = (c.peers i).vals := by
 obtain rfl | rfl | rfl | rfl | rfl | rfl | rfl | rfl : i = 0 ∨ i = 1 ∨ i = 2 ∨ i = 3 ∨ i = 4 ∨ i = 5 ∨ i = 6 ∨ i = 7 := by omega
 all_goals kernel_rfl
theorem Co.get_peer (c : Co) (i j : Nat) (h : i < 8) (hj : j < 16) : (coc c)[60 + i * 16 + j]? = (c.peers i).arr[j]? := by
 have e := congrArg (fun l : List Value => l[j]?) (Co.p_peer c i h)
 simp only [Array.toList_extract, List.extract_eq_take_drop, List.getElem?_take] at e
 rw [if_pos (by rw [Pe.vals_length]; omega), List.getElem?_drop, Array.getElem?_toList] at e
 rw [e]
 simp [Pe.arr]
theorem Co.get_pinc (c : Co) (i : Nat) (h : i < 8) : (coc c)[60 + i * 16]? = some (.int .u32 ((c.peers i).inc : Int)) := Co.get_peer c i 0 h (by decide)
theorem Co.s_beat (c : Co) (x : Bt) : putAt (coc c) 3 x.arr.toList = coc (⟨c.self, c.wait, c.own, x, c.conf, c.mem, c.count, c.ka, c.kn, c.kc, c.pr, c.want, c.cut, c.rdy, c.peers, c.epoch⟩ : Co) := by kernel_rfl
theorem Co.s_conf (c : Co) (x : Idn) : putAt (coc c) 20 x.arr.toList = coc (⟨c.self, c.wait, c.own, c.beat, x, c.mem, c.count, c.ka, c.kn, c.kc, c.pr, c.want, c.cut, c.rdy, c.peers, c.epoch⟩ : Co) := by kernel_rfl
theorem Co.s_mem (c : Co) (x : Nat → Nat) : putAt (coc c) 23 (mbc x).toList = coc (⟨c.self, c.wait, c.own, c.beat, c.conf, x, c.count, c.ka, c.kn, c.kc, c.pr, c.want, c.cut, c.rdy, c.peers, c.epoch⟩ : Co) := by kernel_rfl
theorem Co.s_count (c : Co) (x : Nat → Nat) : putAt (coc c) 31 (mbc x).toList = coc (⟨c.self, c.wait, c.own, c.beat, c.conf, c.mem, x, c.ka, c.kn, c.kc, c.pr, c.want, c.cut, c.rdy, c.peers, c.epoch⟩ : Co) := by kernel_rfl
theorem Co.s_pr (c : Co) (x : Idn) : putAt (coc c) 40 x.arr.toList = coc (⟨c.self, c.wait, c.own, c.beat, c.conf, c.mem, c.count, c.ka, c.kn, c.kc, x, c.want, c.cut, c.rdy, c.peers, c.epoch⟩ : Co) := by kernel_rfl
theorem Co.s_want (c : Co) (x : Nat → Nat) : putAt (coc c) 43 (mbc x).toList = coc (⟨c.self, c.wait, c.own, c.beat, c.conf, c.mem, c.count, c.ka, c.kn, c.kc, c.pr, x, c.cut, c.rdy, c.peers, c.epoch⟩ : Co) := by kernel_rfl
theorem Co.s_cut (c : Co) (x : Nat → Nat) : putAt (coc c) 51 (mbc x).toList = coc (⟨c.self, c.wait, c.own, c.beat, c.conf, c.mem, c.count, c.ka, c.kn, c.kc, c.pr, c.want, x, c.rdy, c.peers, c.epoch⟩ : Co) := by kernel_rfl
theorem Co.s_rdy (c : Co) (x : Bool) : (coc c).setIfInBounds 59 (.bool x) = coc (⟨c.self, c.wait, c.own, c.beat, c.conf, c.mem, c.count, c.ka, c.kn, c.kc, c.pr, c.want, c.cut, x, c.peers, c.epoch⟩ : Co) := by kernel_rfl
theorem Co.s_epoch (c : Co) (x : Nat) : (coc c).setIfInBounds 188 (.int .u32 (x : Int)) = coc (⟨c.self, c.wait, c.own, c.beat, c.conf, c.mem, c.count, c.ka, c.kn, c.kc, c.pr, c.want, c.cut, c.rdy, c.peers, x⟩ : Co) := by kernel_rfl
theorem Co.s_kept (c : Co) (a : Option Addr) (n k : Nat) : (coc c).setIfInBounds 39 (.slice a n k) = coc (⟨c.self, c.wait, c.own, c.beat, c.conf, c.mem, c.count, a, n, k, c.pr, c.want, c.cut, c.rdy, c.peers, c.epoch⟩ : Co) := by kernel_rfl
theorem Co.all (x y : Co) : putAt (coc x) 0 (coc y).toList = coc y := putAt_all _ _ rfl
def putP (f : Nat → Pe) (i : Nat) (x : Pe) : Nat → Pe := fun j => if j = i then x else f j
theorem Co.s_peer (c : Co) (i : Nat) (x : Pe) (h : i < 8) : putAt (coc c) (60 + i * 16) x.arr.toList = coc (⟨c.self, c.wait, c.own, c.beat, c.conf, c.mem, c.count, c.ka, c.kn, c.kc, c.pr, c.want, c.cut, c.rdy, putP c.peers i x, c.epoch⟩ : Co) := by
 obtain rfl | rfl | rfl | rfl | rfl | rfl | rfl | rfl : i = 0 ∨ i = 1 ∨ i = 2 ∨ i = 3 ∨ i = 4 ∨ i = 5 ∨ i = 6 ∨ i = 7 := by omega
 all_goals kernel_rfl
section
variable {H : Type} {enc : TypeId × Value → H} {W : World} {base : Nat} {spare : Nat → Bool} {held : Bool}
def Pe.fit (x : Pe) : Prop := x.inc < 4294967296 ∧ (x.conf.e < 4294967296 ∧ x.conf.c < 4294967296 ∧ x.conf.i < 4294967296) ∧ (x.pr.e < 4294967296 ∧ x.pr.c < 4294967296 ∧ x.pr.i < 4294967296) ∧ ∀ i, x.cut i < 4294967296
def Idn.fit (x : Idn) : Prop := x.e < 4294967296 ∧ x.c < 4294967296 ∧ x.i < 4294967296
structure Co.fit (c : Co) : Prop where
 own : c.own < 4294967296
 beat : c.beat.ok
 conf : c.conf.fit
 mem : ∀ i, c.mem i < 4294967296
 count : ∀ i, c.count i < 4294967296
 pr : c.pr.fit
 want : ∀ i, c.want i < 4294967296
 cut : ∀ i, c.cut i < 4294967296
 peers : ∀ i, (c.peers i).fit
 epoch : c.epoch < 4294967296
end
end Go.Proofs.YthgfpdidilolgaaGreat
namespace Go.Proofs.YthgfpdidilolgaaGreat
set_option maxRecDepth 10000
open Go.RowKit Go.Sort
def Pk.conf (p : Pk) : Idn := ⟨p.n 2, p.n 3, p.n 4⟩
def Pk.pr (p : Pk) : Idn := ⟨p.n 21, p.n 22, p.n 23⟩
def Pk.count (p : Pk) : Nat → Nat := fun i => p.n (13 + i)
def Pk.want (p : Pk) : Nat → Nat := fun i => p.n (24 + i)
theorem Pk.p_conf (p : Pk) : ((pkc p).extract 2 (2 + p.conf.vals.length)).toList = p.conf.vals := by kernel_rfl
theorem Pk.p_pr (p : Pk) : ((pkc p).extract 21 (21 + p.pr.vals.length)).toList = p.pr.vals := by kernel_rfl
theorem Pk.p_count (p : Pk) : ((pkc p).extract 13 (13 + (row8 p.count).length)).toList = row8 p.count := by kernel_rfl
theorem Pk.p_want (p : Pk) : ((pkc p).extract 24 (24 + (row8 p.want).length)).toList = row8 p.want := by kernel_rfl
theorem Pk.get_inc (p : Pk) : (pkc p)[1]? = some (.int .u32 (p.n 1 : Int)) := rfl
def told (p : Pk) : Pe := ⟨p.n 1, p.conf, p.pr, p.count, p.r⟩
def togP (x y : Pe) : Pe :=
 if cmpId y.conf x.conf = 1 then ⟨x.inc, y.conf, x.pr, y.cut, x.rdy || y.rdy⟩
 else if cmpId y.conf x.conf = 0 then ⟨x.inc, x.conf, x.pr, maxC x.cut y.cut, x.rdy || y.rdy⟩
 else ⟨x.inc, x.conf, x.pr, x.cut, x.rdy || y.rdy⟩
def ordP (x y : Pe) : Int := orI [cmpN y.inc x.inc, cmpId y.pr x.pr]
def updP (x y : Pe) : Pe := if ordP x y = -1 then x else if ordP x y = 1 then y else togP x y
theorem union_two (a b : Nat → Nat) : unionL [a, b] = maxC a b := by
 funext i
 simp [unionL, maxC, noMb]
def adoptB (pr : Idn) (self : Int) (inc : Nat) (p : Pk) : Bool := decide (0 < cmpId p.pr pr) && hasM p.want self inc
def oth (m : Nat → Nat) (s : Int) : List Nat := (lst m).filter fun d => !decide ((d : Int) = s)
theorem mem_oth (m : Nat → Nat) (s : Int) (d : Nat) : d ∈ oth m s ↔ d < 8 ∧ m d ≠ 0 ∧ (d : Int) ≠ s := by
 simp [oth, lst, lstTo]
 intro _
 exact ⟨fun h => ⟨h.2, h.1⟩, fun h => ⟨h.2, h.1⟩⟩
theorem oth_len (m : Nat → Nat) (s : Int) : (oth m s).length ≤ 8 := Nat.le_trans (List.length_filter_le _ _) (lst_len m)
def matB (c : Co) (d : Nat) : Bool := decide ((c.peers d).inc = c.want d)
def eachB (c : Co) (q : Pe → Bool) : Bool := (oth c.want c.self).all fun d => matB c d && q (c.peers d)
def allB (c : Co) : Bool := eachB c fun x => Idn.same x.pr c.pr
def doneQ (c : Co) (x : Pe) : Bool := (Idn.same x.pr c.pr && x.rdy) || Idn.same x.conf c.pr
def doneB (c : Co) : Bool := eachB c (doneQ c)
def goesB (c : Co) (d : Nat) : Bool := (matB c d && Idn.same (c.peers d).conf c.conf) && Idn.same (c.peers d).pr c.pr
def targS (c : Co) (u : Nat → Nat) (d : Nat) : Nat → Nat := if goesB c d = true then maxC u (c.peers d).cut else u
def targL (c : Co) (L : List Nat) : Nat → Nat := L.foldl (targS c) c.cut
def targC (c : Co) : Nat → Nat := targL c (oth c.want c.self)
theorem targL_take (c : Co) (L : List Nat) (j d : Nat) (h : L[j]? = some d) : targL c (L.take (j + 1)) = targS c (targL c (L.take j)) d := by
 rw [List.take_add_one, h]
 simp [targL, List.foldl_append]
def aboveB (c : Co) (reach : Nat → Nat) (d : Nat) : Bool := decide ((c.peers d).inc = reach d) && decide (0 < cmpId (c.peers d).pr c.pr)
def mineB (c : Co) (reach : Nat → Nat) : Bool := decide ((c.pr.c : Int) = c.self) && decide (c.pr.i = c.own) && mbSame c.want reach
def standB (c : Co) (reach : Nat → Nat) : Bool := mineB c reach && !((oth reach c.self).any (aboveB c reach))
def proB (c : Co) (reach : Nat → Nat) : Bool := !(lst reach).isEmpty && decide ((((lst reach).headD 0 : Nat) : Int) = c.self) && !standB c reach && !decide (c.epoch = 4294967295)
def propI (c : Co) (reach : Nat → Nat) : Idn := if proB c reach = true then ⟨c.epoch + 1, c.self.toNat, c.own⟩ else Idn.zero
end Go.Proofs.YthgfpdidilolgaaGreat
