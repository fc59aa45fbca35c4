/-
  Blocks of many cells, read and written whole or in part, as a walk meets them; worlds in which all blocks but some are kept.
  No condition.
-/
import Derived.WalkKit
import Derived.Test.YtmnpbjaofemelaaProg
import Derived.Below
import Derived.OwnWalk
import Derived.Laws.MakeOwn
import Derived.Deep.QuietTactic
import Derived.BigQuiet
import Derived.Lib.QuietBelow
import Derived.Deep.MidRow
import Derived.Deep.WholeRow
import Derived.Deep.RegionHeld
import Derived.Deep.CutRange
import Derived.Laws.ResultCell
import Derived.Laws.AppendOwn
import Derived.Deep.AppendSrc
namespace Go.Proofs.Ytmnpbjaofemelaa
set_option maxRecDepth 10000
open Go.RowKit Go.Sort

def Blk (B : Nat) (C : Array Value) (T : TypeId) (w : World) : Prop := w.heap[B]? = some (.cells C T (0, 0))

theorem Blk.lt {B : Nat} {C : Array Value} {T : TypeId} {w : World} (h : Blk B C T w) : B < w.heap.size := by
  rcases Nat.lt_or_ge B w.heap.size with h' | h'
  · exact h'
  · unfold Blk at h; simp [Array.getElem?_eq_none h'] at h
theorem Blk.below {B : Nat} {C : Array Value} {T : TypeId} {w w' : World} (h : Blk B C T w) (hb : Below w.heap.size w w') : Blk B C T w' := (hb.block B h.lt).trans h
theorem blk_new (w : World) (C : Array Value) (T : TypeId) : Blk w.heap.size C T (w.alloc (.cells C T)) := heap_alloc_new w _
theorem Blk.alloc {B : Nat} {C : Array Value} {T : TypeId} {w : World} (h : Blk B C T w) (o : Obj) : Blk B C T (w.alloc o) := (Below.heap_alloc w o B h.lt).trans h
theorem below_box (w : World) (o : Obj) : Below w.heap.size w (w.alloc o) := (Below.refl _ _).alloc (Nat.le_refl _) o
theorem Blk.drew {B : Nat} {C : Array Value} {T : TypeId} {w : World} (h : Blk B C T w) : Blk B C T w.drew := h
theorem Blk.eq {B : Nat} {C D : Array Value} {T U : TypeId} {w : World} (h : Blk B C T w) (k : Blk B D U w) : C = D ∧ T = U := by
  unfold Blk at h k
  rw [h] at k
  simpa using k

theorem load_blk {P : Program} {ops : Array Oper} {rest : List Oper} {o : Oper} {a : Act} {w : World} {Q : Exit → Act → World → Prop} (hgd : o.guard = none) (ty : TypeId) (x : Operand) (ho : o.op = .load ty x)
    {B : Nat} {C : Array Value} {T : TypeId} (hB : Blk B C T w) (hx : a.eval x = .pointer (some ⟨B, 0, none⟩)) {d : TypeDesc} (hu : P.underlying ty = some d) (hd : d.isRow = true) (hi : (P.info? ty).map (·.size) = some C.size)
    (h : wpList P ops Q rest (a.put o.dst (.agg C)) w) : wpList P ops Q (o :: rest) a w :=
  wpList_load_row hgd ty x ho B hx T C (0, 0) d hB hu (by cases d <;> first | rfl | exact hd) hi h

theorem load_want {P : Program} {ops : Array Oper} {rest : List Oper} {o : Oper} {a : Act} {w : World} {Q : Exit → Act → World → Prop} (hw : Region.wanted o (yielded ops a.tmps) = true) (ty : TypeId) (x : Operand) (ho : o.op = .load ty x)
    {B : Nat} {C : Array Value} {T : TypeId} (hB : Blk B C T w) (hx : a.eval x = .pointer (some ⟨B, 0, none⟩)) {d : TypeDesc} (hu : P.underlying ty = some d) (hd : d.isRow = true) (hi : (P.info? ty).map (·.size) = some C.size)
    (h : wpList P ops Q rest (a.put o.dst (.agg C)) w) : wpList P ops Q (o :: rest) a w :=
  wpList_step fun _ hK => by rw [if_pos hw]; exact wp_load_row ty x ho B hx T C (0, 0) d hB hu (by cases d <;> first | rfl | exact hd) hi (hK _ _ h)

theorem load_part {P : Program} {ops : Array Oper} {rest : List Oper} {op : Oper} {a : Act} {w : World} {Q : Exit → Act → World → Prop} (hgd : op.guard = none) (ty : TypeId) (x : Operand) (ho : op.op = .load ty x)
    {B o : Nat} {C : Array Value} {T : TypeId} (hB : Blk B C T w) (hx : a.eval x = .pointer (some ⟨B, o, none⟩)) (cs : List Value) (hcs : (C.extract o (o + cs.length)).toList = cs) {d : TypeDesc} (hu : P.underlying ty = some d) (hd : d.isRow = true) (hi : (P.info? ty).map (·.size) = some cs.length)
    (h : wpList P ops Q rest (a.put op.dst (.agg cs.toArray)) w) : wpList P ops Q (op :: rest) a w :=
  wpList_load_mid hgd ty x ho B o hx cs d (by have := World.rangeAt_of_block hB o cs.length; rw [hcs] at this; exact this) hu hd hi h

theorem load_wpart {P : Program} {ops : Array Oper} {rest : List Oper} {op : Oper} {a : Act} {w : World} {Q : Exit → Act → World → Prop} (hw : Region.wanted op (yielded ops a.tmps) = true) (ty : TypeId) (x : Operand) (ho : op.op = .load ty x)
    {B o : Nat} {C : Array Value} {T : TypeId} (hB : Blk B C T w) (hx : a.eval x = .pointer (some ⟨B, o, none⟩)) (cs : List Value) (hcs : (C.extract o (o + cs.length)).toList = cs) {d : TypeDesc} (hu : P.underlying ty = some d) (hd : d.isRow = true) (hi : (P.info? ty).map (·.size) = some cs.length)
    (h : wpList P ops Q rest (a.put op.dst (.agg cs.toArray)) w) : wpList P ops Q (op :: rest) a w :=
  wpList_step fun _ hK => by
    rw [if_pos hw]
    exact wp_load_mid ty x ho B o hx cs d (by have := World.rangeAt_of_block hB o cs.length; rw [hcs] at this; exact this) hu hd hi (hK _ _ h)

/- A load of cells that lie at a place of which only they are known. -/
theorem load_range {P : Program} {ops : Array Oper} {rest : List Oper} {op : Oper} {a : Act} {w : World} {Q : Exit → Act → World → Prop} (hgd : op.guard = none) (ty : TypeId) (x : Operand) (ho : op.op = .load ty x)
    {B o : Nat} (cs : List Value) (hr : w.rangeAt B o cs) (hx : a.eval x = .pointer (some ⟨B, o, none⟩)) {d : TypeDesc} (hu : P.underlying ty = some d) (hd : d.isRow = true) (hi : (P.info? ty).map (·.size) = some cs.length)
    (h : wpList P ops Q rest (a.put op.dst (.agg cs.toArray)) w) : wpList P ops Q (op :: rest) a w :=
  wpList_load_mid hgd ty x ho B o hx cs d hr hu hd hi h

theorem store_new {P : Program} {ops : Array Oper} {rest : List Oper} {o : Oper} {a : Act} {w : World} {Q : Exit → Act → World → Prop} (hgd : o.guard = none) (ty : TypeId) (x y : Operand) (ho : o.op = .store ty x y)
    {C cells : Array Value} {T : TypeId} (hx : a.eval x = .pointer (some ⟨w.heap.size, 0, none⟩)) (hy : a.eval y = .agg cells) (hi : (P.info? ty).map (·.size) = some cells.size) (hs : C.size = cells.size) (h1 : cells.all (·.oneCell') = true)
    (h : wpList P ops Q rest (a.put o.dst undef) (w.alloc (.cells cells T))) : wpList P ops Q (o :: rest) a (w.alloc (.cells C T)) :=
  wpList_store_row hgd ty x y ho w.heap.size cells hx hy T C (heap_alloc_new w _) hi hs h1 (by rw [World.setRow_alloc_new]; exact h)

theorem Blk.setRow {B : Nat} {C : Array Value} {T : TypeId} {w : World} (h : Blk B C T w) (D : Array Value) : Blk B D T (w.setRow B D) := by
  unfold Blk World.setRow at *
  simp [Array.getElem?_modify, h]

theorem Blk.setRow_other {A B : Nat} {C : Array Value} {T : TypeId} {w : World} (h : Blk A C T w) (hne : A ≠ B) (D : Array Value) : Blk A C T (w.setRow B D) := by
  unfold Blk World.setRow at *
  simp only [Array.getElem?_modify]
  rw [if_neg (fun e => hne e.symm)]
  exact h

theorem below_setRow {A B : Nat} {w0 w : World} (h : Below A w0 w) (hA : A ≤ B) (D : Array Value) : Below A w0 (w.setRow B D) := by
  refine h.trans ⟨rfl, rfl, rfl, by simp, fun k hk => ?_⟩
  simp only [World.setRow, Array.getElem?_modify]
  rw [if_neg (by omega)]

theorem store_blk {P : Program} {ops : Array Oper} {rest : List Oper} {o : Oper} {a : Act} {w : World} {Q : Exit → Act → World → Prop} (hgd : o.guard = none) (ty : TypeId) (x y : Operand) (ho : o.op = .store ty x y)
    {B : Nat} {C cells : Array Value} {T : TypeId} (hB : Blk B C T w) (hx : a.eval x = .pointer (some ⟨B, 0, none⟩)) (hy : a.eval y = .agg cells) (hi : (P.info? ty).map (·.size) = some cells.size) (hs : C.size = cells.size) (h1 : cells.all (·.oneCell') = true)
    (h : wpList P ops Q rest (a.put o.dst undef) (w.setRow B cells)) : wpList P ops Q (o :: rest) a w :=
  wpList_store_row hgd ty x y ho B cells hx hy T C hB hi hs h1 h

theorem Blk.setRow_same {B : Nat} {C : Array Value} {T : TypeId} {w : World} (h : Blk B C T w) : w.setRow B C = w := by
  unfold Blk at h
  have e : (w.setRow B C).heap = w.heap := by
    simp only [World.setRow]
    apply Array.ext_getElem?
    intro i
    rw [Array.getElem?_modify]
    by_cases hi : B = i
    · subst hi; simp [h]
    · simp [hi]
  cases w
  simp only [World.setRow] at e ⊢
  rw [e]

theorem store_same {P : Program} {ops : Array Oper} {rest : List Oper} {o : Oper} {a : Act} {w : World} {Q : Exit → Act → World → Prop} (hgd : o.guard = none) (ty : TypeId) (x y : Operand) (ho : o.op = .store ty x y)
    {B : Nat} {C : Array Value} {T : TypeId} (hB : Blk B C T w) (hx : a.eval x = .pointer (some ⟨B, 0, none⟩)) (hy : a.eval y = .agg C) (hi : (P.info? ty).map (·.size) = some C.size) (h1 : C.all (·.oneCell') = true)
    (h : wpList P ops Q rest (a.put o.dst undef) w) : wpList P ops Q (o :: rest) a w :=
  wpList_store_row hgd ty x y ho B C hx hy T C hB hi rfl h1 (by rw [hB.setRow_same]; exact h)

def putAt (C : Array Value) (o : Nat) : List Value → Array Value
  | [] => C
  | v :: r => putAt (C.setIfInBounds o v) (o + 1) r

theorem putAt_size (o : Nat) (vs : List Value) : ∀ (C : Array Value), (putAt C o vs).size = C.size := by
  induction vs generalizing o with
  | nil => intro C; rfl
  | cons v r ih => intro C; show (putAt (C.setIfInBounds o v) (o + 1) r).size = C.size; rw [ih]; simp

/- What lies where behind a part is written. -/
theorem putAt_get (vs : List Value) : ∀ (o : Nat) (C : Array Value) (j : Nat), o + vs.length ≤ C.size → (putAt C o vs)[j]? = if o ≤ j ∧ j < o + vs.length then vs[j - o]? else C[j]? := by
  induction vs with
  | nil =>
    intro o C j _
    rw [if_neg (by simp only [List.length_nil]; omega)]
    rfl
  | cons v r ih =>
    intro o C j h
    show (putAt (C.setIfInBounds o v) (o + 1) r)[j]? = _
    simp only [List.length_cons] at h
    rw [ih (o + 1) _ j (by simp; omega)]
    by_cases h1 : j = o
    · subst h1
      rw [if_neg (by omega), if_pos (by simp only [List.length_cons]; omega), Array.getElem?_setIfInBounds, if_pos rfl, if_pos (by omega), Nat.sub_self]
      rfl
    · by_cases h2 : o + 1 ≤ j ∧ j < o + 1 + r.length
      · rw [if_pos h2, if_pos (by simp only [List.length_cons]; omega), show j - o = (j - (o + 1)) + 1 by omega]
        rfl
      · rw [if_neg h2, if_neg (by simp only [List.length_cons]; omega), Array.getElem?_setIfInBounds, if_neg (fun e => h1 e.symm)]

theorem putAt_all (C D : Array Value) (h : C.size = D.size) : putAt C 0 D.toList = D := by
  apply Array.ext_getElem?
  intro j
  rw [putAt_get D.toList 0 C j (by simp [h])]
  by_cases hj : j < D.size
  · rw [if_pos (by simp; omega), Nat.sub_zero, Array.getElem?_toList]
  · rw [if_neg (by simp; omega), Array.getElem?_eq_none (by omega), Array.getElem?_eq_none (by omega)]

theorem Blk.setCells {B : Nat} {T : TypeId} : ∀ (vs : List Value) (o : Nat) {C : Array Value} {w : World}, Blk B C T w → Blk B (putAt C o vs) T (w.setCells B o vs)
  | [], _, _, _, h => h
  | v :: r, o, C, w, h => Blk.setCells r (o + 1) (heap_setCell_same w B o C T v h)

theorem Blk.setCells_other {A B : Nat} {T : TypeId} (hne : A ≠ B) : ∀ (vs : List Value) (o : Nat) {C : Array Value} {w : World}, Blk A C T w → Blk A C T (w.setCells B o vs)
  | [], _, _, _, h => h
  | v :: r, o, _, w, h => Blk.setCells_other hne r (o + 1) ((heap_setCell_other w ⟨B, o, none⟩ A v hne).trans h)

theorem below_cells {A B : Nat} (hA : A ≤ B) {w0 : World} : ∀ (vs : List Value) (o : Nat) {w : World}, Below A w0 w → Below A w0 (w.setCells B o vs)
  | [], _, _, h => h
  | _ :: r, o, _, h => below_cells hA r (o + 1) (h.setCell (p := ⟨B, o, none⟩) hA _)

theorem Blk.range {B : Nat} {C : Array Value} {T : TypeId} {w : World} (h : Blk B C T w) (o : Nat) (cs : List Value) (hcs : (C.extract o (o + cs.length)).toList = cs) : w.rangeAt B o cs := by
  have := World.rangeAt_of_block h o cs.length; rw [hcs] at this; exact this
theorem Blk.whole {B : Nat} {C : Array Value} {T : TypeId} {w : World} (h : Blk B C T w) : w.rangeAt B 0 C.toList := fun j v hv => by
  rw [cell_of_row w B (0 + j) C T (0, 0) h, Nat.zero_add]
  simpa using hv

theorem Blk.there {B : Nat} {C : Array Value} {T : TypeId} {w : World} (h : Blk B C T w) (o n : Nat) (hn : o + n ≤ C.size) : w.there B o n := fun j hj => by
  refine ⟨?_, frozen_of_row w B _ C T h⟩
  rw [cell_of_row w B (o + j) C T (0, 0) h, Array.getElem?_eq_getElem (by omega)]
  rfl

theorem Blk.cell {B : Nat} {C : Array Value} {T : TypeId} {w : World} (h : Blk B C T w) (o : Nat) (v : Value) (hv : C[o]? = some v) : w.cell? ⟨B, o, none⟩ = some v := by
  rw [cell_of_row w B o C T (0, 0) h]; exact hv
theorem Blk.free {B : Nat} {C : Array Value} {T : TypeId} {w : World} (h : Blk B C T w) (o : Nat) : w.frozen? ⟨B, o, none⟩ = false := frozen_of_row w B _ C T h
theorem Blk.set {B : Nat} {C : Array Value} {T : TypeId} {w : World} (h : Blk B C T w) (o : Nat) (v : Value) : Blk B (C.setIfInBounds o v) T (w.setCell ⟨B, o, none⟩ v) := heap_setCell_same w B o C T v h
theorem Blk.set_other {A B : Nat} {C : Array Value} {T : TypeId} {w : World} (h : Blk A C T w) (hne : A ≠ B) (o : Nat) (v : Value) : Blk A C T (w.setCell ⟨B, o, none⟩ v) := (heap_setCell_other w ⟨B, o, none⟩ A v hne).trans h

/- All blocks but those of a list are as they were. -/
structure Kp (S : List Nat) (w w' : World) : Prop where
  os : w'.os = w.os
  tape : w'.tape = w.tape
  output : w'.output = w.output
  size : w.heap.size ≤ w'.heap.size
  block : ∀ k, k < w.heap.size → k ∉ S → w'.heap[k]? = w.heap[k]?

theorem Kp.refl (S : List Nat) (w : World) : Kp S w w := ⟨rfl, rfl, rfl, Nat.le_refl _, fun _ _ _ => rfl⟩
theorem Kp.trans {S : List Nat} {u v w : World} (h : Kp S u v) (k : Kp S v w) : Kp S u w :=
  ⟨k.os.trans h.os, k.tape.trans h.tape, k.output.trans h.output, Nat.le_trans h.size k.size, fun i hi hb => (k.block i (Nat.lt_of_lt_of_le hi h.size) hb).trans (h.block i hi hb)⟩
theorem Kp.mono {S S' : List Nat} {w w' : World} (h : Kp S w w') (hs : ∀ k ∈ S, k ∈ S') : Kp S' w w' := ⟨h.os, h.tape, h.output, h.size, fun k hk hn => h.block k hk (fun hm => hn (hs k hm))⟩
theorem Kp.of_below {S : List Nat} {w w' : World} (h : Below w.heap.size w w') : Kp S w w' := ⟨h.os, h.tape, h.output, h.size, fun k hk _ => h.block k hk⟩
theorem Kp.below {S : List Nat} {B : Nat} {w w' : World} (h : Kp S w w') (hS : ∀ k ∈ S, B ≤ k) (hw : B ≤ w.heap.size) : Below B w w' :=
  ⟨h.os, h.tape, h.output, h.size, fun k hk => h.block k (by omega) (fun hm => by have := hS k hm; omega)⟩
theorem Kp.alloc (S : List Nat) (w : World) (o : Obj) : Kp S w (w.alloc o) := Kp.of_below ((Below.refl _ _).alloc (Nat.le_refl _) o)
theorem Kp.drew (S : List Nat) (w : World) : Kp S w w.drew := ⟨rfl, rfl, rfl, Nat.le_refl _, fun _ _ _ => rfl⟩
theorem Kp.setCell {S : List Nat} (b o : Nat) (w : World) (v : Value) (hb : b ∈ S) : Kp S w (w.setCell ⟨b, o, none⟩ v) :=
  ⟨rfl, rfl, rfl, by simp [World.setCell], fun k _ hk => Below.heap_setCell _ _ _ _ (fun e => hk (by rw [e]; exact hb))⟩
theorem Kp.setCells {S : List Nat} (b : Nat) (hb : b ∈ S) : ∀ (vs : List Value) (o : Nat) (w : World), Kp S w (w.setCells b o vs)
  | [], _, w => Kp.refl S w
  | v :: r, o, w => (Kp.setCell b o w v hb).trans (Kp.setCells b hb r (o + 1) _)
theorem Kp.setRow {S : List Nat} (b : Nat) (hb : b ∈ S) (w : World) (D : Array Value) : Kp S w (w.setRow b D) :=
  ⟨rfl, rfl, rfl, by simp, fun k _ hk => by simp only [World.setRow, Array.getElem?_modify]; rw [if_neg (fun e => hk (by rw [← e]; exact hb))]⟩
theorem Blk.kp {A : Nat} {S : List Nat} {C : Array Value} {T : TypeId} {w w' : World} (h : Blk A C T w) (hb : Kp S w w') (hne : A ∉ S) : Blk A C T w' := (hb.block A h.lt hne).trans h
theorem Kp.below1 {b B : Nat} {w w' : World} (h : Kp [b] w w') (hb : B ≤ b) (hw : B ≤ w.heap.size) : Below B w w' := h.below (fun k hk => by simp at hk; omega) hw
theorem Blk.kp1 {A b : Nat} {C : Array Value} {T : TypeId} {w w' : World} (h : Blk A C T w) (hb : Kp [b] w w') (hne : A ≠ b) : Blk A C T w' := h.kp hb (by simpa using hne)
/- A block that was made since may be written, too. -/
theorem Kp.since {S : List Nat} {b : Nat} {u w w' : World} (h : Kp S u w) (k : Kp (b :: S) w w') (hb : u.heap.size ≤ b) : Kp S u w' :=
  ⟨k.os.trans h.os, k.tape.trans h.tape, k.output.trans h.output, Nat.le_trans h.size k.size, fun i hi hs => (k.block i (Nat.lt_of_lt_of_le hi h.size) (by simp only [List.mem_cons, not_or]; exact ⟨by omega, hs⟩)).trans (h.block i hi hs)⟩

theorem Kp.new {S : List Nat} {b : Nat} {u w w' : World} (h : Kp S u w) (k : Kp [b] w w') (hb : u.heap.size ≤ b) : Kp S u w' := h.since (b := b) (k.mono (fun i hi => by simp at hi; simp [hi])) hb

/- A store of many cells into a part of a block: the world behind it is a new name. -/
theorem store_part {P : Program} {ops : Array Oper} {rest : List Oper} {o : Oper} {a : Act} {w : World} {Q : Exit → Act → World → Prop} (hgd : o.guard = none) (ty : TypeId) (x y : Operand) (ho : o.op = .store ty x y)
    {B off : Nat} {C cells : Array Value} {T : TypeId} (hB : Blk B C T w) (hx : a.eval x = .pointer (some ⟨B, off, none⟩)) (hy : a.eval y = .agg cells) (hi : (P.info? ty).map (·.size) = some cells.size) (hs : off + cells.size ≤ C.size) (h1 : cells.all (·.oneCell') = true)
    (h : ∀ W, Blk B (putAt C off cells.toList) T W → Kp [B] w W → wpList P ops Q rest (a.put o.dst undef) W) : wpList P ops Q (o :: rest) a w :=
  wpList_store_mid hgd ty x y ho B off cells hx hy (hB.there off cells.size hs) hi h1 (h _ (hB.setCells cells.toList off) (Kp.setCells B (by simp) cells.toList off w))

/- A store of one cell into a block: the world behind it is a new name. -/
theorem run_storeVar_one {P : Program} (w : World) (b o : Nat) (ty : TypeId) (v : Value) (hv : v.cells = #[v]) (h1 : v.oneCell' = true) (ht : w.there b o 1) (hi : (P.info? ty).map (·.size) = some 1) :
    (storeVar ty ⟨b, o, none⟩ v).run P w = .ok () (w.setCell ⟨b, o, none⟩ v) := by
  have := run_storeCells_cells (P := P) b o [v] 0 w (fun j hj => by simpa using (ht j (by simpa using hj)).1) (fun j hj => by simpa using (ht j (by simpa using hj)).2) (fun u hu => by simp at hu; rw [hu]; exact h1)
  cases hq : P.info? ty with
  | none => simp [hq] at hi
  | some i =>
    have hs : i.size = 1 := by simpa [hq] using hi
    simp only [Nat.add_zero] at this
    simp [storeVar, sizeOf, typeInfo, hq, hv, hs, this]
    rfl
theorem wp_store_one {P : Program} {op : Oper} {a : Act} {w : World} {K : Act → World → Prop} {Q : Exit → Act → World → Prop} (ty : TypeId) (x y : Operand) (ho : op.op = .store ty x y)
    {B off : Nat} {C : Array Value} {T : TypeId} (v : Value) (hB : Blk B C T w) (hx : a.eval x = .pointer (some ⟨B, off, none⟩)) (hy : a.eval y = v) (hv : v.cells = #[v]) (h1 : v.oneCell' = true) (hi : (P.info? ty).map (·.size) = some 1) (hs : off + 1 ≤ C.size)
    (h : ∀ W, Blk B (C.setIfInBounds off v) T W → Kp [B] w W → K (a.put op.dst undef) W) : op.wp P a w K Q := by
  unfold Oper.wp execOp
  simp only [ho, hx, hy, Instr.storeAt, Instr.sureAddr, Sem.run_bind, Sem.run_pure, Result.andThen_ok, run_storeVar_one w B off ty v hv h1 (hB.there off 1 hs) hi]
  exact h _ (hB.set off v) (Kp.setCell B off w v (by simp))
theorem store_one {P : Program} {ops : Array Oper} {rest : List Oper} {op : Oper} {a : Act} {w : World} {Q : Exit → Act → World → Prop} (hgd : op.guard = none) (ty : TypeId) (x y : Operand) (ho : op.op = .store ty x y)
    {B off : Nat} {C : Array Value} {T : TypeId} (v : Value) (hB : Blk B C T w) (hx : a.eval x = .pointer (some ⟨B, off, none⟩)) (hy : a.eval y = v) (hv : v.cells = #[v]) (h1 : v.oneCell' = true) (hi : (P.info? ty).map (·.size) = some 1) (hs : off + 1 ≤ C.size)
    (h : ∀ W, Blk B (C.setIfInBounds off v) T W → Kp [B] w W → wpList P ops Q rest (a.put op.dst undef) W) : wpList P ops Q (op :: rest) a w :=
  wpList_plain hgd fun _ hK => wp_store_one ty x y ho v hB hx hy hv h1 hi hs (fun W b k => hK _ _ (h W b k))

/- A block of a type that is all zero, laid as a new variable. -/
theorem alloc_zero {P : Program} {T : TypeId} {C : Array Value} {n : Nat} (hz : (P.info? T).map (fun i => (i.zero, i.size)) = some (some (.agg C), n)) {ops : Array Oper} {rest : List Oper} {o : Oper} {a : Act} {w : World} {Q : Exit → Act → World → Prop} (hgd : o.guard = none) (ho : o.op = .alloc T)
    (h : wpList P ops Q rest (a.put o.dst (.pointer (some ⟨w.heap.size, 0, none⟩))) (w.alloc (.cells C T))) : wpList P ops Q (o :: rest) a w :=
  wpList_plain hgd fun _ hK => by
    have hz := (zero_of_info hz).1
    have hk := hK _ _ h
    unfold Oper.wp execOp
    simp only [ho, Instr.alloc, Sem.run_bind, hz, Result.andThen_ok]
    exact hk
theorem wp_alloc_zero {P : Program} {T : TypeId} {C : Array Value} {n : Nat} (hz : (P.info? T).map (fun i => (i.zero, i.size)) = some (some (.agg C), n)) {o : Oper} {a : Act} {w : World} {K : Act → World → Prop} {Q : Exit → Act → World → Prop} (ho : o.op = .alloc T)
    (h : K (a.put o.dst (.pointer (some ⟨w.heap.size, 0, none⟩))) (w.alloc (.cells C T))) : o.wp P a w K Q := by
  have hz := (zero_of_info hz).1
  unfold Oper.wp execOp
  simp only [ho, Instr.alloc, Sem.run_bind, hz, Result.andThen_ok]
  exact h
theorem build_zero {P : Program} {T : TypeId} {C : Array Value} (hz : P.built T [] = some C) {ops : Array Oper} {rest : List Oper} {o : Oper} {a : Act} {w : World} {Q : Exit → Act → World → Prop} (hgd : o.guard = none) (ho : o.op = .build T #[])
    (h : wpList P ops Q rest (a.put o.dst (.agg C)) w) : wpList P ops Q (o :: rest) a w :=
  wpList_build hgd T #[] ho (by simp [hz]) (by simpa [hz] using h)

/- A load of a whole block, or of cells at a place, in a region that only reads. -/
theorem quiet_load {P : Program} {o : Oper} {a : Act} {C : World → Prop} {K : Act → Prop} {x : Operand} {ty : TypeId} {B : Nat} {D : Array Value} {T : TypeId} (ho : o.op = .load ty x) (hx : a.eval x = .pointer (some ⟨B, 0, none⟩)) (hC : ∀ w, C w → Blk B D T w) {d : TypeDesc} (hu : P.underlying ty = some d) (hd : d.isRow = true) (hi : (P.info? ty).map (·.size) = some D.size)
    (h : K (a.put o.dst (.agg D))) : o.quiet P a C K := by
  refine ⟨_, fun w hw => ?_, h⟩
  unfold Oper.quietAt execOp
  simp only [ho, hx, Instr.loadAt, Instr.sureAddr, Sem.run_bind, Sem.run_pure, Result.andThen_ok, run_loadVar_row w B T ty D (0, 0) _ (hC w hw) hu (by cases d <;> first | rfl | exact hd) hi]
  exact ⟨rfl, rfl⟩
theorem quiet_range {P : Program} {o : Oper} {a : Act} {C : World → Prop} {K : Act → Prop} {x : Operand} {ty : TypeId} {B off : Nat} {cs : List Value} (ho : o.op = .load ty x) (hx : a.eval x = .pointer (some ⟨B, off, none⟩)) (hC : ∀ w, C w → w.rangeAt B off cs) {d : TypeDesc} (hu : P.underlying ty = some d) (hd : d.isRow = true) (hi : (P.info? ty).map (·.size) = some cs.length)
    (h : K (a.put o.dst (.agg cs.toArray))) : o.quiet P a C K := by
  refine ⟨_, fun w hw => ?_, h⟩
  unfold Oper.quietAt execOp
  simp only [ho, hx, Instr.loadAt, Instr.sureAddr, Sem.run_bind, Sem.run_pure, Result.andThen_ok, run_loadVar_mid w B off ty cs _ (hC w hw) hu hd hi]
  exact ⟨rfl, rfl⟩
theorem Blk.regrown {B : Nat} {C : Array Value} {T : TypeId} {w : World} (h : Blk B C T w) : ∀ w', (∃ p : Regrown, w' = grow (redrawn w p.d) p.os) → Blk B C T w' := by
  rintro w' ⟨p, rfl⟩
  exact h.below (below_regrown w p.d p.os)

/- A struct that lies in a variable is handed back, alone or with one thing more. -/
theorem ret_one {P : Program} {fn : Func} {p : Tmp} {T U : TypeId} (hr : fn.results = #[.cell p T]) {tmps : Array Value} {w : World} {B : Nat} {C : Array Value} (hp : tmps.getD p undef = .pointer (some ⟨B, 0, none⟩)) (hB : Blk B C U w) {d : TypeDesc} (hu : P.underlying T = some d) (hd : d.isRow = true) (hC : (P.info? T).map (·.size) = some C.size) :
    (results fn tmps).run P w = .ok (.agg C) w :=
  results_cell_row hr tmps w B U C (0, 0) _ hp hB hu (by cases d <;> first | rfl | exact hd) hC
theorem ret_two {P : Program} {fn : Func} {p u : Tmp} {T U : TypeId} (hr : fn.results = #[.cell p T, .tmp u]) {tmps : Array Value} {w : World} {B : Nat} {C : Array Value} (hp : tmps.getD p undef = .pointer (some ⟨B, 0, none⟩)) (hB : Blk B C U w) {d : TypeDesc} (hU : P.underlying T = some d) (hd : d.isRow = true) (hC : (P.info? T).map (·.size) = some C.size) {v : Value} (hu : tmps.getD u undef = v) :
    (results fn tmps).run P w = .ok (.tuple #[.agg C, v]) w := by
  rw [results_cell_tmp hr, hp, hu]
  have := run_loadVar_row (P := P) w B U T C (0, 0) _ hB hU (by cases d <;> first | rfl | exact hd) hC
  simp [asAddr, this]

end Go.Proofs.Ytmnpbjaofemelaa
