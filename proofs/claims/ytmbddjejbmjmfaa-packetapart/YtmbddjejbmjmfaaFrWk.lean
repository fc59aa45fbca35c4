/-
  Blocks of many cells, read and written whole or in part, as a walk meets them.
  No condition.
-/
import Derived.Test.YtmbddjejbmjmfaaFrMath
import Derived.Deep.RegionHeld
import Derived.Laws.ResultCell
namespace Go.Proofs.Ytmbddjejbmjmfaa
set_option maxRecDepth 10000
open Go.RowKit Go.Sort

def Blk (B : Nat) (C : Array Value) (T : TypeId) (w : World) : Prop := w.heap[B]? = some (.cells C T (0, 0))

theorem Blk.lt {B : Nat} {C : Array Value} {T : TypeId} {w : World} (h : Blk B C T w) : B < w.heap.size := by
  rcases Nat.lt_or_ge B w.heap.size with h' | h'
  · exact h'
  · unfold Blk at h; simp [Array.getElem?_eq_none h'] at h
theorem Blk.below {B : Nat} {C : Array Value} {T : TypeId} {w w' : World} (h : Blk B C T w) (hb : Below w.heap.size w w') : Blk B C T w' := (hb.block B h.lt).trans h
theorem blk_new (w : World) (C : Array Value) (T : TypeId) : Blk w.heap.size C T (w.alloc (.cells C T)) := heap_alloc_new w _
theorem Blk.alloc {B : Nat} {C : Array Value} {T : TypeId} {w : World} (h : Blk B C T w) (o : Obj) : Blk B C T (w.alloc o) := (Below.heap_alloc w o B h.lt).trans h

theorem load_blk {ops : Array Oper} {rest : List Oper} {o : Oper} {a : Act} {w : World} {Q : Exit → Act → World → Prop} (hgd : o.guard = none) (ty : TypeId) (x : Operand) (ho : o.op = .load ty x)
    {B : Nat} {C : Array Value} {T : TypeId} (hB : Blk B C T w) (hx : a.eval x = .pointer (some ⟨B, 0, none⟩)) {d : TypeDesc} (hu : Try.prog.underlying ty = some d) (hd : d.isRow = true) (hi : (Try.prog.info? ty).map (·.size) = some C.size)
    (h : wpList Try.prog ops Q rest (a.put o.dst (.agg C)) w) : wpList Try.prog ops Q (o :: rest) a w :=
  wpList_load_row hgd ty x ho B hx T C (0, 0) d hB hu (by cases d <;> first | rfl | exact hd) hi h

theorem load_part {ops : Array Oper} {rest : List Oper} {op : Oper} {a : Act} {w : World} {Q : Exit → Act → World → Prop} (hgd : op.guard = none) (ty : TypeId) (x : Operand) (ho : op.op = .load ty x)
    {B o : Nat} {C : Array Value} {T : TypeId} (hB : Blk B C T w) (hx : a.eval x = .pointer (some ⟨B, o, none⟩)) (cs : List Value) (hcs : (C.extract o (o + cs.length)).toList = cs) {d : TypeDesc} (hu : Try.prog.underlying ty = some d) (hd : d.isRow = true) (hi : (Try.prog.info? ty).map (·.size) = some cs.length)
    (h : wpList Try.prog ops Q rest (a.put op.dst (.agg cs.toArray)) w) : wpList Try.prog ops Q (op :: rest) a w :=
  wpList_load_mid hgd ty x ho B o hx cs d (by have := World.rangeAt_of_block hB o cs.length; rw [hcs] at this; exact this) hu hd hi h

theorem store_new {ops : Array Oper} {rest : List Oper} {o : Oper} {a : Act} {w : World} {Q : Exit → Act → World → Prop} (hgd : o.guard = none) (ty : TypeId) (x y : Operand) (ho : o.op = .store ty x y)
    {C cells : Array Value} {T : TypeId} (hx : a.eval x = .pointer (some ⟨w.heap.size, 0, none⟩)) (hy : a.eval y = .agg cells) (hi : (Try.prog.info? ty).map (·.size) = some cells.size) (hs : C.size = cells.size) (h1 : cells.all (·.oneCell') = true)
    (h : wpList Try.prog ops Q rest (a.put o.dst undef) (w.alloc (.cells cells T))) : wpList Try.prog ops Q (o :: rest) a (w.alloc (.cells C T)) :=
  wpList_store_row hgd ty x y ho w.heap.size cells hx hy T C (heap_alloc_new w _) hi hs h1 (by rw [World.setRow_alloc_new]; exact h)

theorem Blk.setRow {B : Nat} {C : Array Value} {T : TypeId} {w : World} (h : Blk B C T w) (D : Array Value) : Blk B D T (w.setRow B D) := by
  unfold Blk World.setRow at *
  simp [Array.getElem?_modify, h]

theorem Blk.setRow_other {A B : Nat} {C : Array Value} {T : TypeId} {w : World} (h : Blk A C T w) (hne : A ≠ B) (D : Array Value) : Blk A C T (w.setRow B D) := by
  unfold Blk World.setRow at *
  simp only [Array.getElem?_modify]
  rw [if_neg (fun e => hne e.symm)]
  exact h

theorem below_setRow {A B : Nat} {w0 w : World} (h : Below A w0 w) (hA : A ≤ B) (D : Array Value) : Below A w0 (w.setRow B D) := by
  refine h.trans ⟨rfl, rfl, rfl, by simp, fun k hk => ?_⟩
  simp only [World.setRow, Array.getElem?_modify]
  rw [if_neg (by omega)]

theorem store_blk {ops : Array Oper} {rest : List Oper} {o : Oper} {a : Act} {w : World} {Q : Exit → Act → World → Prop} (hgd : o.guard = none) (ty : TypeId) (x y : Operand) (ho : o.op = .store ty x y)
    {B : Nat} {C cells : Array Value} {T : TypeId} (hB : Blk B C T w) (hx : a.eval x = .pointer (some ⟨B, 0, none⟩)) (hy : a.eval y = .agg cells) (hi : (Try.prog.info? ty).map (·.size) = some cells.size) (hs : C.size = cells.size) (h1 : cells.all (·.oneCell') = true)
    (h : wpList Try.prog ops Q rest (a.put o.dst undef) (w.setRow B cells)) : wpList Try.prog ops Q (o :: rest) a w :=
  wpList_store_row hgd ty x y ho B cells hx hy T C hB hi hs h1 h

theorem Blk.setRow_same {B : Nat} {C : Array Value} {T : TypeId} {w : World} (h : Blk B C T w) : w.setRow B C = w := by
  unfold Blk at h
  have e : (w.setRow B C).heap = w.heap := by
    simp only [World.setRow]
    apply Array.ext_getElem?
    intro i
    rw [Array.getElem?_modify]
    by_cases hi : B = i
    · subst hi; simp [h]
    · simp [hi]
  cases w
  simp only [World.setRow] at e ⊢
  rw [e]

theorem store_same {ops : Array Oper} {rest : List Oper} {o : Oper} {a : Act} {w : World} {Q : Exit → Act → World → Prop} (hgd : o.guard = none) (ty : TypeId) (x y : Operand) (ho : o.op = .store ty x y)
    {B : Nat} {C : Array Value} {T : TypeId} (hB : Blk B C T w) (hx : a.eval x = .pointer (some ⟨B, 0, none⟩)) (hy : a.eval y = .agg C) (hi : (Try.prog.info? ty).map (·.size) = some C.size) (h1 : C.all (·.oneCell') = true)
    (h : wpList Try.prog ops Q rest (a.put o.dst undef) w) : wpList Try.prog ops Q (o :: rest) a w :=
  wpList_store_row hgd ty x y ho B C hx hy T C hB hi rfl h1 (by rw [hB.setRow_same]; exact h)

def putAt (C : Array Value) (o : Nat) : List Value → Array Value
  | [] => C
  | v :: r => putAt (C.setIfInBounds o v) (o + 1) r

theorem Blk.setCells {B : Nat} {T : TypeId} : ∀ (vs : List Value) (o : Nat) {C : Array Value} {w : World}, Blk B C T w → Blk B (putAt C o vs) T (w.setCells B o vs)
  | [], _, _, _, h => h
  | v :: r, o, C, w, h => Blk.setCells r (o + 1) (heap_setCell_same w B o C T v h)

theorem Blk.setCells_other {A B : Nat} {T : TypeId} (hne : A ≠ B) : ∀ (vs : List Value) (o : Nat) {C : Array Value} {w : World}, Blk A C T w → Blk A C T (w.setCells B o vs)
  | [], _, _, _, h => h
  | v :: r, o, _, w, h => Blk.setCells_other hne r (o + 1) ((heap_setCell_other w ⟨B, o, none⟩ A v hne).trans h)

theorem below_cells {A B : Nat} (hA : A ≤ B) {w0 : World} : ∀ (vs : List Value) (o : Nat) {w : World}, Below A w0 w → Below A w0 (w.setCells B o vs)
  | [], _, _, h => h
  | _ :: r, o, _, h => below_cells hA r (o + 1) (h.setCell (p := ⟨B, o, none⟩) hA _)

theorem frc_put (F : Nat → En) (e : En) (x o : Nat) (hx : x < 6) (ho : o = 6 * x) : putAt (frc F) o e.vals = frc (fun y => if y = x then e else F y) := by
  subst ho
  obtain rfl | rfl | rfl | rfl | rfl | rfl : x = 0 ∨ x = 1 ∨ x = 2 ∨ x = 3 ∨ x = 4 ∨ x = 5 := by omega
  all_goals kernel_rfl

theorem Blk.drew {B : Nat} {C : Array Value} {T : TypeId} {w : World} (h : Blk B C T w) : Blk B C T w.drew := h

theorem Blk.range {B : Nat} {C : Array Value} {T : TypeId} {w : World} (h : Blk B C T w) (o : Nat) (cs : List Value) (hcs : (C.extract o (o + cs.length)).toList = cs) : w.rangeAt B o cs := by
  have := World.rangeAt_of_block h o cs.length; rw [hcs] at this; exact this

theorem Blk.there {B : Nat} {C : Array Value} {T : TypeId} {w : World} (h : Blk B C T w) (o n : Nat) (hn : o + n ≤ C.size) : w.there B o n := fun j hj => by
  refine ⟨?_, frozen_of_row w B _ C T h⟩
  rw [cell_of_row w B (o + j) C T (0, 0) h, Array.getElem?_eq_getElem (by omega)]
  rfl

theorem ret_fr {fn : Func} {p u : Tmp} (hr : fn.results = #[.cell p 33, .tmp u]) {tmps : Array Value} {w : World} {B : Nat} {C : Array Value} {T : TypeId} (hp : tmps.getD p undef = .pointer (some ⟨B, 0, none⟩)) (hB : Blk B C T w) (hC : C.size = 36) {v : Value} (hu : tmps.getD u undef = v) :
    (results fn tmps).run Try.prog w = .ok (.tuple #[.agg C, v]) w := by
  rw [results_cell_tmp hr, hp, hu]
  have := run_loadVar_row (P := Try.prog) w B T 33 C (0, 0) _ hB Try.underlying33 rfl (by rw [hC]; exact size27)
  simp [asAddr, this]

def zeroFr : Nat → En := fun _ => En.zero

theorem zero_info : (Try.prog.info? 33).map (fun i => (i.zero, i.size)) = some (some (.agg (frc zeroFr)), 36) := by kernel_rfl
theorem built_zero : Try.prog.built 33 [] = some (frc zeroFr) := by kernel_rfl

theorem alloc_fr {ops : Array Oper} {rest : List Oper} {o : Oper} {a : Act} {w : World} {Q : Exit → Act → World → Prop} (hgd : o.guard = none) (ho : o.op = .alloc 33)
    (h : wpList Try.prog ops Q rest (a.put o.dst (.pointer (some ⟨w.heap.size, 0, none⟩))) (w.alloc (.cells (frc zeroFr) 33))) : wpList Try.prog ops Q (o :: rest) a w :=
  wpList_plain hgd fun _ hK => by
    have hz := (zero_of_info zero_info).1
    have hk := hK _ _ h
    unfold Oper.wp execOp
    simp only [ho, Instr.alloc, Sem.run_bind, hz, Result.andThen_ok]
    exact hk

theorem build_fr {ops : Array Oper} {rest : List Oper} {o : Oper} {a : Act} {w : World} {Q : Exit → Act → World → Prop} (hgd : o.guard = none) (ho : o.op = .build 33 #[])
    (h : wpList Try.prog ops Q rest (a.put o.dst (.agg (frc zeroFr))) w) : wpList Try.prog ops Q (o :: rest) a w :=
  wpList_build hgd 33 #[] ho (by simp [built_zero]) (by simpa [built_zero] using h)

/- The six cells of an entry at an offset of a block, and that they may be written. -/
def At6 (B o : Nat) (k sv g se n : Int) (t : ByteArray) (w : World) : Prop :=
  w.cell? ⟨B, o, none⟩ = some (.int .i64 k) ∧ w.cell? ⟨B, o + 1, none⟩ = some (.int .i64 sv) ∧ w.cell? ⟨B, o + 2, none⟩ = some (.int .i64 g) ∧
  w.cell? ⟨B, o + 3, none⟩ = some (.int .u64 se) ∧ w.cell? ⟨B, o + 4, none⟩ = some (.int .u64 n) ∧ w.cell? ⟨B, o + 5, none⟩ = some (.string t)
def Free6 (B o : Nat) (w : World) : Prop :=
  w.frozen? ⟨B, o, none⟩ = false ∧ w.frozen? ⟨B, o + 1, none⟩ = false ∧ w.frozen? ⟨B, o + 2, none⟩ = false ∧
  w.frozen? ⟨B, o + 3, none⟩ = false ∧ w.frozen? ⟨B, o + 4, none⟩ = false ∧ w.frozen? ⟨B, o + 5, none⟩ = false

theorem Blk.at6 {B : Nat} {C : Array Value} {T : TypeId} {w : World} (h : Blk B C T w) (o : Nat) (e : En) (he : (C.extract o (o + e.vals.length)).toList = e.vals) : At6 B o e.k e.sv e.g e.se e.n e.t w := by
  have hr := h.range o e.vals he
  exact ⟨hr 0 _ rfl, hr 1 _ rfl, hr 2 _ rfl, hr 3 _ rfl, hr 4 _ rfl, hr 5 _ rfl⟩
theorem Blk.free6 {B : Nat} {C : Array Value} {T : TypeId} {w : World} (h : Blk B C T w) (o : Nat) : Free6 B o w :=
  ⟨frozen_of_row w B _ C T h, frozen_of_row w B _ C T h, frozen_of_row w B _ C T h, frozen_of_row w B _ C T h, frozen_of_row w B _ C T h, frozen_of_row w B _ C T h⟩

end Go.Proofs.Ytmbddjejbmjmfaa
