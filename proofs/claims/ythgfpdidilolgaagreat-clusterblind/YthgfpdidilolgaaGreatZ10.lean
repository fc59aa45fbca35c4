/-
  Of the texts beneath these laws, in their order: FrWk, PkMath, FrBld, PkBld, FrCk, Shelf.
  Each theorem says its own conditions.
-/
import Derived.Test.YthgfpdidilolgaaGreatZ09
import Derived.Deep.RegionHeld
import Derived.Laws.ResultCell
import Derived.Test.YthgfpdidilolgaaGreatProg
import Derived.Shelf.Strings.BuilderK
import Derived.WalkKit
import Derived.OwnWalk
import Derived.KernelRfl
import Derived.Lib.OthersKept
import Derived.Shelf.Strings.Builder1
import Derived.Shelf.Strings.BuilderF
namespace Go.Proofs.YthgfpdidilolgaaGreat.Eld
set_option maxRecDepth 10000
open Go.RowKit Go.Sort
def Blk (B : Nat) (C : Array Value) (T : TypeId) (w : World) : Prop := w.heap[B]? = some (.cells C T (0, 0))
theorem Blk.lt {B : Nat} {C : Array Value} {T : TypeId} {w : World} (h : Blk B C T w) : B < w.heap.size := by
 rcases Nat.lt_or_ge B w.heap.size with h' | h'
 ·exact h'
 ·unfold Blk at h; simp [Array.getElem?_eq_none h'] at h
theorem Blk.below {B : Nat} {C : Array Value} {T : TypeId} {w w' : World} (h : Blk B C T w) (hb : Below w.heap.size w w') : Blk B C T w' := (hb.block B h.lt).trans h
theorem blk_new (w : World) (C : Array Value) (T : TypeId) : Blk w.heap.size C T (w.alloc (.cells C T)) := heap_alloc_new w _
theorem Blk.alloc {B : Nat} {C : Array Value} {T : TypeId} {w : World} (h : Blk B C T w) (o : Obj) : Blk B C T (w.alloc o) := (Below.heap_alloc w o B h.lt).trans h
theorem load_blk {ops : Array Oper} {rest : List Oper} {o : Oper} {a : Act} {w : World} {Q : Exit → Act → World → Prop} (hgd : o.guard = none) (ty : TypeId) (x : Operand) (ho : o.op = .load ty x)
  {B : Nat} {C : Array Value} {T : TypeId} (hB : Blk B C T w) (hx : a.eval x = .pointer (some ⟨B, 0, none⟩)) {d : TypeDesc} (hu : Tryz.prog.underlying ty = some d) (hd : d.isRow = true) (hi : (Tryz.prog.info? ty).map (·.size) = some C.size)
  (h : wpList Tryz.prog ops Q rest (a.put o.dst (.agg C)) w) : wpList Tryz.prog ops Q (o :: rest) a w :=
 wpList_load_row hgd ty x ho B hx T C (0, 0) d hB hu (by cases d <;> first | rfl | exact hd) hi h
theorem load_part {ops : Array Oper} {rest : List Oper} {op : Oper} {a : Act} {w : World} {Q : Exit → Act → World → Prop} (hgd : op.guard = none) (ty : TypeId) (x : Operand) (ho : op.op = .load ty x)
  {B o : Nat} {C : Array Value} {T : TypeId} (hB : Blk B C T w) (hx : a.eval x = .pointer (some ⟨B, o, none⟩)) (cs : List Value) (hcs : (C.extract o (o + cs.length)).toList = cs) {d : TypeDesc} (hu : Tryz.prog.underlying ty = some d) (hd : d.isRow = true) (hi : (Tryz.prog.info? ty).map (·.size) = some cs.length)
  (h : wpList Tryz.prog ops Q rest (a.put op.dst (.agg cs.toArray)) w) : wpList Tryz.prog ops Q (op :: rest) a w :=
 wpList_load_mid hgd ty x ho B o hx cs d (by have := World.rangeAt_of_block hB o cs.length; rw [hcs] at this; exact this) hu hd hi h
theorem store_new {ops : Array Oper} {rest : List Oper} {o : Oper} {a : Act} {w : World} {Q : Exit → Act → World → Prop} (hgd : o.guard = none) (ty : TypeId) (x y : Operand) (ho : o.op = .store ty x y)
  {C cells : Array Value} {T : TypeId} (hx : a.eval x = .pointer (some ⟨w.heap.size, 0, none⟩)) (hy : a.eval y = .agg cells) (hi : (Tryz.prog.info? ty).map (·.size) = some cells.size) (hs : C.size = cells.size) (h1 : cells.all (·.oneCell') = true)
  (h : wpList Tryz.prog ops Q rest (a.put o.dst undef) (w.alloc (.cells cells T))) : wpList Tryz.prog ops Q (o :: rest) a (w.alloc (.cells C T)) :=
 wpList_store_row hgd ty x y ho w.heap.size cells hx hy T C (heap_alloc_new w _) hi hs h1 (by rw [World.setRow_alloc_new]; exact h)
theorem Blk.setRow {B : Nat} {C : Array Value} {T : TypeId} {w : World} (h : Blk B C T w) (D : Array Value) : Blk B D T (w.setRow B D) := by
 unfold Blk World.setRow at *
 simp [Array.getElem?_modify, h]
theorem below_setRow {A B : Nat} {w0 w : World} (h : Below A w0 w) (hA : A ≤ B) (D : Array Value) : Below A w0 (w.setRow B D) := by
 refine h.trans ⟨rfl, rfl, rfl, by simp, fun k hk => ?_⟩
 simp only [World.setRow, Array.getElem?_modify]
 rw [if_neg (by omega)]
theorem store_blk {ops : Array Oper} {rest : List Oper} {o : Oper} {a : Act} {w : World} {Q : Exit → Act → World → Prop} (hgd : o.guard = none) (ty : TypeId) (x y : Operand) (ho : o.op = .store ty x y)
  {B : Nat} {C cells : Array Value} {T : TypeId} (hB : Blk B C T w) (hx : a.eval x = .pointer (some ⟨B, 0, none⟩)) (hy : a.eval y = .agg cells) (hi : (Tryz.prog.info? ty).map (·.size) = some cells.size) (hs : C.size = cells.size) (h1 : cells.all (·.oneCell') = true)
  (h : wpList Tryz.prog ops Q rest (a.put o.dst undef) (w.setRow B cells)) : wpList Tryz.prog ops Q (o :: rest) a w :=
 wpList_store_row hgd ty x y ho B cells hx hy T C hB hi hs h1 h
theorem Blk.setRow_same {B : Nat} {C : Array Value} {T : TypeId} {w : World} (h : Blk B C T w) : w.setRow B C = w := by
 unfold Blk at h
 have e : (w.setRow B C).heap = w.heap := by
  simp only [World.setRow]
  apply Array.ext_getElem?
  intro i
  rw [Array.getElem?_modify]
  by_cases hi : B = i
  ·subst hi; simp [h]
  ·simp [hi]
 cases w
 simp only [World.setRow] at e ⊢
 rw [e]
theorem store_same {ops : Array Oper} {rest : List Oper} {o : Oper} {a : Act} {w : World} {Q : Exit → Act → World → Prop} (hgd : o.guard = none) (ty : TypeId) (x y : Operand) (ho : o.op = .store ty x y)
  {B : Nat} {C : Array Value} {T : TypeId} (hB : Blk B C T w) (hx : a.eval x = .pointer (some ⟨B, 0, none⟩)) (hy : a.eval y = .agg C) (hi : (Tryz.prog.info? ty).map (·.size) = some C.size) (h1 : C.all (·.oneCell') = true)
  (h : wpList Tryz.prog ops Q rest (a.put o.dst undef) w) : wpList Tryz.prog ops Q (o :: rest) a w :=
 wpList_store_row hgd ty x y ho B C hx hy T C hB hi rfl h1 (by rw [hB.setRow_same]; exact h)
def putAt (C : Array Value) (o : Nat) : List Value → Array Value
 | [] => C
 | v :: r => putAt (C.setIfInBounds o v) (o + 1) r
theorem Blk.setCells {B : Nat} {T : TypeId} : ∀ (vs : List Value) (o : Nat) {C : Array Value} {w : World}, Blk B C T w → Blk B (putAt C o vs) T (w.setCells B o vs)
 | [], _, _, _, h => h
 | v :: r, o, C, w, h => Blk.setCells r (o + 1) (heap_setCell_same w B o C T v h)
theorem Blk.setCells_other {A B : Nat} {T : TypeId} (hne : A ≠ B) : ∀ (vs : List Value) (o : Nat) {C : Array Value} {w : World}, Blk A C T w → Blk A C T (w.setCells B o vs)
 | [], _, _, _, h => h
 | v :: r, o, _, w, h => Blk.setCells_other hne r (o + 1) ((heap_setCell_other w ⟨B, o, none⟩ A v hne).trans h)
theorem below_cells {A B : Nat} (hA : A ≤ B) {w0 : World} : ∀ (vs : List Value) (o : Nat) {w : World}, Below A w0 w → Below A w0 (w.setCells B o vs)
 | [], _, _, h => h
 | _ :: r, o, _, h => below_cells hA r (o + 1) (h.setCell (p := ⟨B, o, none⟩) hA _)
theorem frc_put (F : Nat → En) (e : En) (x o : Nat) (hx : x < 6) (ho : o = 6 * x) : putAt (frc F) o e.vals = frc (fun y => if y = x then e else F y) := by
 subst ho
 obtain rfl | rfl | rfl | rfl | rfl | rfl : x = 0 ∨ x = 1 ∨ x = 2 ∨ x = 3 ∨ x = 4 ∨ x = 5 := by omega
 all_goals kernel_rfl
theorem Blk.drew {B : Nat} {C : Array Value} {T : TypeId} {w : World} (h : Blk B C T w) : Blk B C T w.drew := h
theorem Blk.range {B : Nat} {C : Array Value} {T : TypeId} {w : World} (h : Blk B C T w) (o : Nat) (cs : List Value) (hcs : (C.extract o (o + cs.length)).toList = cs) : w.rangeAt B o cs := by
 have := World.rangeAt_of_block h o cs.length; rw [hcs] at this; exact this
theorem Blk.there {B : Nat} {C : Array Value} {T : TypeId} {w : World} (h : Blk B C T w) (o n : Nat) (hn : o + n ≤ C.size) : w.there B o n := fun j hj => by
 refine ⟨?_, frozen_of_row w B _ C T h⟩
 rw [cell_of_row w B (o + j) C T (0, 0) h, Array.getElem?_eq_getElem (by omega)]
 rfl
theorem ret_fr {fn : Func} {p u : Tmp} (hr : fn.results = #[.cell p 43, .tmp u]) {tmps : Array Value} {w : World} {B : Nat} {C : Array Value} {T : TypeId} (hp : tmps.getD p undef = .pointer (some ⟨B, 0, none⟩)) (hB : Blk B C T w) (hC : C.size = 36) {v : Value} (hu : tmps.getD u undef = v) :
  (results fn tmps).run Tryz.prog w = .ok (.tuple #[.agg C, v]) w := by
 rw [results_cell_tmp hr, hp, hu]
 have := run_loadVar_row (P := Tryz.prog) w B T 43 C (0, 0) _ hB Tryz.underlying43 rfl (by rw [hC]; exact size27)
 simp [asAddr, this]
def zeroFr : Nat → En := fun _ => En.zero
theorem zero_info : (Tryz.prog.info? 43).map (fun i => (i.zero, i.size)) = some (some (.agg (frc zeroFr)), 36) := by kernel_rfl
theorem built_zero : Tryz.prog.built 43 [] = some (frc zeroFr) := by kernel_rfl
theorem alloc_fr {ops : Array Oper} {rest : List Oper} {o : Oper} {a : Act} {w : World} {Q : Exit → Act → World → Prop} (hgd : o.guard = none) (ho : o.op = .alloc 43)
  (h : wpList Tryz.prog ops Q rest (a.put o.dst (.pointer (some ⟨w.heap.size, 0, none⟩))) (w.alloc (.cells (frc zeroFr) 43))) : wpList Tryz.prog ops Q (o :: rest) a w :=
 wpList_plain hgd fun _ hK => by
  have hz := (zero_of_info zero_info).1
  have hk := hK _ _ h
  unfold Oper.wp execOp
  simp only [ho, Instr.alloc, Sem.run_bind, hz, Result.andThen_ok]
  exact hk
theorem build_fr {ops : Array Oper} {rest : List Oper} {o : Oper} {a : Act} {w : World} {Q : Exit → Act → World → Prop} (hgd : o.guard = none) (ho : o.op = .build 43 #[])
  (h : wpList Tryz.prog ops Q rest (a.put o.dst (.agg (frc zeroFr))) w) : wpList Tryz.prog ops Q (o :: rest) a w :=
 wpList_build hgd 43 #[] ho (by simp [built_zero]) (by simpa [built_zero] using h)
def At6 (B o : Nat) (k sv g se n : Int) (t : ByteArray) (w : World) : Prop :=
 w.cell? ⟨B, o, none⟩ = some (.int .i64 k) ∧ w.cell? ⟨B, o + 1, none⟩ = some (.int .i64 sv) ∧ w.cell? ⟨B, o + 2, none⟩ = some (.int .i64 g) ∧
 w.cell? ⟨B, o + 3, none⟩ = some (.int .u64 se) ∧ w.cell? ⟨B, o + 4, none⟩ = some (.int .u64 n) ∧ w.cell? ⟨B, o + 5, none⟩ = some (.string t)
def Free6 (B o : Nat) (w : World) : Prop :=
 w.frozen? ⟨B, o, none⟩ = false ∧ w.frozen? ⟨B, o + 1, none⟩ = false ∧ w.frozen? ⟨B, o + 2, none⟩ = false ∧
 w.frozen? ⟨B, o + 3, none⟩ = false ∧ w.frozen? ⟨B, o + 4, none⟩ = false ∧ w.frozen? ⟨B, o + 5, none⟩ = false
theorem Blk.at6 {B : Nat} {C : Array Value} {T : TypeId} {w : World} (h : Blk B C T w) (o : Nat) (e : En) (he : (C.extract o (o + e.vals.length)).toList = e.vals) : At6 B o e.k e.sv e.g e.se e.n e.t w := by
 have hr := h.range o e.vals he
 exact ⟨hr 0 _ rfl, hr 1 _ rfl, hr 2 _ rfl, hr 3 _ rfl, hr 4 _ rfl, hr 5 _ rfl⟩
theorem Blk.free6 {B : Nat} {C : Array Value} {T : TypeId} {w : World} (h : Blk B C T w) (o : Nat) : Free6 B o w :=
 ⟨frozen_of_row w B _ C T h, frozen_of_row w B _ C T h, frozen_of_row w B _ C T h, frozen_of_row w B _ C T h, frozen_of_row w B _ C T h, frozen_of_row w B _ C T h⟩
end Go.Proofs.YthgfpdidilolgaaGreat.Eld
namespace Go.Proofs.YthgfpdidilolgaaGreat.Eld
set_option maxRecDepth 10000
open Go.RowKit Go.Sort
structure Pk where
 n : Nat → Nat
 r : Bool
 f0 : Nat → En
 f1 : Nat → En
 f2 : Nat → En
def pkl (p : Pk) : List Value :=
 [.int .u32 (p.n 0), .int .u32 (p.n 1), .int .u32 (p.n 2), .int .u32 (p.n 3), .int .u32 (p.n 4),
  .int .u32 (p.n 5), .int .u32 (p.n 6), .int .u32 (p.n 7), .int .u32 (p.n 8), .int .u32 (p.n 9), .int .u32 (p.n 10), .int .u32 (p.n 11), .int .u32 (p.n 12),
  .int .u32 (p.n 13), .int .u32 (p.n 14), .int .u32 (p.n 15), .int .u32 (p.n 16), .int .u32 (p.n 17), .int .u32 (p.n 18), .int .u32 (p.n 19), .int .u32 (p.n 20),
  .int .u32 (p.n 21), .int .u32 (p.n 22), .int .u32 (p.n 23),
  .int .u32 (p.n 24), .int .u32 (p.n 25), .int .u32 (p.n 26), .int .u32 (p.n 27), .int .u32 (p.n 28), .int .u32 (p.n 29), .int .u32 (p.n 30), .int .u32 (p.n 31),
  .bool p.r, .int .u32 (p.n 33), .int .u32 (p.n 34)] ++ (enCells (Fr.list p.f0) ++ (enCells (Fr.list p.f1) ++ ([.int .u32 (p.n 107), .int .u32 (p.n 108)] ++ enCells (Fr.list p.f2))))
def pkc (p : Pk) : Array Value := (pkl p).toArray
def Pk.zero : Pk := ⟨fun _ => 0, false, zeroFr, zeroFr, zeroFr⟩
def Pk.may (p : Pk) : Bool := (decide (p.n 0 < 8) && (decide (p.n 107 < 8) && (decide (p.n 3 < 8) && decide (p.n 22 < 8)))) && (Fr.may p.f0 && (Fr.may p.f1 && Fr.may p.f2))
theorem pkc_size (p : Pk) : (pkc p).size = 145 := by
 show (pkl p).toArray.size = 145
 rw [List.size_toArray]
 simp only [pkl, List.length_append, enCells_length, List.length_cons, List.length_nil, Fr.list]
theorem pkl_one (p : Pk) : ∀ v ∈ pkl p, v.oneCell' = true := by
 intro v hv
 simp only [pkl, List.mem_append] at hv
 rcases hv with hv | hv | hv | hv | hv
 ·simp only [List.mem_cons, List.not_mem_nil, or_false] at hv
  rcases hv with rfl | rfl | rfl | rfl | rfl | rfl | rfl | rfl | rfl | rfl | rfl | rfl | rfl | rfl | rfl | rfl | rfl | rfl | rfl | rfl | rfl | rfl | rfl | rfl | rfl | rfl | rfl | rfl | rfl | rfl | rfl | rfl | rfl | rfl | rfl <;> rfl
 ·exact enCells_one _ v hv
 ·exact enCells_one _ v hv
 ·simp only [List.mem_cons, List.not_mem_nil, or_false] at hv
  rcases hv with rfl | rfl <;> rfl
 ·exact enCells_one _ v hv
theorem pkc_one (p : Pk) : (pkc p).all (·.oneCell') = true := all_oneCell_toArray (pkl_one p)
theorem part_f0 (p : Pk) : ((pkc p).extract 35 (35 + (enCells (Fr.list p.f0)).length)).toList = enCells (Fr.list p.f0) := by kernel_rfl
theorem part_f1 (p : Pk) : ((pkc p).extract 71 (71 + (enCells (Fr.list p.f1)).length)).toList = enCells (Fr.list p.f1) := by kernel_rfl
theorem part_f2 (p : Pk) : ((pkc p).extract 109 (109 + (enCells (Fr.list p.f2)).length)).toList = enCells (Fr.list p.f2) := by kernel_rfl
def idl (a b c : Nat) : List Value := [.int .u32 a, .int .u32 b, .int .u32 c]
def idc (a b c : Nat) : Array Value := (idl a b c).toArray
def rowl (f : Nat → Nat) (o : Nat) : List Value := [.int .u32 (f o), .int .u32 (f (o + 1)), .int .u32 (f (o + 2)), .int .u32 (f (o + 3)), .int .u32 (f (o + 4)), .int .u32 (f (o + 5)), .int .u32 (f (o + 6)), .int .u32 (f (o + 7))]
def rowc (f : Nat → Nat) (o : Nat) : Array Value := (rowl f o).toArray
theorem part_id2 (p : Pk) : ((pkc p).extract 2 (2 + (idl (p.n 2) (p.n 3) (p.n 4)).length)).toList = idl (p.n 2) (p.n 3) (p.n 4) := by kernel_rfl
theorem part_id21 (p : Pk) : ((pkc p).extract 21 (21 + (idl (p.n 21) (p.n 22) (p.n 23)).length)).toList = idl (p.n 21) (p.n 22) (p.n 23) := by kernel_rfl
theorem frl_length (F : Nat → En) : (enCells (Fr.list F)).length = 36 := by rw [enCells_length]; rfl
theorem size35 : (Tryz.prog.info? 116).map (·.size) = some 145 := by kernel_rfl
theorem sizeId : (Tryz.prog.info? 51).map (·.size) = some 3 := by kernel_rfl
theorem sizeRow : (Tryz.prog.info? 54).map (·.size) = some 8 := by kernel_rfl
theorem sizeMem : (Tryz.prog.info? 55).map (·.size) = some 8 := by kernel_rfl
theorem sizeCnt : (Tryz.prog.info? 60).map (·.size) = some 8 := by kernel_rfl
theorem pk_info : (Tryz.prog.info? 116).map (fun i => (i.zero, i.size)) = some (some (.agg (pkc Pk.zero)), 145) := by kernel_rfl
theorem pk_built : Tryz.prog.built 116 [] = some (pkc Pk.zero) := by kernel_rfl
theorem Blk.cell {B : Nat} {C : Array Value} {T : TypeId} {w : World} (h : Blk B C T w) (o : Nat) (v : Value) (hv : C[o]? = some v) : w.cell? ⟨B, o, none⟩ = some v := by
 rw [cell_of_row w B o C T (0, 0) h]; exact hv
theorem Blk.free {B : Nat} {C : Array Value} {T : TypeId} {w : World} (h : Blk B C T w) (o : Nat) : w.frozen? ⟨B, o, none⟩ = false := frozen_of_row w B _ C T h
theorem alloc_pk {ops : Array Oper} {rest : List Oper} {o : Oper} {a : Act} {w : World} {Q : Exit → Act → World → Prop} (hgd : o.guard = none) (ho : o.op = .alloc 116)
  (h : wpList Tryz.prog ops Q rest (a.put o.dst (.pointer (some ⟨w.heap.size, 0, none⟩))) (w.alloc (.cells (pkc Pk.zero) 116))) : wpList Tryz.prog ops Q (o :: rest) a w :=
 wpList_plain hgd fun _ hK => by
  have hz := (zero_of_info pk_info).1
  have hk := hK _ _ h
  unfold Oper.wp execOp
  simp only [ho, Instr.alloc, Sem.run_bind, hz, Result.andThen_ok]
  exact hk
theorem build_pk {ops : Array Oper} {rest : List Oper} {o : Oper} {a : Act} {w : World} {Q : Exit → Act → World → Prop} (hgd : o.guard = none) (ho : o.op = .build 116 #[])
  (h : wpList Tryz.prog ops Q rest (a.put o.dst (.agg (pkc Pk.zero))) w) : wpList Tryz.prog ops Q (o :: rest) a w :=
 wpList_build hgd 116 #[] ho (by simp [pk_built]) (by simpa [pk_built] using h)
theorem ret_pk {fn : Func} {p u : Tmp} (hr : fn.results = #[.cell p 116, .tmp u]) {tmps : Array Value} {w : World} {B : Nat} {C : Array Value} {T : TypeId} (hp : tmps.getD p undef = .pointer (some ⟨B, 0, none⟩)) (hB : Blk B C T w) (hC : C.size = 145) {v : Value} (hu : tmps.getD u undef = v) :
  (results fn tmps).run Tryz.prog w = .ok (.tuple #[.agg C, v]) w := by
 rw [results_cell_tmp hr, hp, hu]
 have := run_loadVar_row (P := Tryz.prog) w B T 116 C (0, 0) _ hB Tryz.underlying116 rfl (by rw [hC]; exact size35)
 simp [asAddr, this]
structure But (b : Nat) (w w' : World) : Prop where
 os : w'.os = w.os
 tape : w'.tape = w.tape
 output : w'.output = w.output
 size : w.heap.size ≤ w'.heap.size
 block : ∀ k, k < w.heap.size → k ≠ b → w'.heap[k]? = w.heap[k]?
theorem But.refl (b : Nat) (w : World) : But b w w := ⟨rfl, rfl, rfl, Nat.le_refl _, fun _ _ _ => rfl⟩
theorem But.trans {b : Nat} {u v w : World} (h : But b u v) (k : But b v w) : But b u w :=
 ⟨k.os.trans h.os, k.tape.trans h.tape, k.output.trans h.output, Nat.le_trans h.size k.size, fun i hi hb => (k.block i (Nat.lt_of_lt_of_le hi h.size) hb).trans (h.block i hi hb)⟩
theorem But.of_below {b : Nat} {w w' : World} (h : Below w.heap.size w w') : But b w w' := ⟨h.os, h.tape, h.output, h.size, fun k hk _ => h.block k hk⟩
theorem But.below {b B : Nat} {w w' : World} (h : But b w w') (hB : B ≤ b) (hw : B ≤ w.heap.size) : Below B w w' := ⟨h.os, h.tape, h.output, h.size, fun k hk => h.block k (by omega) (by omega)⟩
theorem But.alloc (b : Nat) (w : World) (o : Obj) : But b w (w.alloc o) := But.of_below ((Below.refl _ _).alloc (Nat.le_refl _) o)
theorem But.setCell (b o : Nat) (w : World) (v : Value) : But b w (w.setCell ⟨b, o, none⟩ v) :=
 ⟨rfl, rfl, rfl, by simp [World.setCell], fun k _ hb => Below.heap_setCell _ _ _ _ hb⟩
theorem But.setCells (b : Nat) : ∀ (vs : List Value) (o : Nat) (w : World), But b w (w.setCells b o vs)
 | [], _, w => But.refl b w
 | v :: r, o, w => (But.setCell b o w v).trans (But.setCells b r (o + 1) _)
theorem Blk.but {A b : Nat} {C : Array Value} {T : TypeId} {w w' : World} (h : Blk A C T w) (hb : But b w w') (hne : A ≠ b) : Blk A C T w' := (hb.block A h.lt hne).trans h
theorem putAt_size (o : Nat) (vs : List Value) : ∀ (C : Array Value), (putAt C o vs).size = C.size := by
 induction vs generalizing o with
 | nil => intro C; rfl
 | cons v r ih => intro C; show (putAt (C.setIfInBounds o v) (o + 1) r).size = C.size; rw [ih]; simp
theorem store_part {ops : Array Oper} {rest : List Oper} {o : Oper} {a : Act} {w : World} {Q : Exit → Act → World → Prop} (hgd : o.guard = none) (ty : TypeId) (x y : Operand) (ho : o.op = .store ty x y)
  {B off : Nat} {C cells : Array Value} {T : TypeId} (hB : Blk B C T w) (hx : a.eval x = .pointer (some ⟨B, off, none⟩)) (hy : a.eval y = .agg cells) (hi : (Tryz.prog.info? ty).map (·.size) = some cells.size) (hs : off + cells.size ≤ C.size) (h1 : cells.all (·.oneCell') = true)
  (h : ∀ W, Blk B (putAt C off cells.toList) T W → But B w W → wpList Tryz.prog ops Q rest (a.put o.dst undef) W) : wpList Tryz.prog ops Q (o :: rest) a w :=
 wpList_store_mid hgd ty x y ho B off cells hx hy (hB.there off cells.size hs) hi h1 (h _ (hB.setCells cells.toList off) (But.setCells B cells.toList off w))
theorem load_wpart {ops : Array Oper} {rest : List Oper} {op : Oper} {a : Act} {w : World} {Q : Exit → Act → World → Prop} (hw : Region.wanted op (yielded ops a.tmps) = true) (ty : TypeId) (x : Operand) (ho : op.op = .load ty x)
  {B o : Nat} {C : Array Value} {T : TypeId} (hB : Blk B C T w) (hx : a.eval x = .pointer (some ⟨B, o, none⟩)) (cs : List Value) (hcs : (C.extract o (o + cs.length)).toList = cs) {d : TypeDesc} (hu : Tryz.prog.underlying ty = some d) (hd : d.isRow = true) (hi : (Tryz.prog.info? ty).map (·.size) = some cs.length)
  (h : wpList Tryz.prog ops Q rest (a.put op.dst (.agg cs.toArray)) w) : wpList Tryz.prog ops Q (op :: rest) a w :=
 wpList_step fun _ hK => by
  rw [if_pos hw]
  exact wp_load_mid ty x ho B o hx cs d (by have := World.rangeAt_of_block hB o cs.length; rw [hcs] at this; exact this) hu hd hi (hK _ _ h)
end Go.Proofs.YthgfpdidilolgaaGreat.Eld
namespace Go.Proofs.YthgfpdidilolgaaGreat.Eld
set_option maxRecDepth 10000
open Go.RowKit
theorem builder_info : ∃ j, Tryz.prog.info? 223 = some j ∧ j.size = 2 := Option.map_eq_some_iff.1 (by kernel_rfl)
theorem builder_lies : liesAt Tryz.prog Tryz.prog.depth 223 (2 / Tryz.prog.cellsOf 223) 0 223 1 = true := by kernel_rfl
theorem byte_info : (Tryz.prog.info? 5).map (fun i => (i.zero, i.size, i.bytes)) = some (some (.int .u8 0), 1, 1) := by kernel_rfl
abbrev Bld (b : Nat) (l : List UInt8) (w : World) : Prop := Lib.IsBuilderF 223 5 b b (Lib.byteCells l) w
theorem bld_new (w : World) : Bld w.heap.size [] (w.alloc (.cells #[.pointer none, .slice none 0 0] 223)) :=
 .of (Lib.fresh_isBuilder 223 5 w)
set_option maxHeartbeats 1000000 in
theorem check_ok (b : Nat) (bs : List Value) (w : World) (h : Lib.IsBuilderF 223 5 b b bs w) :
  Calls Tryz.prog 221 #[.pointer (some ⟨b, 0, none⟩)] w fun e w' =>
   e = .returned (.tuple #[]) ∧ Lib.BuilderAtF 223 5 b b (.pointer (some ⟨b, 0, none⟩)) bs w' ∧ Below b w w' ∧ Lib.OthersKept 5 (some b) w w' := by
 obtain ⟨j, hj, hjs⟩ := builder_info
 rcases h with h | h
 all_goals have c0 := h.cell0
 ·have hto := Lib.run_to_unsafe (P := Tryz.prog) w ⟨b, 0, none⟩ Tryz.underlying221 Tryz.underlying269 hj (by rw [hjs]; decide) h.shape Nat.two_pos
  have hno : (callFunc 225 #[.pointer (some ⟨b, 0, none⟩)]).run Tryz.prog w = .ok (.value (.pointer (some ⟨b, 0, none⟩))) w := by
   rw [run_callFunc_extern Tryz.func225 (by kernel_rfl) (by kernel_rfl) (by kernel_rfl) (e := Extern.AbiNoEscape.same) (by kernel_rfl), Lib.run_noEscape]
   rfl
  have hfrom := Lib.run_from_unsafe (P := Tryz.prog) w ⟨b, 0, none⟩ Tryz.underlying269 Tryz.underlying221 hj h.shape builder_lies
  have fz := h.frozen0
  have fin := h.used (.pointer (some ⟨b, 0, none⟩))
  have hbb := h.1
  clear h
  go_enter Tryz.func221, Tryz.ntmps221
  go_wp2
  go_end0
  exact ⟨rfl, fin, (Below.refl b w).setCell hbb _, (Lib.OthersKept.refl _ _ w).setCell ⟨b, 0, none⟩ rfl _⟩
 ·have hsame := Lib.run_neq_ptr_same (P := Tryz.prog) w ⟨b, 0, none⟩ Tryz.underlying221 hj
  go_enter Tryz.func221, Tryz.ntmps221
  go_wp2
  go_end0
  exact ⟨rfl, h, .refl b w, .refl _ _ w⟩
set_option maxHeartbeats 2000000 in
theorem write_ok (b : Nat) (l : List UInt8) (s : ByteArray) (w : World) (h : Bld b l w) (hlen : l.length + s.size ≤ 140737488355328) :
  Calls Tryz.prog 209 #[.pointer (some ⟨b, 0, none⟩), .string s] w fun e w' =>
   e = .returned (.tuple #[.int .i64 s.size, .nilIface]) ∧ Bld b (l ++ s.data.toList) w' ∧ Below b w w' ∧ Lib.OthersKept 5 (some b) w w' := by
 obtain ⟨i0, hi, hz0, hz1, hz2⟩ := info_parts byte_info
 have hl : (Lib.byteCells l).length = l.length := by simp [Lib.byteCells]
 have hcat : Lib.byteCells (l ++ s.data.toList) = Lib.byteCells l ++ Lib.strCells s := by simp [Lib.byteCells, Lib.strCells]
 unfold Bld
 rw [hcat]
 clear hcat
 go_enter Tryz.func209, Tryz.ntmps209
 go_wp2_with fail
 refine (check_ok b _ _ h).mono ?_
 rintro e w1 ⟨rfl, ⟨hbb, v, hblk, own1, apart⟩, below1, kept1⟩
 have grew := below1.size
 have cell1 := (Lib.cell_of_heap hblk 1).trans (rfl : _ = some v)
 have lies : b < w1.heap.size := block_lt_of_cell cell1
 clear h
 go_wp2_with (at_builtin; refine Lib.wpList_append_own_stringF _ rfl _ _ 162 9 rfl b 5 i0 Tryz.underlying162 Tryz.underlying9 hi hz0 hz1 hz2 _ _ _ rfl own1 s rfl ?_ ?_ ?_ ?_)
 ·unfold maxLen; omega
 ·omega
 ·omega
 intro v' w2 own2 grown _
 have blk2 := (grown.block b lies (Ne.symm apart)).trans hblk
 have cell2 := (Lib.cell_of_heap blk2 1).trans (rfl : _ = some v)
 have free2 := Lib.frozen_of_heap blk2 1
 have isSlice : ∃ a n c, v' = .slice a n c := by
  rcases own2.2 with ⟨hv, _⟩ | ⟨_, _, _, _, hv, _⟩ <;> exact ⟨_, _, _, hv⟩
 obtain ⟨a, n, c, rfl⟩ := isSlice
 go_wp2
 go_ret2
 refine ⟨rfl, .inr ?_, ?_, (kept1.grown grown (Lib.ownsRowF_kind own1)).setCell ⟨b, 1, none⟩ rfl _⟩
 ·exact Lib.BuilderAtF.put hbb blk2 (bs' := Lib.byteCells l ++ Lib.strCells s) (by simpa [Lib.strCells_length, hl] using own2) (by decide)
 ·exact (below1.grown grown (by omega) (fun k hk => (own1.lt k hk).1)).setCell hbb _
end Go.Proofs.YthgfpdidilolgaaGreat.Eld
namespace Go.Proofs.YthgfpdidilolgaaGreat.Eld
set_option maxRecDepth 10000
open Go.RowKit
theorem writer_lies : liesAt Tryz.prog Tryz.prog.depth 225 (2 / Tryz.prog.cellsOf 225) 0 223 1 = true := by kernel_rfl
abbrev Wr (b : Nat) (l : List UInt8) (w : World) : Prop := Lib.IsBuilderF 225 5 b b (Lib.byteCells l) w
theorem wr_new (w : World) : Wr w.heap.size [] (w.alloc (.cells #[.pointer none, .slice none 0 0] 225)) :=
 .of (Lib.fresh_isBuilder 225 5 w)
set_option maxHeartbeats 1000000 in
theorem wcheck_ok (b : Nat) (bs : List Value) (w : World) (h : Lib.IsBuilderF 225 5 b b bs w) :
  Calls Tryz.prog 221 #[.pointer (some ⟨b, 0, none⟩)] w fun e w' =>
   e = .returned (.tuple #[]) ∧ Lib.BuilderAtF 225 5 b b (.pointer (some ⟨b, 0, none⟩)) bs w' ∧ Below b w w' ∧ Lib.OthersKept 5 (some b) w w' := by
 obtain ⟨j, hj, hjs⟩ := builder_info
 rcases h with h | h
 all_goals have c0 := h.cell0
 ·have hto := Lib.run_to_unsafe (P := Tryz.prog) w ⟨b, 0, none⟩ Tryz.underlying221 Tryz.underlying269 hj (by rw [hjs]; decide) h.shape Nat.two_pos
  have hno : (callFunc 225 #[.pointer (some ⟨b, 0, none⟩)]).run Tryz.prog w = .ok (.value (.pointer (some ⟨b, 0, none⟩))) w := by
   rw [run_callFunc_extern Tryz.func225 (by kernel_rfl) (by kernel_rfl) (by kernel_rfl) (e := Extern.AbiNoEscape.same) (by kernel_rfl), Lib.run_noEscape]
   rfl
  have hfrom := Lib.run_from_unsafe (P := Tryz.prog) w ⟨b, 0, none⟩ Tryz.underlying269 Tryz.underlying221 hj h.shape writer_lies
  have fz := h.frozen0
  have fin := h.used (.pointer (some ⟨b, 0, none⟩))
  have hbb := h.1
  clear h
  go_enter Tryz.func221, Tryz.ntmps221
  go_wp2
  go_end0
  exact ⟨rfl, fin, (Below.refl b w).setCell hbb _, (Lib.OthersKept.refl _ _ w).setCell ⟨b, 0, none⟩ rfl _⟩
 ·have hsame := Lib.run_neq_ptr_same (P := Tryz.prog) w ⟨b, 0, none⟩ Tryz.underlying221 hj
  go_enter Tryz.func221, Tryz.ntmps221
  go_wp2
  go_end0
  exact ⟨rfl, h, .refl b w, .refl _ _ w⟩
set_option maxHeartbeats 2000000 in
theorem wwrite_ok (b : Nat) (l : List UInt8) (s : ByteArray) (w : World) (h : Wr b l w) (hlen : l.length + s.size ≤ 140737488355328) :
  Calls Tryz.prog 209 #[.pointer (some ⟨b, 0, none⟩), .string s] w fun e w' =>
   e = .returned (.tuple #[.int .i64 s.size, .nilIface]) ∧ Wr b (l ++ s.data.toList) w' ∧ Below b w w' ∧ Lib.OthersKept 5 (some b) w w' := by
 obtain ⟨i0, hi, hz0, hz1, hz2⟩ := info_parts byte_info
 have hl : (Lib.byteCells l).length = l.length := by simp [Lib.byteCells]
 have hcat : Lib.byteCells (l ++ s.data.toList) = Lib.byteCells l ++ Lib.strCells s := by simp [Lib.byteCells, Lib.strCells]
 unfold Wr
 rw [hcat]
 clear hcat
 go_enter Tryz.func209, Tryz.ntmps209
 go_wp2_with fail
 refine (wcheck_ok b _ _ h).mono ?_
 rintro e w1 ⟨rfl, ⟨hbb, v, hblk, own1, apart⟩, below1, kept1⟩
 have grew := below1.size
 have cell1 := (Lib.cell_of_heap hblk 1).trans (rfl : _ = some v)
 have lies : b < w1.heap.size := block_lt_of_cell cell1
 clear h
 go_wp2_with (at_builtin; refine Lib.wpList_append_own_stringF _ rfl _ _ 162 9 rfl b 5 i0 Tryz.underlying162 Tryz.underlying9 hi hz0 hz1 hz2 _ _ _ rfl own1 s rfl ?_ ?_ ?_ ?_)
 ·unfold maxLen; omega
 ·omega
 ·omega
 intro v' w2 own2 grown _
 have blk2 := (grown.block b lies (Ne.symm apart)).trans hblk
 have cell2 := (Lib.cell_of_heap blk2 1).trans (rfl : _ = some v)
 have free2 := Lib.frozen_of_heap blk2 1
 have isSlice : ∃ a n c, v' = .slice a n c := by
  rcases own2.2 with ⟨hv, _⟩ | ⟨_, _, _, _, hv, _⟩ <;> exact ⟨_, _, _, hv⟩
 obtain ⟨a, n, c, rfl⟩ := isSlice
 go_wp2
 go_ret2
 refine ⟨rfl, .inr ?_, ?_, (kept1.grown grown (Lib.ownsRowF_kind own1)).setCell ⟨b, 1, none⟩ rfl _⟩
 ·exact Lib.BuilderAtF.put hbb blk2 (bs' := Lib.byteCells l ++ Lib.strCells s) (by simpa [Lib.strCells_length, hl] using own2) (by decide)
 ·exact (below1.grown grown (by omega) (fun k hk => (own1.lt k hk).1)).setCell hbb _
theorem Wr.at {b : Nat} {l : List UInt8} {w : World} (h : Wr b l w) : ∃ p, Lib.BuilderAtF 225 5 b b p (Lib.byteCells l) w := by
 rcases h with h | h
 ·exact ⟨_, h⟩
 ·exact ⟨_, h⟩
theorem Wr.lt {b : Nat} {l : List UInt8} {w : World} (h : Wr b l w) : b < w.heap.size := by
 obtain ⟨p, hp⟩ := h.at
 exact hp.lt
set_option maxHeartbeats 1000000 in
theorem wstring_ok (b : Nat) (l : List UInt8) (w : World) (h : Wr b l w) (h0 : l ≠ []) :
  Calls Tryz.prog 181 #[.pointer (some ⟨b, 0, none⟩)] w fun e w' => e = .returned (.string ⟨l.toArray⟩) ∧ Below b w w' := by
 obtain ⟨p, hB, v, hbk, hown, hne⟩ := h.at
 have hcell1 : Tryz.prog.cellsOf 5 = 1 := by kernel_rfl
 have hl0 : l.length ≠ 0 := by simpa using h0
 rw [Lib.byteCells_length] at hown
 obtain ⟨g, cap, cur, fz, rfl, hbg, hg, hfz, hnc, hcm, hcs, htake⟩ : ∃ g cap cur fz, v = .slice (some ⟨g, 0, none⟩) l.length cap ∧ b ≤ g ∧ w.heap[g]? = some (.cells cur 5 fz) ∧ fz.2 ≤ l.length * 1 ∧ l.length ≤ cap ∧ cap ≤ maxLen ∧ cur.size = cap * 1 ∧ cur.toList.take (l.length * 1) = Lib.byteCells l := by
  rcases hown.2 with ⟨_, hz⟩ | ⟨g, cap, cur, fz, hv, r⟩
  ·exact absurd hz hl0
  ·exact ⟨g, cap, cur, fz, hv, r⟩
 have c1 : w.drew.cell? ⟨b, 1, none⟩ = some (.slice (some ⟨g, 0, none⟩) l.length cap) := by
  have : w.drew.heap[b]? = _ := hbk
  rw [Lib.cell_of_heap this]; rfl
 have hSD : (Builtin.unsafeSliceData_ #[162] 259 #[.slice (some ⟨g, 0, none⟩) l.length cap]).run Tryz.prog w.drew = .ok (.pointer (some ⟨g, 0, none⟩)) w.drew :=
  Lib.run_unsafeSliceData_row _ _ _ _ _ _ (by omega)
 have hUS : (Builtin.unsafeString_ #[259, 3] 9 #[.pointer (some ⟨g, 0, none⟩), .int .i64 l.length]).run Tryz.prog w.drew = .ok (.string ⟨l.toArray⟩) (w.drew.freeze ⟨g, 0, none⟩ l.length) := by
  refine Lib.run_unsafeString_row w.drew 259 3 9 5 Tryz.underlying259 hcell1 g cur.size (by have hg' : w.drew.heap[g]? = some (.cells cur 5 fz) := hg; simp [World.shape?, hg']) l h0 (by omega) (by unfold maxLen at hcm; omega) ?_
  intro j x hx
  exact hown.cells (g := g) rfl j (.int .u8 x.toNat) (by simp [Lib.byteCells, hx])
 have c0 : w.cell? ⟨b, 1, none⟩ = some (.slice (some ⟨g, 0, none⟩) l.length cap) := c1
 have fin : Below b w (w.drew.freeze ⟨g, 0, none⟩ l.length) := Lib.below_freeze (Below.refl b w).drew (p := ⟨g, 0, none⟩) hbg _
 clear hown htake hcs hfz hg hbk
 go_enter Tryz.func181, Tryz.ntmps181
 go_wp2
 go_region
 all_goals (go_wp2; go_ret; exact ⟨rfl, fin⟩)
end Go.Proofs.YthgfpdidilolgaaGreat.Eld
namespace Go.Proofs.YthgfpdidilolgaaGreat.Eld
set_option maxRecDepth 10000
open Go.RowKit Go.Sort
theorem enCheck (e : En) (w : World) : Calls Tryz.prog 98 #[.agg e.vals.toArray] w fun r w' =>
  r = .returned (.int .i64 (if e.may then 0 else 30)) ∧ Below w.heap.size w w' := check_any e.k e.sv e.g e.se e.n e.t w
set_option maxHeartbeats 2000000 in
theorem frCheck (F : Nat → En) (w : World) : Calls Tryz.prog 61 #[.agg (frc F)] w fun r w' =>
  r = .returned (.int .i64 (if Fr.may F then 0 else 30)) ∧ Below w.heap.size w w' := by
 obtain ⟨c, hc⟩ : ∃ c : Int, Hid ((if Fr.may F then 0 else 30) = c) := ⟨_, rfl⟩
 rw [hc.out]
 go_enter Tryz.func61, Tryz.ntmps61
 go_wp2_with (refine load_blk rfl 43 _ rfl (blk_new w (frc F) 43) rfl Tryz.underlying43 rfl (by rw [frc_size]; exact size27) ?_)
 go_loopw [9] (fun i w' => ∃ m : Nat, m ≤ 3 ∧ i = .int .i64 m ∧ Below w.heap.size w w' ∧ Hid (∀ x, x < 2 * m → (F x).may = true)) (fun i _ => 3 - (intOf i).toNat)
 case atStart => exact ⟨0, by omega, rfl, below_box _ _, fun x hx => by omega⟩
 case round =>
  obtain ⟨m, hm, rfl, hb, hall⟩ := hrel
  by_cases hlt : m < 3
  ·have kix := ix27 F m hlt
   generalize hp : F (2 * m) = p at kix
   generalize hq : F (2 * m + 1) = q at kix
   rename_i wr _ _
   go_wp2_with (first | refine store_new rfl 41 _ _ rfl rfl rfl (by rw [lnc_size]; exact size25) (by rw [lnc_size]; rfl) (lnc_one _ _) ?_ | refine load_blk rfl 41 _ rfl (blk_new _ (lnc p q) 41) rfl Tryz.underlying41 rfl (by rw [lnc_size]; exact size25) ?_)
   go_loopw [13] (fun i w' => ∃ j : Nat, j ≤ 2 ∧ i = .int .i64 j ∧ Below w.heap.size w w' ∧ Hid (∀ x, x < 2 * m + j → (F x).may = true)) (fun i _ => 2 - (intOf i).toNat)
   case atStart => exact ⟨0, by omega, rfl, hb.alloc hb.size _, fun x hx => hall.out x (by omega)⟩
   case round =>
    clear hb hall kix
    obtain ⟨j, hj, rfl, hb, hall⟩ := hrel
    by_cases hjl : j < 2
    ·have kj := ix25 F m j hjl
     rw [hp, hq] at kj
     generalize he : F (2 * m + j) = e at kj
     have hs : e.vals.toArray.size = 6 := rfl
     rename_i wi _ _
     go_wp2_with (first | refine store_new rfl 40 _ _ rfl rfl rfl (by rw [hs]; exact size24) (by rw [hs]; rfl) e.one ?_ | refine load_blk rfl 40 _ rfl (blk_new _ e.vals.toArray 40) rfl Tryz.underlying40 rfl (by rw [hs]; exact size24) ?_)
     refine (enCheck e _).mono ?_
     rintro r w2 ⟨rfl, hb2⟩
     have hb3 := (hb.alloc hb.size (.cells e.vals.toArray 40)).trans (hb2.mono (Nat.le_trans hb.size (by simp)))
     clear hb hb2
     cases hmay : e.may
     ·have hno : Fr.may F = false := by
       cases hc : Fr.may F
       ·rfl
       ·have := (Fr.may_all F).1 hc (2 * m + j) (by omega)
        rw [he, hmay] at this
        cases this
      go_wp2_with fail
      go_ret
      exact ⟨by rw [← hc.out, hno]; rfl, hb3⟩
     ·go_wp2_with fail
      refine ⟨⟨j + 1, by omega, by go_num, hb3, fun x hx => ?_⟩, by simp [intOf]; omega⟩
      rcases Nat.lt_or_ge x (2 * m + j) with h | h
      ·exact hall.out x h
      ·obtain rfl : x = 2 * m + j := by omega
       rw [he]; exact hmay
    ·go_wp2_with fail
     refine ⟨⟨m + 1, by omega, by go_num, hb, fun x hx => hall.out x (by omega)⟩, by simp [intOf]; omega⟩
  ·have hyes : Fr.may F = true := (Fr.may_all F).2 fun x hx => hall.out x (by omega)
   go_wp2_with fail
   go_ret
   exact ⟨by rw [← hc.out, hyes]; rfl, hb⟩
end Go.Proofs.YthgfpdidilolgaaGreat.Eld
namespace Go.Proofs
open Go.Shelf
def Tryz.lays169_ren : Go.Shelf.Ren := ⟨fun | 169 => 181 | n => n, fun | 70 => 221 | 9 => 9 | 0 => 0 | 72 => 223 | 37 => 162 | 127 => 259 | 3 => 3 | 5 => 5 | n => n, fun | n => n⟩
theorem Tryz.lays169 : Go.Proofs.Lays.n169 Tryz.prog Tryz.lays169_ren := {
 mixed := by kernel_rfl
 f169 := Tryz.func181.trans (congrArg some (by kernel_rfl))
 t0 := Tryz.underlying0
 a0 := Tryz.isAgg0
 z0 := Tryz.sizeOf0
 v0 := Tryz.zeroValue0
 t3 := Tryz.underlying3
 a3 := Tryz.isAgg3
 z3 := Tryz.sizeOf3
 v3 := Tryz.zeroValue3
 t9 := Tryz.underlying9
 a9 := Tryz.isAgg9
 z9 := Tryz.sizeOf9
 v9 := Tryz.zeroValue9
 t37 := Tryz.underlying162
 a37 := Tryz.isAgg162
 z37 := Tryz.sizeOf162
 v37 := Tryz.zeroValue162
 t70 := Tryz.underlying221
 a70 := Tryz.isAgg221
 z70 := Tryz.sizeOf221
 v70 := Tryz.zeroValue221
 t72 := Tryz.underlying223
 a72 := Tryz.isAgg223
 z72 := Tryz.sizeOf223
 v72 := Tryz.zeroValue223
 t127 := Tryz.underlying259
 a127 := Tryz.isAgg259
 z127 := Tryz.sizeOf259
 v127 := Tryz.zeroValue259 }
theorem Tryz.Builder_Extra_169 : Builder.Extra Tryz.prog Tryz.lays169_ren := {
 sizeBuilder := by kernel_rfl
 liesBuilder := by kernel_rfl
 t5 := Tryz.underlying5
 a5 := Tryz.isAgg5
 z5 := Tryz.sizeOf5
 v5 := Tryz.zeroValue5
 infoByte := by kernel_rfl
 cellsByte := by kernel_rfl
 sizeByte := by kernel_rfl
 neB5 := by decide }
open Go.RowKit in
theorem Tryz.Builder_String_any_k (B b : Nat) (l : List UInt8) (w : World) (h : Lib.IsBuilderF 223 5 B b (Lib.byteCells l) w) (hBw : B ≤ w.heap.size) :
  Calls Tryz.prog 181 #[.pointer (some ⟨b, 0, none⟩)] w fun e w' => e = .returned (.string ⟨l.toArray⟩) ∧ (Lib.IsBuilderF 223 5 B b (Lib.byteCells l) w' ∧ Below B w w' ∧ Lib.OthersKept 5 (some b) w w') := Any.Builder_String_any_k Tryz.lays169 Tryz.Builder_Extra_169 B b l w h hBw
end Go.Proofs
