/-
  Packets as plain data: their numbers by the cell in which they lie, the flag, three frames; their 145 cells; blocks of which all but one are kept.
  No condition.
-/
import Derived.Test.YtmbddjejbmjmfaaFrWk
namespace Go.Proofs.Ytmbddjejbmjmfaa
set_option maxRecDepth 10000
open Go.RowKit Go.Sort

structure Pk where
  n : Nat → Nat
  r : Bool
  f0 : Nat → En
  f1 : Nat → En
  f2 : Nat → En

def u32v (x : Nat) : Value := .int .u32 (x : Int)
def pkl (p : Pk) : List Value :=
  [.int .u32 (p.n 0), .int .u32 (p.n 1), .int .u32 (p.n 2), .int .u32 (p.n 3), .int .u32 (p.n 4),
   .int .u32 (p.n 5), .int .u32 (p.n 6), .int .u32 (p.n 7), .int .u32 (p.n 8), .int .u32 (p.n 9), .int .u32 (p.n 10), .int .u32 (p.n 11), .int .u32 (p.n 12),
   .int .u32 (p.n 13), .int .u32 (p.n 14), .int .u32 (p.n 15), .int .u32 (p.n 16), .int .u32 (p.n 17), .int .u32 (p.n 18), .int .u32 (p.n 19), .int .u32 (p.n 20),
   .int .u32 (p.n 21), .int .u32 (p.n 22), .int .u32 (p.n 23),
   .int .u32 (p.n 24), .int .u32 (p.n 25), .int .u32 (p.n 26), .int .u32 (p.n 27), .int .u32 (p.n 28), .int .u32 (p.n 29), .int .u32 (p.n 30), .int .u32 (p.n 31),
   .bool p.r, .int .u32 (p.n 33), .int .u32 (p.n 34)] ++ (enCells (Fr.list p.f0) ++ (enCells (Fr.list p.f1) ++ ([.int .u32 (p.n 107), .int .u32 (p.n 108)] ++ enCells (Fr.list p.f2))))
def pkc (p : Pk) : Array Value := (pkl p).toArray
def Pk.zero : Pk := ⟨fun _ => 0, false, zeroFr, zeroFr, zeroFr⟩
def Pk.may (p : Pk) : Bool := (decide (p.n 0 < 8) && (decide (p.n 107 < 8) && (decide (p.n 3 < 8) && decide (p.n 22 < 8)))) && (Fr.may p.f0 && (Fr.may p.f1 && Fr.may p.f2))

theorem pkc_size (p : Pk) : (pkc p).size = 145 := by
  show (pkl p).toArray.size = 145
  rw [List.size_toArray]
  simp only [pkl, List.length_append, enCells_length, List.length_cons, List.length_nil, Fr.list]
theorem pkl_one (p : Pk) : ∀ v ∈ pkl p, v.oneCell' = true := by
  intro v hv
  simp only [pkl, List.mem_append] at hv
  rcases hv with hv | hv | hv | hv | hv
  · simp only [List.mem_cons, List.not_mem_nil, or_false] at hv
    rcases hv with rfl | rfl | rfl | rfl | rfl | rfl | rfl | rfl | rfl | rfl | rfl | rfl | rfl | rfl | rfl | rfl | rfl | rfl | rfl | rfl | rfl | rfl | rfl | rfl | rfl | rfl | rfl | rfl | rfl | rfl | rfl | rfl | rfl | rfl | rfl <;> rfl
  · exact enCells_one _ v hv
  · exact enCells_one _ v hv
  · simp only [List.mem_cons, List.not_mem_nil, or_false] at hv
    rcases hv with rfl | rfl <;> rfl
  · exact enCells_one _ v hv
theorem pkc_one (p : Pk) : (pkc p).all (·.oneCell') = true := all_oneCell_toArray (pkl_one p)

theorem part_f0 (p : Pk) : ((pkc p).extract 35 (35 + (enCells (Fr.list p.f0)).length)).toList = enCells (Fr.list p.f0) := by kernel_rfl
theorem part_f1 (p : Pk) : ((pkc p).extract 71 (71 + (enCells (Fr.list p.f1)).length)).toList = enCells (Fr.list p.f1) := by kernel_rfl
theorem part_f2 (p : Pk) : ((pkc p).extract 109 (109 + (enCells (Fr.list p.f2)).length)).toList = enCells (Fr.list p.f2) := by kernel_rfl
def idl (a b c : Nat) : List Value := [.int .u32 a, .int .u32 b, .int .u32 c]
def idc (a b c : Nat) : Array Value := (idl a b c).toArray
def rowl (f : Nat → Nat) (o : Nat) : List Value := [.int .u32 (f o), .int .u32 (f (o + 1)), .int .u32 (f (o + 2)), .int .u32 (f (o + 3)), .int .u32 (f (o + 4)), .int .u32 (f (o + 5)), .int .u32 (f (o + 6)), .int .u32 (f (o + 7))]
def rowc (f : Nat → Nat) (o : Nat) : Array Value := (rowl f o).toArray
theorem part_id2 (p : Pk) : ((pkc p).extract 2 (2 + (idl (p.n 2) (p.n 3) (p.n 4)).length)).toList = idl (p.n 2) (p.n 3) (p.n 4) := by kernel_rfl
theorem part_id21 (p : Pk) : ((pkc p).extract 21 (21 + (idl (p.n 21) (p.n 22) (p.n 23)).length)).toList = idl (p.n 21) (p.n 22) (p.n 23) := by kernel_rfl
theorem part_r5 (p : Pk) : ((pkc p).extract 5 (5 + (rowl p.n 5).length)).toList = rowl p.n 5 := by kernel_rfl
theorem part_r13 (p : Pk) : ((pkc p).extract 13 (13 + (rowl p.n 13).length)).toList = rowl p.n 13 := by kernel_rfl
theorem part_r24 (p : Pk) : ((pkc p).extract 24 (24 + (rowl p.n 24).length)).toList = rowl p.n 24 := by kernel_rfl

theorem frl_arr (F : Nat → En) : (enCells (Fr.list F)).toArray = frc F := rfl
theorem frl_length (F : Nat → En) : (enCells (Fr.list F)).length = 36 := by rw [enCells_length]; rfl

theorem size35 : (Try.prog.info? 35).map (·.size) = some 145 := by kernel_rfl
theorem sizeId : (Try.prog.info? 24).map (·.size) = some 3 := by kernel_rfl
theorem sizeRow : (Try.prog.info? 25).map (·.size) = some 8 := by kernel_rfl
theorem sizeMem : (Try.prog.info? 26).map (·.size) = some 8 := by kernel_rfl
theorem sizeCnt : (Try.prog.info? 27).map (·.size) = some 8 := by kernel_rfl
theorem pk_info : (Try.prog.info? 35).map (fun i => (i.zero, i.size)) = some (some (.agg (pkc Pk.zero)), 145) := by kernel_rfl
theorem pk_built : Try.prog.built 35 [] = some (pkc Pk.zero) := by kernel_rfl

theorem Blk.cell {B : Nat} {C : Array Value} {T : TypeId} {w : World} (h : Blk B C T w) (o : Nat) (v : Value) (hv : C[o]? = some v) : w.cell? ⟨B, o, none⟩ = some v := by
  rw [cell_of_row w B o C T (0, 0) h]; exact hv
theorem Blk.free {B : Nat} {C : Array Value} {T : TypeId} {w : World} (h : Blk B C T w) (o : Nat) : w.frozen? ⟨B, o, none⟩ = false := frozen_of_row w B _ C T h

theorem alloc_pk {ops : Array Oper} {rest : List Oper} {o : Oper} {a : Act} {w : World} {Q : Exit → Act → World → Prop} (hgd : o.guard = none) (ho : o.op = .alloc 35)
    (h : wpList Try.prog ops Q rest (a.put o.dst (.pointer (some ⟨w.heap.size, 0, none⟩))) (w.alloc (.cells (pkc Pk.zero) 35))) : wpList Try.prog ops Q (o :: rest) a w :=
  wpList_plain hgd fun _ hK => by
    have hz := (zero_of_info pk_info).1
    have hk := hK _ _ h
    unfold Oper.wp execOp
    simp only [ho, Instr.alloc, Sem.run_bind, hz, Result.andThen_ok]
    exact hk

theorem build_pk {ops : Array Oper} {rest : List Oper} {o : Oper} {a : Act} {w : World} {Q : Exit → Act → World → Prop} (hgd : o.guard = none) (ho : o.op = .build 35 #[])
    (h : wpList Try.prog ops Q rest (a.put o.dst (.agg (pkc Pk.zero))) w) : wpList Try.prog ops Q (o :: rest) a w :=
  wpList_build hgd 35 #[] ho (by simp [pk_built]) (by simpa [pk_built] using h)

theorem ret_pk {fn : Func} {p u : Tmp} (hr : fn.results = #[.cell p 35, .tmp u]) {tmps : Array Value} {w : World} {B : Nat} {C : Array Value} {T : TypeId} (hp : tmps.getD p undef = .pointer (some ⟨B, 0, none⟩)) (hB : Blk B C T w) (hC : C.size = 145) {v : Value} (hu : tmps.getD u undef = v) :
    (results fn tmps).run Try.prog w = .ok (.tuple #[.agg C, v]) w := by
  rw [results_cell_tmp hr, hp, hu]
  have := run_loadVar_row (P := Try.prog) w B T 35 C (0, 0) _ hB Try.underlying35 rfl (by rw [hC]; exact size35)
  simp [asAddr, this]

/- All blocks but one are as they were. -/
structure But (b : Nat) (w w' : World) : Prop where
  os : w'.os = w.os
  tape : w'.tape = w.tape
  output : w'.output = w.output
  size : w.heap.size ≤ w'.heap.size
  block : ∀ k, k < w.heap.size → k ≠ b → w'.heap[k]? = w.heap[k]?

theorem But.refl (b : Nat) (w : World) : But b w w := ⟨rfl, rfl, rfl, Nat.le_refl _, fun _ _ _ => rfl⟩
theorem But.trans {b : Nat} {u v w : World} (h : But b u v) (k : But b v w) : But b u w :=
  ⟨k.os.trans h.os, k.tape.trans h.tape, k.output.trans h.output, Nat.le_trans h.size k.size, fun i hi hb => (k.block i (Nat.lt_of_lt_of_le hi h.size) hb).trans (h.block i hi hb)⟩
theorem But.of_below {b : Nat} {w w' : World} (h : Below w.heap.size w w') : But b w w' := ⟨h.os, h.tape, h.output, h.size, fun k hk _ => h.block k hk⟩
theorem But.below {b B : Nat} {w w' : World} (h : But b w w') (hB : B ≤ b) (hw : B ≤ w.heap.size) : Below B w w' := ⟨h.os, h.tape, h.output, h.size, fun k hk => h.block k (by omega) (by omega)⟩
theorem But.alloc (b : Nat) (w : World) (o : Obj) : But b w (w.alloc o) := But.of_below ((Below.refl _ _).alloc (Nat.le_refl _) o)
theorem But.drew (b : Nat) (w : World) : But b w w.drew := ⟨rfl, rfl, rfl, Nat.le_refl _, fun _ _ _ => rfl⟩
theorem But.setCell (b o : Nat) (w : World) (v : Value) : But b w (w.setCell ⟨b, o, none⟩ v) :=
  ⟨rfl, rfl, rfl, by simp [World.setCell], fun k _ hb => Below.heap_setCell _ _ _ _ hb⟩
theorem But.setCells (b : Nat) : ∀ (vs : List Value) (o : Nat) (w : World), But b w (w.setCells b o vs)
  | [], _, w => But.refl b w
  | v :: r, o, w => (But.setCell b o w v).trans (But.setCells b r (o + 1) _)
theorem Blk.but {A b : Nat} {C : Array Value} {T : TypeId} {w w' : World} (h : Blk A C T w) (hb : But b w w') (hne : A ≠ b) : Blk A C T w' := (hb.block A h.lt hne).trans h

theorem putAt_size (o : Nat) (vs : List Value) : ∀ (C : Array Value), (putAt C o vs).size = C.size := by
  induction vs generalizing o with
  | nil => intro C; rfl
  | cons v r ih => intro C; show (putAt (C.setIfInBounds o v) (o + 1) r).size = C.size; rw [ih]; simp

/- A store of many cells into a part of a block: the world behind it is a new name. -/
theorem store_part {ops : Array Oper} {rest : List Oper} {o : Oper} {a : Act} {w : World} {Q : Exit → Act → World → Prop} (hgd : o.guard = none) (ty : TypeId) (x y : Operand) (ho : o.op = .store ty x y)
    {B off : Nat} {C cells : Array Value} {T : TypeId} (hB : Blk B C T w) (hx : a.eval x = .pointer (some ⟨B, off, none⟩)) (hy : a.eval y = .agg cells) (hi : (Try.prog.info? ty).map (·.size) = some cells.size) (hs : off + cells.size ≤ C.size) (h1 : cells.all (·.oneCell') = true)
    (h : ∀ W, Blk B (putAt C off cells.toList) T W → But B w W → wpList Try.prog ops Q rest (a.put o.dst undef) W) : wpList Try.prog ops Q (o :: rest) a w :=
  wpList_store_mid hgd ty x y ho B off cells hx hy (hB.there off cells.size hs) hi h1 (h _ (hB.setCells cells.toList off) (But.setCells B cells.toList off w))

theorem load_wpart {ops : Array Oper} {rest : List Oper} {op : Oper} {a : Act} {w : World} {Q : Exit → Act → World → Prop} (hw : Region.wanted op (yielded ops a.tmps) = true) (ty : TypeId) (x : Operand) (ho : op.op = .load ty x)
    {B o : Nat} {C : Array Value} {T : TypeId} (hB : Blk B C T w) (hx : a.eval x = .pointer (some ⟨B, o, none⟩)) (cs : List Value) (hcs : (C.extract o (o + cs.length)).toList = cs) {d : TypeDesc} (hu : Try.prog.underlying ty = some d) (hd : d.isRow = true) (hi : (Try.prog.info? ty).map (·.size) = some cs.length)
    (h : wpList Try.prog ops Q rest (a.put op.dst (.agg cs.toArray)) w) : wpList Try.prog ops Q (op :: rest) a w :=
  wpList_step fun _ hK => by
    rw [if_pos hw]
    exact wp_load_mid ty x ho B o hx cs d (by have := World.rangeAt_of_block hB o cs.length; rw [hcs] at this; exact this) hu hd hi (hK _ _ h)

end Go.Proofs.Ytmbddjejbmjmfaa
