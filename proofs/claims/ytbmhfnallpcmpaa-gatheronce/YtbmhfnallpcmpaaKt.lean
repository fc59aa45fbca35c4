/-
  Frames that were received, as plain data: their cells; two that are the same compared; lists of them; as arguments.
  No condition.
-/
import Derived.Test.YtbmhfnallpcmpaaGe
import Derived.Test.YtbmhfnallpcmpaaEn
import Derived.Test.YtbmhfnallpcmpaaRd
namespace Go.Proofs.Ytbmhfnallpcmpaa
set_option maxRecDepth 10000
open Go.ChangeShapes Go.WideShapes Go.ChangeAt Go.RowKit Go.WideElems Go.Sort

/- A frame: six entries. -/
def frv (f : Nat → En) : List Value := (f 0).vals ++ ((f 1).vals ++ ((f 2).vals ++ ((f 3).vals ++ ((f 4).vals ++ (f 5).vals))))
def frc (f : Nat → En) : Array Value := (frv f).toArray
def noFr : Nat → En := fun _ => En.zero
theorem frv_length (f : Nat → En) : (frv f).length = 36 := rfl
theorem frc_size (f : Nat → En) : (frc f).size = 36 := rfl
theorem frv_one (f : Nat → En) : ∀ v ∈ frv f, v.oneCell' = true := by
  intro v hv
  simp only [frv, List.mem_append] at hv
  rcases hv with h | h | h | h | h | h <;> exact En.vals_one _ v h
theorem frc_one (f : Nat → En) : (frc f).all (·.oneCell') = true := all_oneCell_toArray (frv_one f)
theorem sizeFr : (Try.prog.info? 41).map (·.size) = some 36 := by kernel_rfl
theorem zeroFr : (Try.prog.info? 41).map (fun i => (i.zero, i.size)) = some (some (.agg (frc noFr)), 36) := by kernel_rfl
theorem builtFr : Try.prog.built 41 [] = some (frc noFr) := by kernel_rfl

/- A frame that was received: whose, its round, the frame. -/
structure Kt where
  fr : Int
  rd : Nat
  f : Nat → En
  lt : rd < 4294967296

def Kt.vals (x : Kt) : List Value := .int .i64 x.fr :: .int .u32 (x.rd : Int) :: frv x.f
def Kt.arr (x : Kt) : Array Value := x.vals.toArray
def Kt.zero : Kt := ⟨0, 0, noFr, by decide⟩
theorem Kt.vals_length (x : Kt) : x.vals.length = 38 := rfl
theorem Kt.arr_size (x : Kt) : x.arr.size = 38 := rfl
theorem Kt.vals_one (x : Kt) : ∀ v ∈ x.vals, v.oneCell' = true := by
  intro v hv
  rcases List.mem_cons.1 hv with rfl | hv
  · rfl
  · rcases List.mem_cons.1 hv with rfl | hv
    · rfl
    · exact frv_one _ v hv
theorem Kt.arr_one (x : Kt) : x.arr.all (·.oneCell') = true := all_oneCell_toArray x.vals_one
theorem sizeKt : (Try.prog.info? 97).map (·.size) = some 38 := by kernel_rfl
theorem Kt.size (x : Kt) : (Try.prog.info? 97).map (·.size) = some x.arr.size := sizeKt
theorem zeroKt : (Try.prog.info? 97).map (fun i => (i.zero, i.size)) = some (some (.agg Kt.zero.arr), 38) := by kernel_rfl
theorem builtKt : Try.prog.built 97 [] = some Kt.zero.arr := by kernel_rfl
theorem builtKt1 (r : Nat) (h : r < 4294967296) : Try.prog.built 97 [(1, .int .u32 (r : Int))] = some (Kt.mk 0 r noFr h).arr := by kernel_rfl
theorem builtKt3 (i : Int) (r : Nat) (f : Nat → En) (h : r < 4294967296) : Try.prog.built 97 [(0, .int .i64 i), (1, .int .u32 (r : Int)), (2, .agg (frc f))] = some (Kt.mk i r f h).arr := by kernel_rfl
theorem infoKt : ∃ i z, Try.prog.info? 97 = some i ∧ i.zero = some z ∧ i.size = 38 ∧ i.bytes = 352 ∧ z.cells.size = 38 := by
  have h : (Try.prog.info? 97).map (fun i => (i.zero, i.size, i.bytes)) = some (some (.agg Kt.zero.arr), 38, 352) := by kernel_rfl
  obtain ⟨i, hi, h0, h1, h2⟩ := info_parts h
  exact ⟨i, _, hi, h0, h1, h2, rfl⟩
theorem Kt.get0 (x : Kt) : x.arr[0]? = some (.int .i64 x.fr) := rfl
theorem Kt.get1 (x : Kt) : x.arr[1]? = some (.int .u32 (x.rd : Int)) := rfl
theorem Kt.frame (x : Kt) : (x.arr.extract 2 (2 + (frv x.f).length)).toList = frv x.f := by kernel_rfl

theorem bsKt (x : Kt) (w : World) : (Instr.buildSlice 30 1 #[(0, .agg x.arr)]).run Try.prog w = .ok (.slice (some ⟨w.heap.size, 0, none⟩) 1 1) (w.alloc (.cells x.arr 97)) := by kernel_rfl
theorem bsNo (w : World) : (Instr.buildSlice 30 0 #[]).run Try.prog w = .ok (.slice (some ⟨w.heap.size, 0, none⟩) 0 0) (w.alloc (.cells #[] 97)) := by kernel_rfl
theorem box_kt {ops : Array Oper} {rest : List Oper} {op : Oper} {a : Act} {w : World} {Q : Exit → Act → World → Prop} (hgd : op.guard = none) (y : Operand) (ho : op.op = .buildSlice 30 1 #[(0, y)]) (x : Kt) (hx : a.eval y = .agg x.arr)
    (h : wpList Try.prog ops Q rest (a.put op.dst (.slice (some ⟨w.heap.size, 0, none⟩) 1 1)) (w.alloc (.cells x.arr 97))) : wpList Try.prog ops Q (op :: rest) a w :=
  wpList_plain hgd fun _ hK => by
    have hk := hK _ _ h
    unfold Oper.wp execOp
    simp only [ho, List.map_toArray, List.map_cons, List.map_nil, hx, Sem.run_bind, Sem.run_pure, bsKt, Result.andThen_ok]
    exact hk
theorem box_no {ops : Array Oper} {rest : List Oper} {op : Oper} {a : Act} {w : World} {Q : Exit → Act → World → Prop} (hgd : op.guard = none) (ho : op.op = .buildSlice 30 0 #[])
    (h : wpList Try.prog ops Q rest (a.put op.dst (.slice (some ⟨w.heap.size, 0, none⟩) 0 0)) (w.alloc (.cells #[] 97))) : wpList Try.prog ops Q (op :: rest) a w :=
  wpList_plain hgd fun _ hK => by
    have hk := hK _ _ h
    unfold Oper.wp execOp
    simp only [ho, List.map_toArray, List.map_nil, Sem.run_bind, Sem.run_pure, bsNo, Result.andThen_ok]
    exact hk

/- Compared with itself. -/
theorem sameEn (e : En) (d : Nat) (w : World) : (Op.equalIn (d + 1 + 1) 38 (.agg e.arr) (.agg e.arr)).run Try.prog w = .ok true w := by
  have hu : Try.prog.underlying 38 = some (.struct (Try.prog.fieldsOf 38)) := by kernel_rfl
  rw [run_equalIn_struct w (d + 1) 38 e.arr e.arr hu (by kernel_rfl)]
  apply fields_same
  have hf : (Try.prog.fieldsOf 38).toList.map (fun f => (f.name, f.type, f.offset)) = [("Kind", 3, 0), ("Service", 3, 1), ("Group", 3, 2), ("Session", 36, 3), ("Number", 36, 4), ("Text", 9, 5)] := by kernel_rfl
  intro f hmem
  have hm : (f.name, f.type, f.offset) ∈ (Try.prog.fieldsOf 38).toList.map (fun f => (f.name, f.type, f.offset)) := List.mem_map_of_mem (f := fun f : Field => (f.name, f.type, f.offset)) hmem
  rw [hf] at hm
  generalize f.name = fn at hm ⊢
  generalize f.type = ft at hm ⊢
  generalize f.offset = fo at hm ⊢
  simp only [List.mem_cons, List.not_mem_nil, or_false, Prod.mk.injEq] at hm
  rcases hm with ⟨rfl, rfl, rfl⟩ | ⟨rfl, rfl, rfl⟩ | ⟨rfl, rfl, rfl⟩ | ⟨rfl, rfl, rfl⟩ | ⟨rfl, rfl, rfl⟩ | ⟨rfl, rfl, rfl⟩
  · exact ⟨by decide, .int .i64 e.k, by kernel_rfl, by simp [go_sem]⟩
  · exact ⟨by decide, .int .i64 e.sv, by kernel_rfl, by simp [go_sem]⟩
  · exact ⟨by decide, .int .i64 e.g, by kernel_rfl, by simp [go_sem]⟩
  · exact ⟨by decide, .int .u64 (e.se : Int), by kernel_rfl, by simp [go_sem]⟩
  · exact ⟨by decide, .int .u64 (e.n : Int), by kernel_rfl, by simp [go_sem]⟩
  · exact ⟨by decide, .string e.t, by kernel_rfl, by simp [go_sem]⟩

def lnv (a b : En) : Array Value := (a.vals ++ b.vals).toArray
theorem sameLn (a b : En) (d : Nat) (w : World) : (Op.equalIn (d + 1 + 1 + 1) 39 (.agg (lnv a b)) (.agg (lnv a b))).run Try.prog w = .ok true w := by
  obtain ⟨i, hi⟩ : ∃ i, Try.prog.info? 38 = some i := Option.isSome_iff_exists.1 (by kernel_rfl)
  have hc : Try.prog.cellsOf 38 = 6 := by kernel_rfl
  rw [run_equalIn_array w (d + 1 + 1) (lnv a b) (lnv a b) Try.underlying39 hi, hc]
  apply items_same
  intro j hj
  have h2 := List.mem_range.1 hj
  obtain rfl | rfl : j = 0 ∨ j = 1 := by omega
  · exact ⟨.agg a.arr, by kernel_rfl, sameEn a d w⟩
  · exact ⟨.agg b.arr, by kernel_rfl, sameEn b d w⟩
theorem sameFr (f : Nat → En) (d : Nat) (w : World) : (Op.equalIn (d + 1 + 1 + 1 + 1) 41 (.agg (frc f)) (.agg (frc f))).run Try.prog w = .ok true w := by
  obtain ⟨i, hi⟩ : ∃ i, Try.prog.info? 39 = some i := Option.isSome_iff_exists.1 (by kernel_rfl)
  have hc : Try.prog.cellsOf 39 = 12 := by kernel_rfl
  rw [run_equalIn_array w (d + 1 + 1 + 1) (frc f) (frc f) Try.underlying41 hi, hc]
  apply items_same
  intro j hj
  have h2 := List.mem_range.1 hj
  obtain rfl | rfl | rfl : j = 0 ∨ j = 1 ∨ j = 2 := by omega
  · exact ⟨.agg (lnv (f 0) (f 1)), by kernel_rfl, sameLn _ _ d w⟩
  · exact ⟨.agg (lnv (f 2) (f 3)), by kernel_rfl, sameLn _ _ d w⟩
  · exact ⟨.agg (lnv (f 4) (f 5)), by kernel_rfl, sameLn _ _ d w⟩
theorem sameKt (x : Kt) (w : World) : (Op.equalIn 10000 97 (.agg x.arr) (.agg x.arr)).run Try.prog w = .ok true w := by
  have hu : Try.prog.underlying 97 = some (.struct (Try.prog.fieldsOf 97)) := by kernel_rfl
  rw [show (10000 : Nat) = 9999 + 1 from rfl, run_equalIn_struct w 9999 97 x.arr x.arr hu (by kernel_rfl)]
  apply fields_same
  have hf : (Try.prog.fieldsOf 97).toList.map (fun f => (f.name, f.type, f.offset)) = [("From", 3, 0), ("Round", 22, 1), ("Frame", 41, 2)] := by kernel_rfl
  intro f hmem
  have hm : (f.name, f.type, f.offset) ∈ (Try.prog.fieldsOf 97).toList.map (fun f => (f.name, f.type, f.offset)) := List.mem_map_of_mem (f := fun f : Field => (f.name, f.type, f.offset)) hmem
  rw [hf] at hm
  generalize f.name = fn at hm ⊢
  generalize f.type = ft at hm ⊢
  generalize f.offset = fo at hm ⊢
  simp only [List.mem_cons, List.not_mem_nil, or_false, Prod.mk.injEq] at hm
  rcases hm with ⟨rfl, rfl, rfl⟩ | ⟨rfl, rfl, rfl⟩ | ⟨rfl, rfl, rfl⟩
  · exact ⟨by decide, .int .i64 x.fr, by kernel_rfl, by simp [go_sem]⟩
  · exact ⟨by decide, .int .u32 (x.rd : Int), by kernel_rfl, by simp [go_sem]⟩
  · exact ⟨by decide, .agg (frc x.f), by kernel_rfl, sameFr x.f 9995 w⟩
theorem eqlKt (x : Kt) (w : World) : (binOp .eql 97 (.agg x.arr) (.agg x.arr)).run Try.prog w = .ok (.bool true) w := by
  rw [run_eql_struct, sameKt]; rfl
theorem neqKt (x : Kt) (w : World) : (binOp .neq 97 (.agg x.arr) (.agg x.arr)).run Try.prog w = .ok (.bool false) w := by
  rw [run_neq_struct, sameKt]; rfl
theorem eqlFr (f : Nat → En) (w : World) : (binOp .eql 41 (.agg (frc f)) (.agg (frc f))).run Try.prog w = .ok (.bool true) w := by
  rw [run_eql_struct, show (10000 : Nat) = 9996 + 1 + 1 + 1 + 1 from rfl, sameFr]; rfl
theorem neqFr (f : Nat → En) (w : World) : (binOp .neq 41 (.agg (frc f)) (.agg (frc f))).run Try.prog w = .ok (.bool false) w := by
  rw [run_neq_struct, show (10000 : Nat) = 9996 + 1 + 1 + 1 + 1 from rfl, sameFr]; rfl

section
variable {H : Type} {enc : TypeId × Value → H} {W : World} {base : Nat} {spare : Nat → Bool} {held : Bool}

theorem en_cells {l : List Value} {fuel : Nat} {o : Option (DataW H × List MemPlace)} (ho : o.isSome = true) (h : DataW.trod enc Try.prog W base spare held fuel 38 l = o) : ∃ e : En, l = e.vals := by
  obtain ⟨y, rfl⟩ := Option.isSome_iff_exists.1 ho
  exact cellsEn h
theorem ln_cells {l : List Value} {fuel : Nat} {o : Option (DataW H × List MemPlace)} (ho : o.isSome = true) (h : DataW.trod enc Try.prog W base spare held fuel 39 l = o) : ∃ a b : En, l = a.vals ++ b.vals := by
  obtain ⟨y, rfl⟩ := Option.isSome_iff_exists.1 ho
  have h6 : Try.prog.cellsOf 38 = 6 := by kernel_rfl
  have hC : Try.prog.cellsOf 39 = 12 := by kernel_rfl
  obtain ⟨xs, m, _, _, hlen, hl, hg⟩ := DataW.trod_array Try.underlying39 h
  rw [hC] at hlen
  have hl2 : xs.length = 2 := hl
  obtain ⟨a, e0⟩ := en_cells (by rw [List.getElem?_eq_getElem (by omega)]; rfl) (hg 0 (by omega))
  obtain ⟨b, e1⟩ := en_cells (by rw [List.getElem?_eq_getElem (by omega)]; rfl) (hg 1 (by omega))
  rw [h6] at e0 e1
  have z : l.drop 12 = [] := List.drop_eq_nil_of_le (by omega)
  have e : l = (l.drop (0 * 6)).take 6 ++ (l.drop (1 * 6)).take 6 := by
    conv => lhs; rw [← List.drop_zero (l := l), more l 0 6, more l 6 6, z, List.append_nil]
  refine ⟨a, b, ?_⟩
  rw [e, e0, e1]
theorem fr_cells {l : List Value} {fuel : Nat} {o : Option (DataW H × List MemPlace)} (ho : o.isSome = true) (h : DataW.trod enc Try.prog W base spare held fuel 41 l = o) : ∃ f : Nat → En, l = frv f := by
  obtain ⟨y, rfl⟩ := Option.isSome_iff_exists.1 ho
  have h6 : Try.prog.cellsOf 39 = 12 := by kernel_rfl
  have hC : Try.prog.cellsOf 41 = 36 := by kernel_rfl
  obtain ⟨xs, m, _, _, hlen, hl, hg⟩ := DataW.trod_array Try.underlying41 h
  rw [hC] at hlen
  have hl2 : xs.length = 3 := hl
  obtain ⟨a0, a1, e0⟩ := ln_cells (by rw [List.getElem?_eq_getElem (by omega)]; rfl) (hg 0 (by omega))
  obtain ⟨a2, a3, e1⟩ := ln_cells (by rw [List.getElem?_eq_getElem (by omega)]; rfl) (hg 1 (by omega))
  obtain ⟨a4, a5, e2⟩ := ln_cells (by rw [List.getElem?_eq_getElem (by omega)]; rfl) (hg 2 (by omega))
  rw [h6] at e0 e1 e2
  have z : l.drop 36 = [] := List.drop_eq_nil_of_le (by omega)
  have e : l = (l.drop (0 * 12)).take 12 ++ ((l.drop (1 * 12)).take 12 ++ (l.drop (2 * 12)).take 12) := by
    conv => lhs; rw [← List.drop_zero (l := l), more l 0 12, more l 12 12, more l 24 12, z, List.append_nil]
  refine ⟨fun i => match i with | 0 => a0 | 1 => a1 | 2 => a2 | 3 => a3 | 4 => a4 | _ => a5, ?_⟩
  rw [e, e0, e1, e2]
  simp only [frv, List.append_assoc]
theorem kt_cells {l : List Value} {fuel : Nat} {o : Option (DataW H × List MemPlace)} (ho : o.isSome = true) (h : DataW.trod enc Try.prog W base spare held fuel 97 l = o) : ∃ x : Kt, l = x.vals := by
  obtain ⟨y, rfl⟩ := Option.isSome_iff_exists.1 ho
  have hC : Try.prog.cellsOf 97 = 38 := by kernel_rfl
  have h1 : Try.prog.cellsOf 3 = 1 := by kernel_rfl
  have h2 : Try.prog.cellsOf 22 = 1 := by kernel_rfl
  have h3 : Try.prog.cellsOf 41 = 36 := by kernel_rfl
  obtain ⟨xs, k, _, _, hlen, hl, hg⟩ := DataW.trod_struct Try.underlying97 h
  have hl3 : xs.length = 3 := hl
  have g0 := hg 0 _ rfl
  have g1 := hg 1 _ rfl
  have g2 := hg 2 _ rfl
  obtain ⟨i, e0⟩ := i64_cell (by rw [List.getElem?_eq_getElem (by omega)]; rfl) g0
  obtain ⟨n, e1, b1⟩ := u32_cell (by rw [List.getElem?_eq_getElem (by omega)]; rfl) g1
  obtain ⟨f, e2⟩ := fr_cells (by rw [List.getElem?_eq_getElem (by omega)]; rfl) g2
  rw [hC] at hlen
  refine ⟨⟨i, n, f, b1⟩, ?_⟩
  change (l.drop 0).take (Try.prog.cellsOf 3) = _ at e0
  change (l.drop 1).take (Try.prog.cellsOf 22) = _ at e1
  change (l.drop 2).take (Try.prog.cellsOf 41) = _ at e2
  rw [h1] at e0
  rw [h2] at e1
  rw [h3] at e2
  have z : l.drop 38 = [] := List.drop_eq_nil_of_le (by omega)
  have e : l = (l.drop 0).take 1 ++ ((l.drop 1).take 1 ++ (l.drop 2).take 36) := by
    conv => lhs; rw [← List.drop_zero (l := l), more l 0 1, more l 1 1, more l 2 36, z, List.append_nil]
  rw [e, e0, e1, e2]
  rfl
theorem cellsKt {cs : List Value} {fuel : Nat} {x : DataW H × List MemPlace} (h : DataW.trod enc Try.prog W base spare held fuel 97 cs = some x) : ∃ e : Kt, cs = e.vals := kt_cells rfl h
theorem open_kt {v : Value} {d : DataW H} {p : List MemPlace} (hv : ∃ cs, v = .agg cs) (h : DataW.Trod enc Try.prog W base spare held 97 v d p) : ∃ x : Kt, v = .agg x.arr := by
  obtain ⟨cs, rfl⟩ := hv
  obtain ⟨fuel, hf⟩ := h
  obtain ⟨x, e⟩ := kt_cells rfl hf
  exact ⟨x, agg_of e⟩
theorem open_fr {v : Value} {d : DataW H} {p : List MemPlace} (hv : ∃ cs, v = .agg cs) (h : DataW.Trod enc Try.prog W base spare held 41 v d p) : ∃ f : Nat → En, v = .agg (frc f) := by
  obtain ⟨cs, rfl⟩ := hv
  obtain ⟨fuel, hf⟩ := h
  obtain ⟨x, e⟩ := fr_cells rfl hf
  exact ⟨x, agg_of e⟩
theorem open_kts {v : Value} {d : DataW H} {p : List MemPlace} (hv : ∃ a n c, v = .slice a n c) (h : DataW.Trod enc Try.prog W base spare held 30 v d p) :
    ∃ (a : Option Addr) (L : List Kt) (c : Nat), v = .slice a L.length c ∧ L.length ≤ maxLen ∧ Li Kt.vals 0 a L W :=
  open_li Kt.zero Kt.vals_length (by decide) Try.underlying30 (by kernel_rfl) cellsKt hv h

end

end Go.Proofs.Ytbmhfnallpcmpaa
