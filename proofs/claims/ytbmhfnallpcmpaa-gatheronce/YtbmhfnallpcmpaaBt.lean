/-
  A clock (seventeen numbers), and who is heard (a daemon, an incarnation) as plain data: their cells; two of them compared; as arguments.
  No condition.
-/
import Derived.Test.YtbmhfnallpcmpaaGe
import Derived.Test.YtbmhfnallpcmpaaMb
namespace Go.Proofs.Ytbmhfnallpcmpaa
set_option maxRecDepth 10000
open Go.ChangeShapes Go.WideShapes Go.ChangeAt Go.RowKit Go.WideElems Go.Sort

structure Bt where
  now : Nat
  hd : Nat → Nat
  inc : Nat → Nat

def Bt.vals (b : Bt) : List Value := .int .u32 (b.now : Int) :: (row8 b.hd ++ row8 b.inc)
def Bt.arr (b : Bt) : Array Value := b.vals.toArray
def Bt.zero : Bt := ⟨0, noMb, noMb⟩
theorem Bt.vals_length (b : Bt) : b.vals.length = 17 := rfl
theorem Bt.arr_size (b : Bt) : b.arr.size = 17 := rfl
theorem Bt.arr_one (b : Bt) : b.arr.all (·.oneCell') = true := by kernel_rfl
theorem sizeBt : (Try.prog.info? 25).map (·.size) = some 17 := by kernel_rfl
theorem Bt.size (b : Bt) : (Try.prog.info? 25).map (·.size) = some b.arr.size := sizeBt
theorem zeroBt : (Try.prog.info? 25).map (fun i => (i.zero, i.size)) = some (some (.agg Bt.zero.arr), 17) := by kernel_rfl
theorem builtBt : Try.prog.built 25 [] = some Bt.zero.arr := by kernel_rfl

theorem Bt.get_now (b : Bt) : b.arr[0]? = some (.int .u32 (b.now : Int)) := rfl
theorem Bt.get_hd (b : Bt) (i : Nat) (h : i < 8) : b.arr[1 + i]? = some (.int .u32 (b.hd i : Int)) := by
  obtain rfl | rfl | rfl | rfl | rfl | rfl | rfl | rfl : i = 0 ∨ i = 1 ∨ i = 2 ∨ i = 3 ∨ i = 4 ∨ i = 5 ∨ i = 6 ∨ i = 7 := by omega
  all_goals rfl
theorem Bt.get_inc (b : Bt) (i : Nat) (h : i < 8) : b.arr[9 + i]? = some (.int .u32 (b.inc i : Int)) := by
  obtain rfl | rfl | rfl | rfl | rfl | rfl | rfl | rfl : i = 0 ∨ i = 1 ∨ i = 2 ∨ i = 3 ∨ i = 4 ∨ i = 5 ∨ i = 6 ∨ i = 7 := by omega
  all_goals rfl

theorem Bt.set_now (b : Bt) (v : Nat) : b.arr.setIfInBounds 0 (.int .u32 (v : Int)) = (Bt.mk v b.hd b.inc).arr := rfl
theorem Bt.set_hd (b : Bt) (i v : Nat) (h : i < 8) : b.arr.setIfInBounds (1 + i) (.int .u32 (v : Int)) = (Bt.mk b.now (put8 b.hd i v) b.inc).arr := by
  obtain rfl | rfl | rfl | rfl | rfl | rfl | rfl | rfl : i = 0 ∨ i = 1 ∨ i = 2 ∨ i = 3 ∨ i = 4 ∨ i = 5 ∨ i = 6 ∨ i = 7 := by omega
  all_goals rfl
theorem Bt.set_inc (b : Bt) (i v : Nat) (h : i < 8) : b.arr.setIfInBounds (9 + i) (.int .u32 (v : Int)) = (Bt.mk b.now b.hd (put8 b.inc i v)).arr := by
  obtain rfl | rfl | rfl | rfl | rfl | rfl | rfl | rfl : i = 0 ∨ i = 1 ∨ i = 2 ∨ i = 3 ∨ i = 4 ∨ i = 5 ∨ i = 6 ∨ i = 7 := by omega
  all_goals rfl
theorem Bt.ext_arr {a b : Bt} (h0 : a.now = b.now) (h1 : ∀ i, i < 8 → a.hd i = b.hd i) (h2 : ∀ i, i < 8 → a.inc i = b.inc i) : a.arr = b.arr := by
  simp only [Bt.arr, Bt.vals, row8, h0, h1 0 (by decide), h1 1 (by decide), h1 2 (by decide), h1 3 (by decide), h1 4 (by decide), h1 5 (by decide), h1 6 (by decide), h1 7 (by decide), h2 0 (by decide), h2 1 (by decide), h2 2 (by decide), h2 3 (by decide), h2 4 (by decide), h2 5 (by decide), h2 6 (by decide), h2 7 (by decide)]

theorem sameBt (b : Bt) (w : World) : (Op.equalIn 10000 25 (.agg b.arr) (.agg b.arr)).run Try.prog w = .ok true w := by
  have hu : Try.prog.underlying 25 = some (.struct (Try.prog.fieldsOf 25)) := by kernel_rfl
  rw [show (10000 : Nat) = 9999 + 1 from rfl, run_equalIn_struct w 9999 25 b.arr b.arr hu (by kernel_rfl)]
  apply fields_same
  have hf : (Try.prog.fieldsOf 25).toList.map (fun f => (f.name, f.type, f.offset)) = [("Now", 22, 0), ("Heard", 23, 1), ("Inc", 23, 9)] := by kernel_rfl
  intro f hmem
  have hm : (f.name, f.type, f.offset) ∈ (Try.prog.fieldsOf 25).toList.map (fun f => (f.name, f.type, f.offset)) := List.mem_map_of_mem (f := fun f : Field => (f.name, f.type, f.offset)) hmem
  rw [hf] at hm
  generalize f.name = fn at hm ⊢
  generalize f.type = ft at hm ⊢
  generalize f.offset = fo at hm ⊢
  simp only [List.mem_cons, List.not_mem_nil, or_false, Prod.mk.injEq] at hm
  rcases hm with ⟨rfl, rfl, rfl⟩ | ⟨rfl, rfl, rfl⟩ | ⟨rfl, rfl, rfl⟩
  · exact ⟨by decide, .int .u32 (b.now : Int), by kernel_rfl, by simp [go_sem]⟩
  · exact ⟨by decide, .agg (mbc b.hd), by kernel_rfl, by rw [show (9999 : Nat) = 9997 + 1 + 1 from rfl, equalRow Try.underlying23 9997, mbSame_self]⟩
  · exact ⟨by decide, .agg (mbc b.inc), by kernel_rfl, by rw [show (9999 : Nat) = 9997 + 1 + 1 from rfl, equalRow Try.underlying23 9997, mbSame_self]⟩
theorem eqlBt (b : Bt) (w : World) : (binOp .eql 25 (.agg b.arr) (.agg b.arr)).run Try.prog w = .ok (.bool true) w := by
  rw [run_eql_struct, sameBt]; rfl
theorem neqBt (b : Bt) (w : World) : (binOp .neq 25 (.agg b.arr) (.agg b.arr)).run Try.prog w = .ok (.bool false) w := by
  rw [run_neq_struct, sameBt]; rfl

def hv (i : Int) (n : Nat) : List Value := [.int .i64 i, .int .u32 (n : Int)]
def hc (i : Int) (n : Nat) : Array Value := (hv i n).toArray

structure Bt.ok (b : Bt) : Prop where
  now : b.now < 4294967296
  hd : ∀ i, b.hd i < 4294967296
  inc : ∀ i, b.inc i < 4294967296

section
variable {H : Type} {enc : TypeId × Value → H} {W : World} {base : Nat} {spare : Nat → Bool} {held : Bool}

theorem bt_cells {l : List Value} {fuel : Nat} {o : Option (DataW H × List MemPlace)} (ho : o.isSome = true) (h : DataW.trod enc Try.prog W base spare held fuel 25 l = o) : ∃ b : Bt, l = b.vals ∧ b.ok := by
  obtain ⟨y, rfl⟩ := Option.isSome_iff_exists.1 ho
  have hC : Try.prog.cellsOf 25 = 17 := by kernel_rfl
  have h8 : Try.prog.cellsOf 23 = 8 := by kernel_rfl
  have h22 : Try.prog.cellsOf 22 = 1 := by kernel_rfl
  obtain ⟨xs, k, _, _, hlen, hl, hg⟩ := DataW.trod_struct Try.underlying25 h
  have hl3 : xs.length = 3 := hl
  have g0 := hg 0 _ rfl
  have g1 := hg 1 _ rfl
  have g2 := hg 2 _ rfl
  obtain ⟨n, e0, b0⟩ := u32_cell (by rw [List.getElem?_eq_getElem (by omega)]; rfl) g0
  obtain ⟨x, e1, b1⟩ := row8_cells Try.underlying23 h8 (by rw [List.getElem?_eq_getElem (by omega)]; rfl) g1
  obtain ⟨y, e2, b2⟩ := row8_cells Try.underlying23 h8 (by rw [List.getElem?_eq_getElem (by omega)]; rfl) g2
  rw [hC] at hlen
  refine ⟨⟨n, x, y⟩, ?_, ⟨b0, b1, b2⟩⟩
  change (l.drop 0).take (Try.prog.cellsOf 22) = _ at e0
  change (l.drop 1).take (Try.prog.cellsOf 23) = _ at e1
  change (l.drop 9).take (Try.prog.cellsOf 23) = _ at e2
  rw [h22] at e0
  rw [h8] at e1 e2
  have z : l.drop 17 = [] := List.drop_eq_nil_of_le (by omega)
  have e : l = (l.drop 0).take 1 ++ ((l.drop 1).take 8 ++ (l.drop 9).take 8) := by
    conv => lhs; rw [← List.drop_zero (l := l), more l 0 1, more l 1 8, more l 9 8, z, List.append_nil]
  rw [e, e0, e1, e2]
  rfl

theorem open_bt {v : Value} {d : DataW H} {p : List MemPlace} (hv : ∃ cs, v = .agg cs) (h : DataW.Trod enc Try.prog W base spare held 25 v d p) : ∃ b : Bt, v = .agg b.arr ∧ b.ok := by
  obtain ⟨cs, rfl⟩ := hv
  obtain ⟨fuel, hf⟩ := h
  obtain ⟨x, e, k⟩ := bt_cells rfl hf
  exact ⟨x, agg_of e, k⟩

end

end Go.Proofs.Ytbmhfnallpcmpaa
