/-
  Members (eight numbers) and ints as plain data: their cells; two of them compared; as arguments.
  No condition.
-/
import Derived.Test.YtmnpbjaofemelaaLg
import Derived.Laws.StructEq
import Derived.ChangeKeysEq
namespace Go.Proofs.Ytmnpbjaofemelaa
set_option maxRecDepth 10000
open Go.ChangeShapes Go.WideShapes Go.ChangeAt Go.RowKit Go.WideElems Go.Sort

/- Eight numbers. -/
def row8 (f : Nat → Nat) : List Value := [.int .u32 (f 0 : Int), .int .u32 (f 1 : Int), .int .u32 (f 2 : Int), .int .u32 (f 3 : Int), .int .u32 (f 4 : Int), .int .u32 (f 5 : Int), .int .u32 (f 6 : Int), .int .u32 (f 7 : Int)]
def mbc (f : Nat → Nat) : Array Value := (row8 f).toArray
def noMb : Nat → Nat := fun _ => 0
theorem row8_length (f : Nat → Nat) : (row8 f).length = 8 := rfl
theorem mbc_size (f : Nat → Nat) : (mbc f).size = 8 := rfl
theorem mbc_one (f : Nat → Nat) : (mbc f).all (·.oneCell') = true := by kernel_rfl
theorem mbc_get (f : Nat → Nat) (i : Nat) (h : i < 8) : (mbc f)[i]? = some (.int .u32 (f i : Int)) := by
  obtain rfl | rfl | rfl | rfl | rfl | rfl | rfl | rfl : i = 0 ∨ i = 1 ∨ i = 2 ∨ i = 3 ∨ i = 4 ∨ i = 5 ∨ i = 6 ∨ i = 7 := by omega
  all_goals rfl
theorem mbc_set (f : Nat → Nat) (i v : Nat) (h : i < 8) : (mbc f).setIfInBounds i (.int .u32 (v : Int)) = mbc (fun j => if j = i then v else f j) := by
  obtain rfl | rfl | rfl | rfl | rfl | rfl | rfl | rfl : i = 0 ∨ i = 1 ∨ i = 2 ∨ i = 3 ∨ i = 4 ∨ i = 5 ∨ i = 6 ∨ i = 7 := by omega
  all_goals rfl
theorem mbc_ext {f g : Nat → Nat} (h : ∀ i, i < 8 → f i = g i) : mbc f = mbc g := by
  simp only [mbc, row8, h 0 (by decide), h 1 (by decide), h 2 (by decide), h 3 (by decide), h 4 (by decide), h 5 (by decide), h 6 (by decide), h 7 (by decide)]
theorem sizeMb : (Try.prog.info? 29).map (·.size) = some 8 := by kernel_rfl
theorem zeroMb : (Try.prog.info? 29).map (fun i => (i.zero, i.size)) = some (some (.agg (mbc noMb)), 8) := by kernel_rfl
theorem builtMb : Try.prog.built 29 [] = some (mbc noMb) := by kernel_rfl
theorem indexMb (f : Nat → Nat) (i : Nat) (h : i < 8) (w : World) : (Instr.index 29 (.agg (mbc f)) (.int .i64 (i : Int))).run Try.prog w = .ok (.int .u32 (f i : Int)) w := by
  obtain rfl | rfl | rfl | rfl | rfl | rfl | rfl | rfl : i = 0 ∨ i = 1 ∨ i = 2 ∨ i = 3 ∨ i = 4 ∨ i = 5 ∨ i = 6 ∨ i = 7 := by omega
  all_goals kernel_rfl

theorem items_u32 (d : Nat) (xs ys : Array Value) (x y : Nat → Nat) (w : World) : ∀ is : List Nat, (∀ i ∈ is, (Go.part 23 xs (i * 1)).run Try.prog w = .ok (.int .u32 (x i : Int)) w ∧ (Go.part 23 ys (i * 1)).run Try.prog w = .ok (.int .u32 (y i : Int)) w) → (Op.eqItems (d + 1) 23 1 xs ys is).run Try.prog w = .ok (is.all fun i => decide (x i = y i)) w
  | [], _ => rfl
  | i :: is, h => by
    obtain ⟨h1, h2⟩ := h i (by simp)
    have ih := items_u32 d xs ys x y w is (fun j hj => h j (by simp [hj]))
    have he : (Op.equalIn (d + 1) 23 (.int .u32 (x i : Int)) (.int .u32 (y i : Int))).run Try.prog w = .ok (decide (x i = y i)) w := by
      have hb : ((x i : Int) == (y i : Int)) = decide (x i = y i) := by rw [Bool.eq_iff_iff, beq_iff_eq, decide_eq_true_iff]; omega
      simp [go_sem, hb]
    simp only [Op.eqItems, Sem.run_bind, h1, h2, he, Result.andThen_ok]
    cases hd : decide (x i = y i)
    · simp [hd]
    · simpa [hd] using ih

def mbSame (x y : Nat → Nat) : Bool := (List.range 8).all fun i => decide (x i = y i)
theorem mbSame_iff (x y : Nat → Nat) : mbSame x y = true ↔ ∀ i, i < 8 → x i = y i := by simp [mbSame, List.all_eq_true]
theorem mbSame_self (x : Nat → Nat) : mbSame x x = true := (mbSame_iff x x).2 fun _ _ => rfl
theorem equalRow {T : TypeId} (hu : Try.prog.underlying T = some (.array 8 23)) (d : Nat) (x y : Nat → Nat) (w : World) : (Op.equalIn (d + 1 + 1) T (.agg (mbc x)) (.agg (mbc y))).run Try.prog w = .ok (mbSame x y) w := by
  obtain ⟨i, hi⟩ : ∃ i, Try.prog.info? 23 = some i := Option.isSome_iff_exists.1 (by kernel_rfl)
  have hc : Try.prog.cellsOf 23 = 1 := by kernel_rfl
  rw [run_equalIn_array w (d + 1) (mbc x) (mbc y) hu hi, hc, items_u32 d (mbc x) (mbc y) x y w]
  · rfl
  · intro i hi
    have hi8 := List.mem_range.1 hi
    obtain rfl | rfl | rfl | rfl | rfl | rfl | rfl | rfl : i = 0 ∨ i = 1 ∨ i = 2 ∨ i = 3 ∨ i = 4 ∨ i = 5 ∨ i = 6 ∨ i = 7 := by omega
    all_goals exact ⟨by kernel_rfl, by kernel_rfl⟩
theorem equalMb (x y : Nat → Nat) (w : World) : (Op.equalIn 10000 29 (.agg (mbc x)) (.agg (mbc y))).run Try.prog w = .ok (mbSame x y) w := equalRow Try.underlying29 9998 x y w
theorem eqlMb (x y : Nat → Nat) (c : Bool) (h : mbSame x y = c) (w : World) : (binOp .eql 29 (.agg (mbc x)) (.agg (mbc y))).run Try.prog w = .ok (.bool c) w := by
  rw [run_eql_struct, equalMb, h]; rfl
theorem neqMb (x y : Nat → Nat) (c : Bool) (h : mbSame x y = c) (w : World) : (binOp .neq 29 (.agg (mbc x)) (.agg (mbc y))).run Try.prog w = .ok (.bool (!c)) w := by
  rw [run_neq_struct, equalMb, h]; rfl

/- Ints. -/
def iv (x : Int) : List Value := [.int .i64 x]
theorem iv_length (x : Int) : (iv x).length = 1 := rfl
theorem iv_one (x : Int) : ∀ v ∈ iv x, v.oneCell' = true := by
  intro v hv
  simp [iv] at hv
  subst hv
  rfl

theorem sizeU32 : (Try.prog.info? 23).map (·.size) = some 1 := by kernel_rfl

section
variable {H : Type} {enc : TypeId × Value → H} {W : World} {base : Nat} {spare : Nat → Bool} {held : Bool}

theorem u32_cell {l : List Value} {fuel : Nat} {o : Option (DataW H × List MemPlace)} (ho : o.isSome = true) (h : DataW.trod enc Try.prog W base spare held fuel 23 l = o) : ∃ x : Nat, l = [.int .u32 (x : Int)] ∧ x < 4294967296 := by
  obtain ⟨y, rfl⟩ := Option.isSome_iff_exists.1 ho
  obtain ⟨k, e, _, hw⟩ := DataW.trod_int Try.underlying23 h
  have hb := bounds_u32 hw
  refine ⟨k.toNat, ?_, by omega⟩
  rw [e]
  congr 2
  omega

theorem one_more (l : List Value) (a : Nat) : l.drop a = (l.drop a).take 1 ++ l.drop (a + 1) := by rw [← List.drop_drop, List.take_append_drop]
theorem more (l : List Value) (a b : Nat) : l.drop a = (l.drop a).take b ++ l.drop (a + b) := by rw [← List.drop_drop, List.take_append_drop]

theorem row8_cells {T : TypeId} (hu : Try.prog.underlying T = some (.array 8 23)) (hC : Try.prog.cellsOf T = 8) {l : List Value} {fuel : Nat} {o : Option (DataW H × List MemPlace)} (ho : o.isSome = true) (h : DataW.trod enc Try.prog W base spare held fuel T l = o) :
    ∃ a : Nat → Nat, l = row8 a ∧ ∀ i, a i < 4294967296 := by
  obtain ⟨y, rfl⟩ := Option.isSome_iff_exists.1 ho
  have h22 : Try.prog.cellsOf 23 = 1 := by kernel_rfl
  obtain ⟨xs, m, _, _, hlen, hl, hg⟩ := DataW.trod_array hu h
  rw [hC] at hlen
  have key : ∀ i, ∃ x : Nat, (i < 8 → (l.drop i).take 1 = [.int .u32 (x : Int)]) ∧ x < 4294967296 := by
    intro i
    by_cases hi : i < 8
    · have g := hg i hi
      obtain ⟨x, e, b⟩ := u32_cell (by rw [List.getElem?_eq_getElem (by omega)]; rfl) g
      rw [h22, Nat.mul_one] at e
      exact ⟨x, fun _ => e, b⟩
    · exact ⟨0, fun h => absurd h hi, by omega⟩
  obtain ⟨a, ha⟩ := Classical.axiomOfChoice key
  refine ⟨a, ?_, fun i => (ha i).2⟩
  have z : l.drop 8 = [] := List.drop_eq_nil_of_le (by omega)
  have e : l = (l.drop 0).take 1 ++ ((l.drop 1).take 1 ++ ((l.drop 2).take 1 ++ ((l.drop 3).take 1 ++ ((l.drop 4).take 1 ++ ((l.drop 5).take 1 ++ ((l.drop 6).take 1 ++ ((l.drop 7).take 1))))))) := by
    conv => lhs; rw [← List.drop_zero (l := l), one_more l 0, one_more l 1, one_more l 2, one_more l 3, one_more l 4, one_more l 5, one_more l 6, one_more l 7, z, List.append_nil]
  rw [e, (ha 0).1 (by omega), (ha 1).1 (by omega), (ha 2).1 (by omega), (ha 3).1 (by omega), (ha 4).1 (by omega), (ha 5).1 (by omega), (ha 6).1 (by omega), (ha 7).1 (by omega)]
  rfl

theorem agg_of {cs : Array Value} {l : List Value} (e : (Value.agg cs).cells.toList = l) : Value.agg cs = .agg l.toArray := by
  have ecs : (Value.agg cs).cells.toList = cs.toList := by simp [Value.cells]
  rw [ecs] at e
  congr 1
  apply Array.toList_inj.1
  rw [e]

theorem open_mb {v : Value} {d : DataW H} {p : List MemPlace} (hv : ∃ cs, v = .agg cs) (h : DataW.Trod enc Try.prog W base spare held 29 v d p) : ∃ m : Nat → Nat, v = .agg (mbc m) := by
  obtain ⟨cs, rfl⟩ := hv
  obtain ⟨fuel, hf⟩ := h
  obtain ⟨x, e, _⟩ := row8_cells Try.underlying29 (by kernel_rfl) rfl hf
  exact ⟨x, agg_of e⟩

end

end Go.Proofs.Ytmnpbjaofemelaa
