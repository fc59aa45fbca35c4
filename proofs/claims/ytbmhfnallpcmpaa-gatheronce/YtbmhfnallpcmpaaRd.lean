/-
  Counts (eight numbers) and places (a round, a daemon, a slot) as plain data: their cells; two of them compared; as arguments.
  No condition.
-/
import Derived.Test.YtbmhfnallpcmpaaMb
namespace Go.Proofs.Ytbmhfnallpcmpaa
set_option maxRecDepth 10000
open Go.ChangeShapes Go.WideShapes Go.ChangeAt Go.RowKit Go.WideElems Go.Sort

theorem sizeCt : (Try.prog.info? 29).map (·.size) = some 8 := by kernel_rfl
theorem zeroCt : (Try.prog.info? 29).map (fun i => (i.zero, i.size)) = some (some (.agg (mbc noMb)), 8) := by kernel_rfl
theorem builtCt : Try.prog.built 29 [] = some (mbc noMb) := by kernel_rfl
theorem equalCt (x y : Nat → Nat) (w : World) : (Op.equalIn 10000 29 (.agg (mbc x)) (.agg (mbc y))).run Try.prog w = .ok (mbSame x y) w := equalRow Try.underlying29 9998 x y w
theorem eqlCt (x y : Nat → Nat) (c : Bool) (h : mbSame x y = c) (w : World) : (binOp .eql 29 (.agg (mbc x)) (.agg (mbc y))).run Try.prog w = .ok (.bool c) w := by
  rw [run_eql_struct, equalCt, h]; rfl
theorem neqCt (x y : Nat → Nat) (c : Bool) (h : mbSame x y = c) (w : World) : (binOp .neq 29 (.agg (mbc x)) (.agg (mbc y))).run Try.prog w = .ok (.bool (!c)) w := by
  rw [run_neq_struct, equalCt, h]; rfl

/- A place. -/
structure Pl where
  r : Nat
  f : Int
  s : Int

section
variable {H : Type} {enc : TypeId × Value → H} {W : World} {base : Nat} {spare : Nat → Bool} {held : Bool}

theorem open_ct {v : Value} {d : DataW H} {p : List MemPlace} (hv : ∃ cs, v = .agg cs) (h : DataW.Trod enc Try.prog W base spare held 29 v d p) : ∃ c : Nat → Nat, v = .agg (mbc c) ∧ ∀ i, c i < 4294967296 := by
  obtain ⟨cs, rfl⟩ := hv
  obtain ⟨fuel, hf⟩ := h
  obtain ⟨x, e, b⟩ := row8_cells Try.underlying29 (by kernel_rfl) rfl hf
  exact ⟨x, agg_of e, b⟩

theorem i64_cell {l : List Value} {fuel : Nat} {o : Option (DataW H × List MemPlace)} (ho : o.isSome = true) (h : DataW.trod enc Try.prog W base spare held fuel 3 l = o) : ∃ x : Int, l = [.int .i64 x] := by
  obtain ⟨y, rfl⟩ := Option.isSome_iff_exists.1 ho
  obtain ⟨k, e, _, hw⟩ := DataW.trod_int Try.underlying3 h
  exact ⟨k, e⟩

end

end Go.Proofs.Ytbmhfnallpcmpaa
