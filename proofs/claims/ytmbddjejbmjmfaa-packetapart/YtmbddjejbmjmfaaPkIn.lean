/-
  A packet, and counts, as arguments: what they hold, read as data.
  No condition.
-/
import Derived.Test.YtmbddjejbmjmfaaFrIn
import Derived.Test.YtmbddjejbmjmfaaPkMath
namespace Go.Proofs.Ytmbddjejbmjmfaa
set_option maxRecDepth 10000
open Go.ChangeShapes Go.WideShapes Go.ChangeAt Go.RowKit Go.WideElems

section
variable {H : Type} {enc : TypeId × Value → H} {W : World} {base : Nat} {spare : Nat → Bool} {held : Bool}

theorem u32_cell {l : List Value} {fuel : Nat} {o : Option (DataW H × List MemPlace)} (ho : o.isSome = true) (h : DataW.trod enc Try.prog W base spare held fuel 22 l = o) : ∃ x : Nat, l = [.int .u32 (x : Int)] ∧ x < 4294967296 := by
  obtain ⟨y, rfl⟩ := Option.isSome_iff_exists.1 ho
  obtain ⟨k, e, _, hw⟩ := DataW.trod_int Try.underlying22 h
  have hb := bounds_u32 hw
  refine ⟨k.toNat, ?_, by omega⟩
  rw [e]
  congr 2
  omega

theorem bool_cell {l : List Value} {fuel : Nat} {o : Option (DataW H × List MemPlace)} (ho : o.isSome = true) (h : DataW.trod enc Try.prog W base spare held fuel 4 l = o) : ∃ b : Bool, l = [.bool b] := by
  obtain ⟨y, rfl⟩ := Option.isSome_iff_exists.1 ho
  obtain ⟨b, e, _⟩ := DataW.trod_bool Try.underlying4 h
  exact ⟨b, e⟩

theorem one_more (l : List Value) (a : Nat) : l.drop a = (l.drop a).take 1 ++ l.drop (a + 1) := by rw [← List.drop_drop, List.take_append_drop]
theorem more (l : List Value) (a b : Nat) : l.drop a = (l.drop a).take b ++ l.drop (a + b) := by rw [← List.drop_drop, List.take_append_drop]

theorem id_cells {l : List Value} {fuel : Nat} {o : Option (DataW H × List MemPlace)} (ho : o.isSome = true) (h : DataW.trod enc Try.prog W base spare held fuel 24 l = o) : ∃ x y z : Nat, l = [.int .u32 (x : Int), .int .u32 (y : Int), .int .u32 (z : Int)] ∧ x < 4294967296 ∧ y < 4294967296 ∧ z < 4294967296 := by
  obtain ⟨y, rfl⟩ := Option.isSome_iff_exists.1 ho
  have hC : Try.prog.cellsOf 24 = 3 := by kernel_rfl
  have h22 : Try.prog.cellsOf 22 = 1 := by kernel_rfl
  obtain ⟨xs, m, _, _, hlen, hl, hg⟩ := DataW.trod_struct Try.underlying24 h
  have hl3 : xs.length = 3 := hl
  have g0 := hg 0 _ rfl
  have g1 := hg 1 _ rfl
  have g2 := hg 2 _ rfl
  obtain ⟨x0, e0, b0⟩ := u32_cell (by rw [List.getElem?_eq_getElem (by omega)]; rfl) g0
  obtain ⟨x1, e1, b1⟩ := u32_cell (by rw [List.getElem?_eq_getElem (by omega)]; rfl) g1
  obtain ⟨x2, e2, b2⟩ := u32_cell (by rw [List.getElem?_eq_getElem (by omega)]; rfl) g2
  rw [hC] at hlen
  refine ⟨x0, x1, x2, ?_, b0, b1, b2⟩
  change (l.drop 0).take (Try.prog.cellsOf 22) = _ at e0
  change (l.drop 1).take (Try.prog.cellsOf 22) = _ at e1
  change (l.drop 2).take (Try.prog.cellsOf 22) = _ at e2
  rw [h22] at e0 e1 e2
  have z : l.drop 3 = [] := List.drop_eq_nil_of_le (by omega)
  have e : l = (l.drop 0).take 1 ++ ((l.drop 1).take 1 ++ ((l.drop 2).take 1)) := by
    conv => lhs; rw [← List.drop_zero (l := l), one_more l 0, one_more l 1, one_more l 2, z, List.append_nil]
  rw [e, e0, e1, e2]
  rfl

theorem row_cells {T : TypeId} (hu : Try.prog.underlying T = some (.array 8 22)) (hC : Try.prog.cellsOf T = 8) {l : List Value} {fuel : Nat} {o : Option (DataW H × List MemPlace)} (ho : o.isSome = true) (h : DataW.trod enc Try.prog W base spare held fuel T l = o) :
    ∃ a : Nat → Nat, l = rowl a 0 ∧ ∀ i, a i < 4294967296 := by
  obtain ⟨y, rfl⟩ := Option.isSome_iff_exists.1 ho
  have h22 : Try.prog.cellsOf 22 = 1 := by kernel_rfl
  obtain ⟨xs, m, _, _, hlen, hl, hg⟩ := DataW.trod_array hu h
  rw [hC] at hlen
  have key : ∀ i, ∃ x : Nat, (i < 8 → (l.drop i).take 1 = [.int .u32 (x : Int)]) ∧ x < 4294967296 := by
    intro i
    by_cases hi : i < 8
    · have g := hg i hi
      obtain ⟨x, e, b⟩ := u32_cell (by rw [List.getElem?_eq_getElem (by omega)]; rfl) g
      rw [h22, Nat.mul_one] at e
      exact ⟨x, fun _ => e, b⟩
    · exact ⟨0, fun h => absurd h hi, by omega⟩
  obtain ⟨a, ha⟩ := Classical.axiomOfChoice key
  refine ⟨a, ?_, fun i => (ha i).2⟩
  have z : l.drop 8 = [] := List.drop_eq_nil_of_le (by omega)
  have e : l = (l.drop 0).take 1 ++ ((l.drop 1).take 1 ++ ((l.drop 2).take 1 ++ ((l.drop 3).take 1 ++ ((l.drop 4).take 1 ++ ((l.drop 5).take 1 ++ ((l.drop 6).take 1 ++ ((l.drop 7).take 1))))))) := by
    conv => lhs; rw [← List.drop_zero (l := l), one_more l 0, one_more l 1, one_more l 2, one_more l 3, one_more l 4, one_more l 5, one_more l 6, one_more l 7, z, List.append_nil]
  rw [e, (ha 0).1 (by omega), (ha 1).1 (by omega), (ha 2).1 (by omega), (ha 3).1 (by omega), (ha 4).1 (by omega), (ha 5).1 (by omega), (ha 6).1 (by omega), (ha 7).1 (by omega)]
  rfl

theorem frame_cells {l : List Value} {fuel : Nat} {o : Option (DataW H × List MemPlace)} (ho : o.isSome = true) (h : DataW.trod enc Try.prog W base spare held fuel 33 l = o) : ∃ F : Nat → En, l = enCells (Fr.list F) := by
  obtain ⟨⟨d, p⟩, rfl⟩ := Option.isSome_iff_exists.1 ho
  obtain ⟨F, hF⟩ := open_frame (v := .agg l.toArray) (d := d) (p := p) (enc := enc) (W := W) (base := base) (spare := spare) (held := held) ⟨_, rfl⟩ ⟨fuel, h⟩
  refine ⟨F, ?_⟩
  have h2 : l.toArray = frc F := by injection hF
  have h3 : l = (frc F).toList := by rw [← h2]
  rw [h3]; rfl

set_option maxHeartbeats 1000000 in
theorem open_packet {v : Value} {d : DataW H} {p : List MemPlace} (hv : ∃ cs, v = .agg cs) (h : DataW.Trod enc Try.prog W base spare held 35 v d p) : ∃ P : Pk, v = .agg (pkc P) ∧ ∀ i, P.n i < 4294967296 := by
  obtain ⟨cs, rfl⟩ := hv
  have hC : Try.prog.cellsOf 35 = 145 := by kernel_rfl
  have h22 : Try.prog.cellsOf 22 = 1 := by kernel_rfl
  have h4 : Try.prog.cellsOf 4 = 1 := by kernel_rfl
  have h24 : Try.prog.cellsOf 24 = 3 := by kernel_rfl
  have h26 : Try.prog.cellsOf 26 = 8 := by kernel_rfl
  have h27 : Try.prog.cellsOf 27 = 8 := by kernel_rfl
  have h33 : Try.prog.cellsOf 33 = 36 := by kernel_rfl
  obtain ⟨fuel, hf⟩ := h
  obtain ⟨xs, m, _, _, hlen, hl, hg⟩ := DataW.trod_struct Try.underlying35 hf
  have hl15 : xs.length = 15 := hl
  rw [hC] at hlen
  generalize hcs : (Value.agg cs).cells.toList = l at hlen hg
  have g0 := hg 0 _ rfl
  obtain ⟨x0, e0, b0⟩ := u32_cell (by rw [List.getElem?_eq_getElem (by omega)]; rfl) g0
  change (l.drop 0).take (Try.prog.cellsOf 22) = _ at e0
  rw [h22] at e0
  have g1 := hg 1 _ rfl
  obtain ⟨x1, e1, b1⟩ := u32_cell (by rw [List.getElem?_eq_getElem (by omega)]; rfl) g1
  change (l.drop 1).take (Try.prog.cellsOf 22) = _ at e1
  rw [h22] at e1
  have g2 := hg 2 _ rfl
  obtain ⟨x2, y2, z2, e2, b2, c2, d2⟩ := id_cells (by rw [List.getElem?_eq_getElem (by omega)]; rfl) g2
  change (l.drop 2).take (Try.prog.cellsOf 24) = _ at e2
  rw [h24] at e2
  have g3 := hg 3 _ rfl
  obtain ⟨a3, e3, b3⟩ := row_cells Try.underlying26 h26 (by rw [List.getElem?_eq_getElem (by omega)]; rfl) g3
  change (l.drop 5).take (Try.prog.cellsOf 26) = _ at e3
  rw [h26] at e3
  have g4 := hg 4 _ rfl
  obtain ⟨a4, e4, b4⟩ := row_cells Try.underlying27 h27 (by rw [List.getElem?_eq_getElem (by omega)]; rfl) g4
  change (l.drop 13).take (Try.prog.cellsOf 27) = _ at e4
  rw [h27] at e4
  have g5 := hg 5 _ rfl
  obtain ⟨x5, y5, z5, e5, b5, c5, d5⟩ := id_cells (by rw [List.getElem?_eq_getElem (by omega)]; rfl) g5
  change (l.drop 21).take (Try.prog.cellsOf 24) = _ at e5
  rw [h24] at e5
  have g6 := hg 6 _ rfl
  obtain ⟨a6, e6, b6⟩ := row_cells Try.underlying26 h26 (by rw [List.getElem?_eq_getElem (by omega)]; rfl) g6
  change (l.drop 24).take (Try.prog.cellsOf 26) = _ at e6
  rw [h26] at e6
  have g7 := hg 7 _ rfl
  obtain ⟨x7, e7⟩ := bool_cell (by rw [List.getElem?_eq_getElem (by omega)]; rfl) g7
  change (l.drop 32).take (Try.prog.cellsOf 4) = _ at e7
  rw [h4] at e7
  have g8 := hg 8 _ rfl
  obtain ⟨x8, e8, b8⟩ := u32_cell (by rw [List.getElem?_eq_getElem (by omega)]; rfl) g8
  change (l.drop 33).take (Try.prog.cellsOf 22) = _ at e8
  rw [h22] at e8
  have g9 := hg 9 _ rfl
  obtain ⟨x9, e9, b9⟩ := u32_cell (by rw [List.getElem?_eq_getElem (by omega)]; rfl) g9
  change (l.drop 34).take (Try.prog.cellsOf 22) = _ at e9
  rw [h22] at e9
  have g10 := hg 10 _ rfl
  obtain ⟨F10, e10⟩ := frame_cells (by rw [List.getElem?_eq_getElem (by omega)]; rfl) g10
  change (l.drop 35).take (Try.prog.cellsOf 33) = _ at e10
  rw [h33] at e10
  have g11 := hg 11 _ rfl
  obtain ⟨F11, e11⟩ := frame_cells (by rw [List.getElem?_eq_getElem (by omega)]; rfl) g11
  change (l.drop 71).take (Try.prog.cellsOf 33) = _ at e11
  rw [h33] at e11
  have g12 := hg 12 _ rfl
  obtain ⟨x12, e12, b12⟩ := u32_cell (by rw [List.getElem?_eq_getElem (by omega)]; rfl) g12
  change (l.drop 107).take (Try.prog.cellsOf 22) = _ at e12
  rw [h22] at e12
  have g13 := hg 13 _ rfl
  obtain ⟨x13, e13, b13⟩ := u32_cell (by rw [List.getElem?_eq_getElem (by omega)]; rfl) g13
  change (l.drop 108).take (Try.prog.cellsOf 22) = _ at e13
  rw [h22] at e13
  have g14 := hg 14 _ rfl
  obtain ⟨F14, e14⟩ := frame_cells (by rw [List.getElem?_eq_getElem (by omega)]; rfl) g14
  change (l.drop 109).take (Try.prog.cellsOf 33) = _ at e14
  rw [h33] at e14
  have z : l.drop 145 = [] := List.drop_eq_nil_of_le (by omega)
  have e : l = (l.drop 0).take 1 ++ ((l.drop 1).take 1 ++ ((l.drop 2).take 3 ++ ((l.drop 5).take 8 ++ ((l.drop 13).take 8 ++ ((l.drop 21).take 3 ++ ((l.drop 24).take 8 ++ ((l.drop 32).take 1 ++ ((l.drop 33).take 1 ++ ((l.drop 34).take 1 ++ ((l.drop 35).take 36 ++ ((l.drop 71).take 36 ++ ((l.drop 107).take 1 ++ ((l.drop 108).take 1 ++ ((l.drop 109).take 36)))))))))))))) := by
    conv => lhs; rw [← List.drop_zero (l := l), more l 0 1, more l 1 1, more l 2 3, more l 5 8, more l 13 8, more l 21 3, more l 24 8, more l 32 1, more l 33 1, more l 34 1, more l 35 36, more l 71 36, more l 107 1, more l 108 1, more l 109 36, z, List.append_nil]
  have ecs : cs = l.toArray := by rw [← hcs]; simp [Value.cells]
  refine ⟨⟨fun i => if i = 107 then x12 else if i = 108 then x13 else [x0, x1, x2, y2, z2, a3 0, a3 1, a3 2, a3 3, a3 4, a3 5, a3 6, a3 7, a4 0, a4 1, a4 2, a4 3, a4 4, a4 5, a4 6, a4 7, x5, y5, z5, a6 0, a6 1, a6 2, a6 3, a6 4, a6 5, a6 6, a6 7, 0, x8, x9].getD i 0, x7, F10, F11, F14⟩, ?_, ?_⟩
  · congr 1
    rw [ecs]
    apply congrArg List.toArray
    rw [e, e0, e1, e2, e3, e4, e5, e6, e7, e8, e9, e10, e11, e12, e13, e14]
    rfl
  · intro i
    show (if i = 107 then x12 else if i = 108 then x13 else _) < _
    split
    · exact b12
    · split
      · exact b13
      · by_cases hi : i < 35
        · have hall : ∀ x ∈ [x0, x1, x2, y2, z2, a3 0, a3 1, a3 2, a3 3, a3 4, a3 5, a3 6, a3 7, a4 0, a4 1, a4 2, a4 3, a4 4, a4 5, a4 6, a4 7, x5, y5, z5, a6 0, a6 1, a6 2, a6 3, a6 4, a6 5, a6 6, a6 7, 0, x8, x9], x < 4294967296 := by
            simp only [List.mem_cons, List.not_mem_nil, or_false]
            rintro x (rfl | rfl | rfl | rfl | rfl | rfl | rfl | rfl | rfl | rfl | rfl | rfl | rfl | rfl | rfl | rfl | rfl | rfl | rfl | rfl | rfl | rfl | rfl | rfl | rfl | rfl | rfl | rfl | rfl | rfl | rfl | rfl | rfl | rfl | rfl)
            · exact b0
            · exact b1
            · exact b2
            · exact c2
            · exact d2
            · exact b3 _
            · exact b3 _
            · exact b3 _
            · exact b3 _
            · exact b3 _
            · exact b3 _
            · exact b3 _
            · exact b3 _
            · exact b4 _
            · exact b4 _
            · exact b4 _
            · exact b4 _
            · exact b4 _
            · exact b4 _
            · exact b4 _
            · exact b4 _
            · exact b5
            · exact c5
            · exact d5
            · exact b6 _
            · exact b6 _
            · exact b6 _
            · exact b6 _
            · exact b6 _
            · exact b6 _
            · exact b6 _
            · exact b6 _
            · exact by omega
            · exact b8
            · exact b9
          exact hall _ (by
            rw [List.getD, List.getElem?_eq_getElem (by simpa using hi)]
            exact List.getElem_mem _)
        · rw [List.getD, List.getElem?_eq_none (by simp; omega)]
          show 0 < _
          omega

theorem open_counts {v : Value} {d : DataW H} {p : List MemPlace} (hv : ∃ cs, v = .agg cs) (h : DataW.Trod enc Try.prog W base spare held 27 v d p) : ∃ a : Nat → Nat, v = .agg (rowc a 0) ∧ ∀ i, a i < 4294967296 := by
  obtain ⟨cs, rfl⟩ := hv
  obtain ⟨fuel, hf⟩ := h
  obtain ⟨a, e, b⟩ := row_cells Try.underlying27 (by kernel_rfl) rfl hf
  refine ⟨a, ?_, b⟩
  congr 1
  have ecs : (Value.agg cs).cells.toList = cs.toList := by simp [Value.cells]
  rw [ecs] at e
  apply Array.toList_inj.1
  rw [e]
  rfl

end

end Go.Proofs.Ytmbddjejbmjmfaa
