/-
  A packet; what is kept, counts and members together; what is kept, counts and what was taken together: their cells, and as arguments.
  No condition.
-/
import Derived.Test.YtbmhfnallpcmpaaKtM
import Derived.SizedLaws
namespace Go.Proofs.Ytbmhfnallpcmpaa
set_option maxRecDepth 10000
open Go.ChangeShapes Go.WideShapes Go.ChangeAt Go.RowKit Go.WideElems Go.Sort

structure Pk where
  n : Nat → Nat
  lt : ∀ i, n i < 4294967296
  r : Bool
  f0 : Nat → En
  f1 : Nat → En
  f2 : Nat → En

def pkl (p : Pk) : List Value :=
  [.int .u32 (p.n 0), .int .u32 (p.n 1), .int .u32 (p.n 2), .int .u32 (p.n 3), .int .u32 (p.n 4),
   .int .u32 (p.n 5), .int .u32 (p.n 6), .int .u32 (p.n 7), .int .u32 (p.n 8), .int .u32 (p.n 9), .int .u32 (p.n 10), .int .u32 (p.n 11), .int .u32 (p.n 12),
   .int .u32 (p.n 13), .int .u32 (p.n 14), .int .u32 (p.n 15), .int .u32 (p.n 16), .int .u32 (p.n 17), .int .u32 (p.n 18), .int .u32 (p.n 19), .int .u32 (p.n 20),
   .int .u32 (p.n 21), .int .u32 (p.n 22), .int .u32 (p.n 23),
   .int .u32 (p.n 24), .int .u32 (p.n 25), .int .u32 (p.n 26), .int .u32 (p.n 27), .int .u32 (p.n 28), .int .u32 (p.n 29), .int .u32 (p.n 30), .int .u32 (p.n 31),
   .bool p.r, .int .u32 (p.n 33), .int .u32 (p.n 34)] ++ (frv p.f0 ++ (frv p.f1 ++ ([.int .u32 (p.n 107), .int .u32 (p.n 108)] ++ frv p.f2)))
def pkc (p : Pk) : Array Value := (pkl p).toArray
def Pk.zero : Pk := ⟨fun _ => 0, fun _ => by decide, false, noFr, noFr, noFr⟩
theorem pkc_size (p : Pk) : (pkc p).size = 145 := rfl
theorem pkl_one (p : Pk) : ∀ v ∈ pkl p, v.oneCell' = true := by
  intro v hv
  simp only [pkl, List.mem_append] at hv
  rcases hv with hv | hv | hv | hv | hv
  · simp only [List.mem_cons, List.not_mem_nil, or_false] at hv
    rcases hv with rfl | rfl | rfl | rfl | rfl | rfl | rfl | rfl | rfl | rfl | rfl | rfl | rfl | rfl | rfl | rfl | rfl | rfl | rfl | rfl | rfl | rfl | rfl | rfl | rfl | rfl | rfl | rfl | rfl | rfl | rfl | rfl | rfl | rfl | rfl <;> rfl
  · exact frv_one _ v hv
  · exact frv_one _ v hv
  · simp only [List.mem_cons, List.not_mem_nil, or_false] at hv
    rcases hv with rfl | rfl <;> rfl
  · exact frv_one _ v hv
theorem pkc_one (p : Pk) : (pkc p).all (·.oneCell') = true := all_oneCell_toArray (pkl_one p)

theorem part_f0 (p : Pk) : ((pkc p).extract 35 (35 + (frv p.f0).length)).toList = frv p.f0 := by kernel_rfl
theorem part_f1 (p : Pk) : ((pkc p).extract 71 (71 + (frv p.f1).length)).toList = frv p.f1 := by kernel_rfl
theorem part_f2 (p : Pk) : ((pkc p).extract 109 (109 + (frv p.f2).length)).toList = frv p.f2 := by kernel_rfl
theorem pk_get0 (p : Pk) : (pkc p)[0]? = some (.int .u32 (p.n 0 : Int)) := rfl
theorem pk_get34 (p : Pk) : (pkc p)[34]? = some (.int .u32 (p.n 34 : Int)) := rfl
theorem pk_get107 (p : Pk) : (pkc p)[107]? = some (.int .u32 (p.n 107 : Int)) := rfl
theorem pk_get108 (p : Pk) : (pkc p)[108]? = some (.int .u32 (p.n 108 : Int)) := rfl
theorem sizePk : (Try.prog.info? 43).map (·.size) = some 145 := by kernel_rfl
theorem zeroPk : (Try.prog.info? 43).map (fun i => (i.zero, i.size)) = some (some (.agg (pkc Pk.zero)), 145) := by kernel_rfl
theorem set_f0 (p : Pk) (f : Nat → En) : putAt (pkc p) 35 (frc f).toList = pkc ⟨p.n, p.lt, p.r, f, p.f1, p.f2⟩ := by kernel_rfl
theorem set_f1 (p : Pk) (f : Nat → En) : putAt (pkc p) 71 (frc f).toList = pkc ⟨p.n, p.lt, p.r, p.f0, f, p.f2⟩ := by kernel_rfl
theorem set_f2 (p : Pk) (f : Nat → En) : putAt (pkc p) 109 (frc f).toList = pkc ⟨p.n, p.lt, p.r, p.f0, p.f1, f⟩ := by kernel_rfl

/- What is kept, counts, members. -/
def wsl (v : Value) (c m : Nat → Nat) : List Value := v :: (row8 c ++ row8 m)
def wsc (v : Value) (c m : Nat → Nat) : Array Value := (wsl v c m).toArray
theorem wsc_size (v : Value) (c m : Nat → Nat) : (wsc v c m).size = 17 := rfl
theorem wsc_v (v : Value) (c m : Nat → Nat) : (wsc v c m)[0]? = some v := rfl
theorem wsc_c (v : Value) (c m : Nat → Nat) : ((wsc v c m).extract 1 (1 + (row8 c).length)).toList = row8 c := by kernel_rfl
theorem wsc_m (v : Value) (c m : Nat → Nat) : ((wsc v c m).extract 9 (9 + (row8 m).length)).toList = row8 m := by kernel_rfl

/- What is kept, counts, what was taken. -/
def stl (v : Value) (c : Nat → Nat) (u : Value) : List Value := v :: (row8 c ++ [u])
def stc (v : Value) (c : Nat → Nat) (u : Value) : Array Value := (stl v c u).toArray
theorem stc_size (v : Value) (c : Nat → Nat) (u : Value) : (stc v c u).size = 10 := rfl
theorem stc_v (v : Value) (c : Nat → Nat) (u : Value) : (stc v c u)[0]? = some v := rfl
theorem stc_u (v : Value) (c : Nat → Nat) (u : Value) : (stc v c u)[9]? = some u := rfl
theorem stc_c (v : Value) (c : Nat → Nat) (u : Value) : ((stc v c u).extract 1 (1 + (row8 c).length)).toList = row8 c := by kernel_rfl
theorem stc_set_v (v x : Value) (c : Nat → Nat) (u : Value) : (stc v c u).setIfInBounds 0 x = stc x c u := rfl
theorem stc_set_u (v x : Value) (c : Nat → Nat) (u : Value) : (stc v c u).setIfInBounds 9 x = stc v c x := rfl
theorem stc_set_c (v : Value) (c d : Nat → Nat) (u : Value) : putAt (stc v c u) 1 (mbc d).toList = stc v d u := by kernel_rfl
theorem stc_one (a : Option Addr) (n k : Nat) (c : Nat → Nat) (b : Option Addr) (p q : Nat) : (stc (.slice a n k) c (.slice b p q)).all (·.oneCell') = true := by kernel_rfl

section
variable {H : Type} {enc : TypeId × Value → H} {W : World} {base : Nat} {spare : Nat → Bool} {held : Bool}

theorem bool_cell {l : List Value} {fuel : Nat} {o : Option (DataW H × List MemPlace)} (ho : o.isSome = true) (h : DataW.trod enc Try.prog W base spare held fuel 4 l = o) : ∃ b : Bool, l = [.bool b] := by
  obtain ⟨y, rfl⟩ := Option.isSome_iff_exists.1 ho
  obtain ⟨b, e, _⟩ := DataW.trod_bool Try.underlying4 h
  exact ⟨b, e⟩

theorem idn_cells {l : List Value} {fuel : Nat} {o : Option (DataW H × List MemPlace)} (ho : o.isSome = true) (h : DataW.trod enc Try.prog W base spare held fuel 27 l = o) : ∃ x y z : Nat, l = [.int .u32 (x : Int), .int .u32 (y : Int), .int .u32 (z : Int)] ∧ x < 4294967296 ∧ y < 4294967296 ∧ z < 4294967296 := by
  obtain ⟨y, rfl⟩ := Option.isSome_iff_exists.1 ho
  have hC : Try.prog.cellsOf 27 = 3 := by kernel_rfl
  have h22 : Try.prog.cellsOf 22 = 1 := by kernel_rfl
  obtain ⟨xs, m, _, _, hlen, hl, hg⟩ := DataW.trod_struct Try.underlying27 h
  have hl3 : xs.length = 3 := hl
  have g0 := hg 0 _ rfl
  have g1 := hg 1 _ rfl
  have g2 := hg 2 _ rfl
  obtain ⟨x0, e0, b0⟩ := u32_cell (by rw [List.getElem?_eq_getElem (by omega)]; rfl) g0
  obtain ⟨x1, e1, b1⟩ := u32_cell (by rw [List.getElem?_eq_getElem (by omega)]; rfl) g1
  obtain ⟨x2, e2, b2⟩ := u32_cell (by rw [List.getElem?_eq_getElem (by omega)]; rfl) g2
  rw [hC] at hlen
  refine ⟨x0, x1, x2, ?_, b0, b1, b2⟩
  change (l.drop 0).take (Try.prog.cellsOf 22) = _ at e0
  change (l.drop 1).take (Try.prog.cellsOf 22) = _ at e1
  change (l.drop 2).take (Try.prog.cellsOf 22) = _ at e2
  rw [h22] at e0 e1 e2
  have z : l.drop 3 = [] := List.drop_eq_nil_of_le (by omega)
  have e : l = (l.drop 0).take 1 ++ ((l.drop 1).take 1 ++ ((l.drop 2).take 1)) := by
    conv => lhs; rw [← List.drop_zero (l := l), one_more l 0, one_more l 1, one_more l 2, z, List.append_nil]
  rw [e, e0, e1, e2]
  rfl

set_option maxHeartbeats 1000000 in
theorem open_packet {v : Value} {d : DataW H} {p : List MemPlace} (hv : ∃ cs, v = .agg cs) (h : DataW.Trod enc Try.prog W base spare held 43 v d p) : ∃ P : Pk, v = .agg (pkc P) := by
  obtain ⟨cs, rfl⟩ := hv
  have hC : Try.prog.cellsOf 43 = 145 := by kernel_rfl
  have h22 : Try.prog.cellsOf 22 = 1 := by kernel_rfl
  have h4 : Try.prog.cellsOf 4 = 1 := by kernel_rfl
  have h24 : Try.prog.cellsOf 27 = 3 := by kernel_rfl
  have h26 : Try.prog.cellsOf 28 = 8 := by kernel_rfl
  have h27 : Try.prog.cellsOf 29 = 8 := by kernel_rfl
  have h33 : Try.prog.cellsOf 41 = 36 := by kernel_rfl
  obtain ⟨fuel, hf⟩ := h
  obtain ⟨xs, m, _, _, hlen, hl, hg⟩ := DataW.trod_struct Try.underlying43 hf
  have hl15 : xs.length = 15 := hl
  rw [hC] at hlen
  generalize hcs : (Value.agg cs).cells.toList = l at hlen hg
  have g0 := hg 0 _ rfl
  obtain ⟨x0, e0, b0⟩ := u32_cell (by rw [List.getElem?_eq_getElem (by omega)]; rfl) g0
  change (l.drop 0).take (Try.prog.cellsOf 22) = _ at e0
  rw [h22] at e0
  have g1 := hg 1 _ rfl
  obtain ⟨x1, e1, b1⟩ := u32_cell (by rw [List.getElem?_eq_getElem (by omega)]; rfl) g1
  change (l.drop 1).take (Try.prog.cellsOf 22) = _ at e1
  rw [h22] at e1
  have g2 := hg 2 _ rfl
  obtain ⟨x2, y2, z2, e2, b2, c2, d2⟩ := idn_cells (by rw [List.getElem?_eq_getElem (by omega)]; rfl) g2
  change (l.drop 2).take (Try.prog.cellsOf 27) = _ at e2
  rw [h24] at e2
  have g3 := hg 3 _ rfl
  obtain ⟨a3, e3, b3⟩ := row8_cells Try.underlying28 h26 (by rw [List.getElem?_eq_getElem (by omega)]; rfl) g3
  change (l.drop 5).take (Try.prog.cellsOf 28) = _ at e3
  rw [h26] at e3
  have g4 := hg 4 _ rfl
  obtain ⟨a4, e4, b4⟩ := row8_cells Try.underlying29 h27 (by rw [List.getElem?_eq_getElem (by omega)]; rfl) g4
  change (l.drop 13).take (Try.prog.cellsOf 29) = _ at e4
  rw [h27] at e4
  have g5 := hg 5 _ rfl
  obtain ⟨x5, y5, z5, e5, b5, c5, d5⟩ := idn_cells (by rw [List.getElem?_eq_getElem (by omega)]; rfl) g5
  change (l.drop 21).take (Try.prog.cellsOf 27) = _ at e5
  rw [h24] at e5
  have g6 := hg 6 _ rfl
  obtain ⟨a6, e6, b6⟩ := row8_cells Try.underlying28 h26 (by rw [List.getElem?_eq_getElem (by omega)]; rfl) g6
  change (l.drop 24).take (Try.prog.cellsOf 28) = _ at e6
  rw [h26] at e6
  have g7 := hg 7 _ rfl
  obtain ⟨x7, e7⟩ := bool_cell (by rw [List.getElem?_eq_getElem (by omega)]; rfl) g7
  change (l.drop 32).take (Try.prog.cellsOf 4) = _ at e7
  rw [h4] at e7
  have g8 := hg 8 _ rfl
  obtain ⟨x8, e8, b8⟩ := u32_cell (by rw [List.getElem?_eq_getElem (by omega)]; rfl) g8
  change (l.drop 33).take (Try.prog.cellsOf 22) = _ at e8
  rw [h22] at e8
  have g9 := hg 9 _ rfl
  obtain ⟨x9, e9, b9⟩ := u32_cell (by rw [List.getElem?_eq_getElem (by omega)]; rfl) g9
  change (l.drop 34).take (Try.prog.cellsOf 22) = _ at e9
  rw [h22] at e9
  have g10 := hg 10 _ rfl
  obtain ⟨F10, e10⟩ := fr_cells (by rw [List.getElem?_eq_getElem (by omega)]; rfl) g10
  change (l.drop 35).take (Try.prog.cellsOf 41) = _ at e10
  rw [h33] at e10
  have g11 := hg 11 _ rfl
  obtain ⟨F11, e11⟩ := fr_cells (by rw [List.getElem?_eq_getElem (by omega)]; rfl) g11
  change (l.drop 71).take (Try.prog.cellsOf 41) = _ at e11
  rw [h33] at e11
  have g12 := hg 12 _ rfl
  obtain ⟨x12, e12, b12⟩ := u32_cell (by rw [List.getElem?_eq_getElem (by omega)]; rfl) g12
  change (l.drop 107).take (Try.prog.cellsOf 22) = _ at e12
  rw [h22] at e12
  have g13 := hg 13 _ rfl
  obtain ⟨x13, e13, b13⟩ := u32_cell (by rw [List.getElem?_eq_getElem (by omega)]; rfl) g13
  change (l.drop 108).take (Try.prog.cellsOf 22) = _ at e13
  rw [h22] at e13
  have g14 := hg 14 _ rfl
  obtain ⟨F14, e14⟩ := fr_cells (by rw [List.getElem?_eq_getElem (by omega)]; rfl) g14
  change (l.drop 109).take (Try.prog.cellsOf 41) = _ at e14
  rw [h33] at e14
  have z : l.drop 145 = [] := List.drop_eq_nil_of_le (by omega)
  have e : l = (l.drop 0).take 1 ++ ((l.drop 1).take 1 ++ ((l.drop 2).take 3 ++ ((l.drop 5).take 8 ++ ((l.drop 13).take 8 ++ ((l.drop 21).take 3 ++ ((l.drop 24).take 8 ++ ((l.drop 32).take 1 ++ ((l.drop 33).take 1 ++ ((l.drop 34).take 1 ++ ((l.drop 35).take 36 ++ ((l.drop 71).take 36 ++ ((l.drop 107).take 1 ++ ((l.drop 108).take 1 ++ ((l.drop 109).take 36)))))))))))))) := by
    conv => lhs; rw [← List.drop_zero (l := l), more l 0 1, more l 1 1, more l 2 3, more l 5 8, more l 13 8, more l 21 3, more l 24 8, more l 32 1, more l 33 1, more l 34 1, more l 35 36, more l 71 36, more l 107 1, more l 108 1, more l 109 36, z, List.append_nil]
  have ecs : cs = l.toArray := by rw [← hcs]; simp [Value.cells]
  have hlt : ∀ i, (fun i => if i = 107 then x12 else if i = 108 then x13 else [x0, x1, x2, y2, z2, a3 0, a3 1, a3 2, a3 3, a3 4, a3 5, a3 6, a3 7, a4 0, a4 1, a4 2, a4 3, a4 4, a4 5, a4 6, a4 7, x5, y5, z5, a6 0, a6 1, a6 2, a6 3, a6 4, a6 5, a6 6, a6 7, 0, x8, x9].getD i 0) i < 4294967296 := by
    intro i
    show (if i = 107 then x12 else if i = 108 then x13 else _) < _
    split
    · exact b12
    · split
      · exact b13
      · by_cases hi : i < 35
        · have hall : ∀ x ∈ [x0, x1, x2, y2, z2, a3 0, a3 1, a3 2, a3 3, a3 4, a3 5, a3 6, a3 7, a4 0, a4 1, a4 2, a4 3, a4 4, a4 5, a4 6, a4 7, x5, y5, z5, a6 0, a6 1, a6 2, a6 3, a6 4, a6 5, a6 6, a6 7, 0, x8, x9], x < 4294967296 := by
            simp only [List.mem_cons, List.not_mem_nil, or_false]
            rintro x (rfl | rfl | rfl | rfl | rfl | rfl | rfl | rfl | rfl | rfl | rfl | rfl | rfl | rfl | rfl | rfl | rfl | rfl | rfl | rfl | rfl | rfl | rfl | rfl | rfl | rfl | rfl | rfl | rfl | rfl | rfl | rfl | rfl | rfl | rfl)
            · exact b0
            · exact b1
            · exact b2
            · exact c2
            · exact d2
            · exact b3 _
            · exact b3 _
            · exact b3 _
            · exact b3 _
            · exact b3 _
            · exact b3 _
            · exact b3 _
            · exact b3 _
            · exact b4 _
            · exact b4 _
            · exact b4 _
            · exact b4 _
            · exact b4 _
            · exact b4 _
            · exact b4 _
            · exact b4 _
            · exact b5
            · exact c5
            · exact d5
            · exact b6 _
            · exact b6 _
            · exact b6 _
            · exact b6 _
            · exact b6 _
            · exact b6 _
            · exact b6 _
            · exact b6 _
            · exact by omega
            · exact b8
            · exact b9
          exact hall _ (by
            rw [List.getD, List.getElem?_eq_getElem (by simpa using hi)]
            exact List.getElem_mem _)
        · rw [List.getD, List.getElem?_eq_none (by simp; omega)]
          show 0 < _
          omega
  refine ⟨⟨fun i => if i = 107 then x12 else if i = 108 then x13 else [x0, x1, x2, y2, z2, a3 0, a3 1, a3 2, a3 3, a3 4, a3 5, a3 6, a3 7, a4 0, a4 1, a4 2, a4 3, a4 4, a4 5, a4 6, a4 7, x5, y5, z5, a6 0, a6 1, a6 2, a6 3, a6 4, a6 5, a6 6, a6 7, 0, x8, x9].getD i 0, hlt, x7, F10, F11, F14⟩, ?_⟩
  congr 1
  rw [ecs]
  apply congrArg List.toArray
  rw [e, e0, e1, e2, e3, e4, e5, e6, e7, e8, e9, e10, e11, e12, e13, e14]
  rfl

end

end Go.Proofs.Ytbmhfnallpcmpaa
