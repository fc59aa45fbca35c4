/-
  What the document's Words answers: the words of a text, the last one all that is left.
  Conditions: at most 140737488355328 bytes in a text; from one to five words.
-/
import Derived.Test.YtiepdfngjfhadaaDoorPaJ
namespace Go.Proofs.YtiepdfngjfhadaaDoor
set_option maxRecDepth 10000
open Go.RowKit Go.Sort
set_option linter.unusedVariables false
set_option linter.unusedSimpArgs false

theorem bsStr0 (w : World) : (Instr.buildSlice 35 0 #[]).run Tryd.prog w = .ok (.slice (some ⟨w.heap.size, 0, none⟩) 0 0) (w.alloc (.cells #[] 9)) := by kernel_rfl
theorem box_str0 {ops : Array Oper} {rest : List Oper} {op : Oper} {a : Act} {w : World} {Q : Exit → Act → World → Prop} (hgd : op.guard = none) (ho : op.op = .buildSlice 35 0 #[])
    (h : ∀ g W, Ow sv1 1 9 g 0 [] W → w.heap.size ≤ g → Below w.heap.size w W → wpList Tryd.prog ops Q rest (a.put op.dst (.slice (some ⟨g, 0, none⟩) 0 0)) W) : wpList Tryd.prog ops Q (op :: rest) a w :=
  wpList_plain hgd fun _ hK => by
    have hk := hK _ _ (h _ _ (Ow.empty (blk_new w #[] 9)) (Nat.le_refl _) (below_box w _))
    unfold Oper.wp execOp
    simp only [ho, List.map_toArray, List.map_nil, Sem.run_bind, Sem.run_pure, bsStr0, Result.andThen_ok]
    exact hk
theorem str_mid (c : ByteArray) (i j : Nat) : c.extract i j = strB (((bL c).drop i).take (j - i)) := by
  apply bL_inj
  show (c.extract i j).data.toList = _
  rw [Lib.extract_data]
  rfl
theorem sl_mid (c : ByteArray) (i j : Nat) (hi : i ≤ j) (hj : j ≤ c.size) (W : World) : (Instr.slice 9 (.string c) (some (.int .i64 (i : Int))) (some (.int .i64 (j : Int))) none).run Tryd.prog W = .ok (.string (strB (((bL c).drop i).take (j - i)))) W := by
  rw [run_slice_string W 9 c .i64 .i64 (i : Int) (j : Int) Tryd.underlying9 (by omega) (by omega) (by omega), show ((i : Int)).toNat = i by omega, show ((j : Int)).toNat = j by omega, str_mid]
theorem drop_split {l : List UInt8} {f j : Nat} {x : UInt8} (hf : f ≤ j) (h : l[j]? = some x) : l.drop f = (l.drop f).take (j - f) ++ x :: l.drop (j + 1) := by
  have h2 := drop_cons h
  rw [← h2]
  have : l.drop j = (l.drop f).drop (j - f) := by rw [List.drop_drop, show f + (j - f) = j by omega]
  rw [this, List.take_append_drop]
theorem mid_snoc {l : List UInt8} {f j : Nat} {x b : UInt8} (hf : f ≤ j) (h : l[j]? = some x) (hn : b ∉ (l.drop f).take (j - f)) (hb : x ≠ b) : b ∉ (l.drop f).take (j + 1 - f) := by
  have : (l.drop f)[j - f]? = some x := by rw [List.getElem?_drop, show f + (j - f) = j by omega]; exact h
  rw [show j + 1 - f = j - f + 1 by omega]
  exact no_snoc hn this hb

/- Words in memory. -/
def WordsIs (B : Nat) (m : Nat) (s : List UInt8) (e : Ending) (w : World) : Prop := ∃ (a : Option Addr) (L : List ByteArray) (c : Nat), e = .returned (.slice a L.length c) ∧ L.map bL = wordsL m s ∧ Li sv1 B a L w
set_option maxHeartbeats 8000000 in
theorem rwords_ok (s : ByteArray) (hs : s.size ≤ 140737488355328) (m : Nat) (hm : m ≤ 4) (w : World) :
    Calls Tryd.prog 15 #[.string s, .int .i64 ((m : Int) + 1)] w fun e w' => WordsIs 0 m (bL s) e w' ∧ Below w.heap.size w w' := by
  have hl := bL_len s
  obtain ⟨iI, zI, hI, hz0, hsz, hby, hzs⟩ := infoStr
  obtain ⟨n, hn⟩ : ∃ n, Hid (s.size = n) := ⟨_, rfl⟩
  rw [hn.out] at hs hl
  go_enter Tryd.func15, Tryd.ntmps15
  go_wp2_with (refine box_str0 rfl rfl ?_; intro g0 V0 hO0 hg0 hb0; have hG0 := Lg.of (B := w.heap.size) hO0 hg0)
  go_loopw [5, 6, 7] (fun ov fv iv wr => ∃ (j f l : Nat) (a : Option Addr) (c : Nat) (L : List ByteArray), j ≤ n ∧ f ≤ j ∧ l ≤ m ∧ iv = .int .i64 (j : Int) ∧ fv = .int .i64 (f : Int) ∧ ov = .slice a l c ∧ Hid (L.length = l) ∧ Lg sv1 1 9 w.heap.size a c L wr ∧
    Hid (wordsL m (bL s) = L.map bL ++ wordsL (m - l) ((bL s).drop f)) ∧ Hid ((32 : UInt8) ∉ ((bL s).drop f).take (j - f)) ∧ Below w.heap.size w wr) (fun _ _ iv _ => n - (intOf iv).toNat)
  case atStart => exact ⟨0, 0, 0, _, 0, [], by omega, by omega, by omega, rfl, rfl, rfl, rfl, hG0, by show _ = _; simp, by show _ ∉ _; simp, hb0⟩
  case round =>
    obtain ⟨j, f, l, a, c, L, hj, hf, hlm, rfl, rfl, rfl, hL, hG, HW, HN, hB⟩ := hrel
    rename World => wr
    have hns : (s.size : Int) = (n : Int) := by rw [hn.out]
    by_cases hend : j < n ∧ l < m
    · obtain ⟨hjn, hlm2⟩ := hend
      have j0 : (j : Int) < (n : Int) := by omega
      have j1 : (0 : Int) ≤ (j : Int) := by omega
      have l0 : (l : Int) < (m : Int) := by omega
      have l1 : (m : Int) + 1 - 1 = (m : Int) := by omega
      obtain ⟨x, hx⟩ : ∃ x, (bL s)[j]? = some x := ⟨_, List.getElem?_eq_getElem (by rw [hl]; exact hjn)⟩
      have hix := str_ix hx
      by_cases h32 : x = 32
      · have HW2 : Hid (wordsL m (bL s) = (L ++ [strB (((bL s).drop f).take (j - f))]).map bL ++ wordsL (m - (l + 1)) ((bL s).drop (j + 1))) := by
          show _ = _
          have e := drop_split hf hx
          rw [h32] at e
          rw [HW.out, show m - l = (m - (l + 1)) + 1 by omega, e, wordsL_cons HN.out, ← e]
          simp [bL_strB]
        have HN2 : Hid ((32 : UInt8) ∉ ((bL s).drop (j + 1)).take (j + 1 - (j + 1))) := by
          show _ ∉ _
          simp
        have s1 := sl_mid s f j hf (by rw [hn.out]; omega)
        have d1 : ((x.toNat : Int) == 32) = true := by rw [h32]; rfl
        clear h32 hx HN HW hl
        generalize strB (((bL s).drop f).take (j - f)) = b at HW2 s1
        go_wp2_with (first | (refine box_str rfl _ rfl b rfl ?_; intro g1 Y1 hO1 hg1 hb1; have hQ1 := hG.below hb1; have hZ1 := below_next hB hb1) | (refine append_lg sv1_len rfl _ _ rfl Tryd.underlying35 hI hz0 hsz hby hzs hQ1 hZ1.size hL.out rfl (M := [b]) (Nat.zero_lt_succ _) ((hO1.li (Nat.zero_le _)).src sv1_len sv1_one Tryd.underlying35 1) rfl (show (l + 1) * 16 ≤ 140737488355328 by omega) (show l + 1 ≤ maxLen by simp only [maxLen]; omega) ?_; intro a1 c1 V1 hG1 hbb1))
        exact ⟨⟨j + 1, j + 1, l + 1, a1, c1, L ++ [b], by omega, by omega, by omega, by go_num, by go_num, rfl, by show _ = _; rw [List.length_append, hL.out]; rfl, hG1, HW2, HN2, hZ1.trans hbb1⟩, by simp [intOf]; omega⟩
      · have HN2 : Hid ((32 : UInt8) ∉ ((bL s).drop f).take (j + 1 - f)) := mid_snoc hf hx HN.out h32
        have d1 : ((x.toNat : Int) == 32) = false := by
          have h : ¬ x.toNat = 32 := fun h => h32 (UInt8.toNat_inj.1 h)
          simp; omega
        clear h32 hx HN hl
        go_wp2_with fail
        exact ⟨⟨j + 1, f, l, a, c, L, by omega, by omega, by omega, by go_num, rfl, rfl, hL, hG, HW, HN2, hB⟩, by simp [intOf]; omega⟩
    · have HW2 : Hid (wordsL m (bL s) = (L ++ [strB ((bL s).drop f)]).map bL) := by
        show _ = _
        rw [HW.out]
        have : wordsL (m - l) ((bL s).drop f) = [(bL s).drop f] := by
          by_cases h : l = m
          · rw [h, Nat.sub_self]
            rfl
          · have hjn : j = n := by omega
            apply wordsL_one
            have h2 := HN.out
            rw [List.take_of_length_le (by rw [List.length_drop]; omega)] at h2
            exact h2
        rw [this]
        simp [bL_strB]
      have s2 := sl_drop s f (by rw [hn.out]; omega) .i64 (f : Int) rfl
      clear HN HW hl
      generalize strB ((bL s).drop f) = b at HW2 s2
      have HE : ∀ a1 c1 V1, Lg sv1 1 9 w.heap.size a1 c1 (L ++ [b]) V1 → Hid (WordsIs 0 m (bL s) (.returned (.slice a1 (l + 1) c1)) V1) := fun a1 c1 V1 h => ⟨a1, L ++ [b], c1, by rw [List.length_append, hL.out]; rfl, HW2.out.symm, h.li.mono (Nat.zero_le _)⟩
      by_cases hjn : j < n
      · have j0 : (j : Int) < (n : Int) := by omega
        have l0 : ¬ (l : Int) < (m : Int) := by omega
        have l1 : (m : Int) + 1 - 1 = (m : Int) := by omega
        clear hend
        go_wp2_with (first | (refine box_str rfl _ rfl b rfl ?_; intro g1 Y1 hO1 hg1 hb1; have hQ1 := hG.below hb1; have hZ1 := below_next hB hb1) | (refine append_lg sv1_len rfl _ _ rfl Tryd.underlying35 hI hz0 hsz hby hzs hQ1 hZ1.size hL.out rfl (M := [b]) (Nat.zero_lt_succ _) ((hO1.li (Nat.zero_le _)).src sv1_len sv1_one Tryd.underlying35 1) rfl (show (l + 1) * 16 ≤ 140737488355328 by omega) (show l + 1 ≤ maxLen by simp only [maxLen]; omega) ?_; intro a1 c1 V1 hG1 hbb1))
        go_ret
        exact ⟨(HE _ _ _ hG1).out, hZ1.trans hbb1⟩
      · have j0 : ¬ (j : Int) < (n : Int) := by omega
        clear hend
        go_wp2_with (first | (refine box_str rfl _ rfl b rfl ?_; intro g1 Y1 hO1 hg1 hb1; have hQ1 := hG.below hb1; have hZ1 := below_next hB hb1) | (refine append_lg sv1_len rfl _ _ rfl Tryd.underlying35 hI hz0 hsz hby hzs hQ1 hZ1.size hL.out rfl (M := [b]) (Nat.zero_lt_succ _) ((hO1.li (Nat.zero_le _)).src sv1_len sv1_one Tryd.underlying35 1) rfl (show (l + 1) * 16 ≤ 140737488355328 by omega) (show l + 1 ≤ maxLen by simp only [maxLen]; omega) ?_; intro a1 c1 V1 hG1 hbb1))
        go_ret
        exact ⟨(HE _ _ _ hG1).out, hZ1.trans hbb1⟩

end Go.Proofs.YtiepdfngjfhadaaDoor
