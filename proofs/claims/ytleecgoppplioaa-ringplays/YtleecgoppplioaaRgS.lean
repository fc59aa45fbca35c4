/-
  What the document's Peek and Drop return, of a ring that is a list.
  Condition, where one is: the list has at most 64 entries.
-/
import Derived.Test.YtleecgoppplioaaRgR
namespace Go.Proofs.Ytleecgoppplioaa
set_option maxRecDepth 10000
open Go.RowKit Go.Sort

set_option maxHeartbeats 2000000 in
theorem rpeek_none (a : Option Addr) (L : List En) (w : World) (c : Nat) (i : Int) (hi : ¬ (0 ≤ i ∧ i < (L.length : Int))) : Calls Try.prog 11 #[.slice a L.length c, .int .i64 i] w (Peeked L i w) := by
  have hfin : ∀ w', Below w.heap.size w w' → Peeked L i w (.returned (.tuple #[.agg En.zero.arr, .bool false])) w' := fun w' hb => ⟨by unfold peekE; rw [if_neg hi, decide_eq_false hi], hb⟩
  have hV := blk_new w En.zero.arr 30
  have hb := below_box w (.cells En.zero.arr 30)
  generalize L.length = n at *
  by_cases hneg : i < 0
  · go_enter Try.func11, Try.ntmps11
    go_wp2_with (first | refine alloc_zero zeroEn rfl rfl ?_ | refine build_zero builtEn rfl rfl ?_ | refine store_same rfl 30 _ _ rfl hV rfl rfl (En.size _) (En.arr_one _) ?_)
    refine bodyPost_ret (ret_two Try.results11 rfl hV Try.underlying30 rfl (En.size _) rfl) rfl (hfin _ hb)
  · have hbig : (n : Int) ≤ i := by omega
    have hpos : 0 ≤ i := by omega
    go_enter Try.func11, Try.ntmps11
    go_wp2_with (first | refine alloc_zero zeroEn rfl rfl ?_ | refine build_zero builtEn rfl rfl ?_ | refine store_same rfl 30 _ _ rfl hV rfl rfl (En.size _) (En.arr_one _) ?_)
    refine bodyPost_ret (ret_two Try.results11 rfl hV Try.underlying30 rfl (En.size _) rfl) rfl (hfin _ hb)

set_option maxHeartbeats 4000000 in
theorem rpeek_some {B : Nat} {a : Option Addr} {L : List En} {w : World} (h : Li En.vals B a L w) (c : Nat) (i : Nat) (hi : i < L.length) : Calls Try.prog 11 #[.slice a L.length c, .int .i64 (i : Int)] w (Peeked L i w) := by
  obtain ⟨x, hx⟩ : ∃ x, L[i]? = some x := ⟨_, List.getElem?_eq_getElem hi⟩
  have hfin : ∀ w', Below w.heap.size w w' → Peeked L i w (.returned (.tuple #[.agg x.arr, .bool true])) w' := fun w' hb => ⟨by
    unfold peekE
    rw [if_pos (by omega), decide_eq_true (by omega), Int.toNat_natCast]
    simp [hx], hb⟩
  obtain ⟨b, o, rfl, _, hbl, hr⟩ := h.at En.vals_length i x hx
  have hr := World.rangeAt_alloc hr (.cells En.zero.arr 30)
  have hV := blk_new w En.zero.arr 30
  have hb := below_box w (.cells En.zero.arr 30)
  clear h hx
  generalize L.length = n at *
  have i0 : ¬ (i : Int) < 0 := by omega
  have i1 : ¬ (n : Int) ≤ (i : Int) := by omega
  go_enter Try.func11, Try.ntmps11
  go_wp2_with (first
    | refine alloc_zero zeroEn rfl rfl ?_
    | refine load_range rfl 30 _ rfl x.vals hr rfl Try.underlying30 rfl sizeEn ?_
    | refine store_new rfl 30 _ _ rfl rfl rfl x.size rfl x.arr_one ?_)
  refine bodyPost_ret (ret_two Try.results11 rfl (blk_new w x.arr 30) Try.underlying30 rfl x.size rfl) rfl (hfin _ (below_box _ _))

theorem rpeek_ok {B : Nat} {a : Option Addr} {L : List En} {w : World} (h : Li En.vals B a L w) (c : Nat) (i : Int) : Calls Try.prog 11 #[.slice a L.length c, .int .i64 i] w (Peeked L i w) := by
  by_cases hi : 0 ≤ i ∧ i < (L.length : Int)
  · obtain ⟨n, rfl⟩ : ∃ n : Nat, i = (n : Int) := ⟨i.toNat, by omega⟩
    exact rpeek_some h c n (by omega)
  · exact rpeek_none a L w c i hi

def Cuts (L : List En) (s : Nat) (w : World) (r : Ending) (w' : World) : Prop := ∃ a c, r = .returned (.slice a (keepL L s).length c) ∧ Li En.vals w.heap.size a (keepL L s) w' ∧ Below w.heap.size w w' ∧ (keepL L s).length ≤ c

theorem grown_more {w W w2 : World} {e : En} {g g2 c2 : Nat} {K : List En} (hg : w.heap.size ≤ g) (ow : Ow En.vals 6 30 g2 c2 (K ++ [e]) w2) (k2 : Kp [g] W w2) (hg2 : g2 = g ∨ W.heap.size ≤ g2) (kb : Kp [] w W) :
    Ow En.vals 6 30 g2 c2 (K ++ [e]) w2 ∧ Kp [] w w2 ∧ w.heap.size ≤ g2 := by
  have hs := kb.size
  exact ⟨ow, kb.new k2 hg, by omega⟩

set_option maxHeartbeats 4000000 in
theorem rdrop_ok {B : Nat} {a : Option Addr} {L : List En} {w : World} (h : Li En.vals B a L w) (c : Nat) (hn64 : L.length ≤ 64) (s : Nat) : Calls Try.prog 14 #[.slice a L.length c, .int .u64 (s : Int)] w (Cuts L s w) := by
  obtain ⟨i, z, hi, hz, hs, hby, hzs⟩ := infoEn
  have hE := blk_new w #[] 30
  have ow0 : Ow En.vals 6 30 w.heap.size 0 [] (w.alloc (.cells #[] 30)) := Ow.empty hE
  have Hm : Hid (maxLen = 9223372036854775807) := rfl
  obtain ⟨n, hn⟩ : ∃ n, L.length = n := ⟨_, rfl⟩
  rw [hn] at hn64 ⊢
  have HN : Hid (L.length = n) := hn
  clear hn hE
  go_enter Try.func14, Try.ntmps14
  go_wp2_with fail
  go_loopw [5, 6] (fun v iv wr => ∃ j g cap : Nat, j ≤ n ∧ iv = .int .i64 j ∧ v = .slice (some ⟨g, 0, none⟩) (keepL (L.take j) s).length cap ∧ w.heap.size ≤ g ∧ Ow En.vals 6 30 g cap (keepL (L.take j) s) wr ∧ Kp [] w wr) (fun _ iv _ => n - (intOf iv).toNat)
  case atStart => exact ⟨0, w.heap.size, 0, by omega, rfl, by simp [keepL], Nat.le_refl _, by simpa [keepL] using ow0, Kp.alloc _ _ _⟩
  case round =>
    clear ow0
    obtain ⟨j, g, cap, hj, rfl, rfl, hg, ow, hk⟩ := hrel
    by_cases hjl : j < n
    · have j0 : (j : Int) < (n : Int) := by omega
      have j1 : (0 : Int) ≤ (j : Int) := by omega
      obtain ⟨x, hx⟩ : ∃ x, L[j]? = some x := ⟨_, List.getElem?_eq_getElem (by rw [HN.out]; exact hjl)⟩
      have hst := keep_step L s j x hx
      have hkl : (keepL (L.take j) s).length ≤ 64 := Nat.le_trans (keep_le _ _) (by rw [List.length_take]; omega)
      obtain ⟨b, o, rfl, _, hbl, hr⟩ := h.at En.vals_length j x hx
      have hr := range_block hr (hk.block b hbl (by simp))
      have c3 : wr.cell? ⟨b, o + j * 6 + 3, none⟩ = some (.int .u64 (x.se : Int)) := hr 3 _ rfl
      clear hx h
      by_cases hse : x.se = s
      · have hse2 : (x.se : Int) = (s : Int) := by omega
        rw [if_pos hse, List.append_nil] at hst
        rw [← hst] at ow ⊢
        clear hse hst
        go_wp2_with fail
        refine ⟨⟨j + 1, g, cap, by omega, by go_num, rfl, hg, ow, hk⟩, by simp [intOf]; omega⟩
      · have hse2 : ¬ (x.se : Int) = (s : Int) := by omega
        rw [if_neg hse] at hst
        clear hse
        have ow := ow.kp (Kp.alloc [] wr (.cells x.arr 30)) (by simp)
        have hk := hk.trans (Kp.alloc [] wr (.cells x.arr 30))
        have src1 := (li_box (f := En.vals) wr x 30 0 (Nat.zero_le _)).src (P := Try.prog) En.vals_length En.vals_one Try.underlying27 1
        generalize keepL (L.take j) s = K at *
        go_wp2_with (first
          | refine load_range rfl 30 _ rfl x.vals hr rfl Try.underlying30 rfl sizeEn ?_
          | refine box_en rfl _ rfl x rfl ?_
          | (at_builtin; refine append_ow (M := [x]) En.vals_length rfl _ _ rfl Try.underlying27 hi hz hs hby hzs ow rfl src1 rfl (by simp; omega) (by rw [Hm.out]; simp; omega) ?_; intro g2 c2 w2 ow2 k2 hg2; obtain ⟨ow2, k2, hg2⟩ := grown_more hg ow2 k2 hg2 hk; rw [← hst] at ow2 ⊢; clear hst ow hk src1 hr c3))
        refine ⟨⟨j + 1, g2, c2, by omega, by go_num, rfl, hg2, ow2, k2⟩, by simp [intOf]; omega⟩
    · obtain rfl : j = n := by omega
      rw [List.take_of_length_le (by rw [HN.out]; exact Nat.le_refl _)] at ow ⊢
      have hfin : Cuts L s w (.returned (.slice (some ⟨g, 0, none⟩) (keepL L s).length cap)) wr := ⟨_, _, rfl, ow.li hg, hk.all, ow.cap⟩
      clear ow hk
      generalize (keepL L s).length = m at *
      go_wp2_with fail
      go_ret
      exact hfin

end Go.Proofs.Ytleecgoppplioaa
