/-
  slices.Clone, IndexFunc and DeleteFunc of sessions, by any question that captures one variable: what each call answers.
  Each theorem says its own conditions.
-/
import Derived.Test.YthhloomoiihfnaaRo
import Derived.Test.YthhloomoiihfnaaLn
namespace Go.Proofs.Ythhloomoiihfnaa
set_option maxRecDepth 10000
set_option linter.unusedSimpArgs false
open Go.ChangeShapes Go.WideShapes Go.ChangeAt Go.RowKit Go.WideElems Go.Sort
set_option linter.unusedVariables false
set_option linter.unusedSimpArgs false

/- A list that was made since there were B blocks. -/
def MadeSe (L : List Se) (B : Nat) (e : Ending) (w' : World) : Prop := ∃ a c, e = .returned (.slice a L.length c) ∧ Lg Se.vals 2 41 B a c L w'

set_option maxHeartbeats 1000000 in
theorem sclone_ok (L : List Se) (la : Option Addr) (lc : Nat) (hl : L.length * 16 ≤ 140737488355328) (w : World) (hS : Li Se.vals 0 la L w) : Calls Try.prog 19 #[.slice la L.length lc] w fun e w' => MadeSe L w.heap.size e w' ∧ Below w.heap.size w w' := by
  obtain ⟨iI, zI, hI, hz0, hsz, hby, hzs⟩ := infoSe
  cases la with
  | none =>
    obtain rfl : L = [] := by
      rcases hS with h | ⟨_, _, h, _⟩
      · exact h
      · cases h
    have HC : MadeSe [] w.heap.size (.returned (.slice none 0 0)) w := ⟨none, 0, rfl, Lg.none _ _ _⟩
    have hq : ∀ w, (binOp .eql 23 (.slice none 0 lc) (.slice none 0 0)).run Try.prog w = .ok (.bool true) w := fun w => by kernel_rfl
    clear hS hI
    show Calls Try.prog 19 #[.slice none 0 lc] w _
    go_enter Try.func19, Try.ntmps19
    go_wp2_with fail
    go_ret
    exact ⟨HC, Below.refl _ _⟩
  | some ad =>
    have b1 := blk_new w #[] 41
    have hB : Below w.heap.size w (w.alloc (.cells #[] 41)) := below_box w _
    have hS1 := hS.below hB
    have hx := hS1.src (P := Try.prog) Se.vals_length Se.vals_one Try.underlying23 lc
    have ho : Ow Se.vals 2 41 w.heap.size 0 [] (w.alloc (.cells #[] 41)) := Ow.empty b1
    obtain ⟨n, hn⟩ : ∃ n, Hid (L.length = n) := ⟨_, rfl⟩
    rw [hn.out] at hl hx ⊢
    have hq : ∀ w, (binOp .eql 23 (.slice (some ad) n lc) (.slice none 0 0)).run Try.prog w = .ok (.bool false) w := fun w => by kernel_rfl
    clear hS hS1 b1
    go_enter Try.func19, Try.ntmps19
    go_wp2_with (first | refine box_Se0 rfl rfl ?_ | (refine append_ow Se.vals_length rfl _ _ rfl Try.underlying23 hI hz0 hsz hby hzs ho rfl (M := L) (by rw [hn.out]; exact hx) rfl (by simp [hn.out]; omega) (by simp [maxLen, hn.out]; omega) ?_; intro g' cap' w5 hg5 hb5 hc5; have hB6 : Below w.heap.size w w5 := hB.trans (hb5.below (by simp) hB.size)))
    go_ret
    refine ⟨⟨some ⟨g', 0, none⟩, cap', by simp, Lg.of (by simpa using hg5) (by rcases hc5 with rfl | h <;> simp at * <;> omega)⟩, hB6⟩

/- What IndexFunc hands back: the first one's place, or -1. -/
def IxSe (q : Se → Bool) (L : List Se) (e : Ending) : Prop := (∃ j k, e = .returned (.int .i64 ((j : Nat) : Int)) ∧ L[j]? = some k ∧ q k = true ∧ ∀ k' ∈ L.take j, q k' = false) ∨ (e = .returned (.int .i64 (-1)) ∧ ∀ k ∈ L, q k = false)

set_option maxHeartbeats 2000000 in
theorem ixs_ok (f : Nat) (v1 : Value) (q : Se → Bool) (he : Enters f) (I : World → Prop) (hI : ∀ w w', I w → Below w.heap.size w w' → I w') (L : List Se) (hf : ∀ k w, I w → Calls Try.prog f #[.agg k.arr, v1] w fun e w' => e = .returned (.bool (q k)) ∧ Below w.heap.size w w')
    (la : Option Addr) (lc : Nat) (lm : L.length ≤ 9223372036854775807) (w : World) (hS : Li Se.vals 0 la L w) (hw : I w) : Calls Try.prog 22 #[.slice la L.length lc, .func (.func f) #[] #[v1]] w fun e w' => IxSe q L e ∧ Below w.heap.size w w' := by
  obtain ⟨n, hn⟩ : ∃ n, L.length = n := ⟨_, rfl⟩
  rw [hn] at lm ⊢
  have HN : Hid (L.length = n) := hn
  clear hn
  go_enter Try.func22, Try.ntmps22
  go_wp2_with fail
  go_loopw [8] (fun iv wr => ∃ j : Nat, j ≤ n ∧ iv = .int .i64 j ∧ Hid (∀ k ∈ L.take j, q k = false) ∧ Li Se.vals 0 la L wr ∧ I wr ∧ Below w.heap.size w wr) (fun iv _ => n - (intOf iv).toNat)
  case atStart => exact ⟨0, by omega, rfl, fun d h => by simp at h, hS, hw, Below.refl _ _⟩
  case round =>
    clear hS hw
    obtain ⟨j, hj, rfl, h0, hS, hX, hB⟩ := hrel
    by_cases hjn : j < n
    · have j0 : (j : Int) < (n : Int) := by omega
      have j1 : (0 : Int) ≤ (j : Int) := by omega
      obtain ⟨k, hk⟩ : ∃ k, L[j]? = some k := ⟨_, List.getElem?_eq_getElem (by rw [HN.out]; exact hjn)⟩
      obtain ⟨b, o, rfl, _, hbl, hr⟩ := hS.at Se.vals_length j k hk
      have pk := hf k wr hX
      obtain ⟨t, ht⟩ : ∃ t, q k = t := ⟨_, rfl⟩
      have HT : Hid (q k = t) := ht
      rw [ht] at pk
      clear ht
      go_wp2_with (refine load_range rfl 41 _ rfl k.vals hr rfl Try.underlying41 rfl sizeSe ?_)
      rw [he, Oper.upon_enter]
      refine pk.mono ?_
      rintro r w1 ⟨rfl, hb⟩
      replace hS := hS.below hb
      replace hX := hI _ _ hX hb
      replace hB := hB.trans (hb.mono hB.size)
      clear hb pk hr
      cases t with
      | true =>
        have HF : IxSe q L (.returned (.int .i64 (j : Int))) := .inl ⟨j, k, rfl, hk, HT.out, h0.out⟩
        clear HT h0 hk hS hX
        go_wp2_with fail
        go_ret
        exact ⟨HF, hB⟩
      | false =>
        have HS : Hid (∀ k ∈ L.take (j + 1), q k = false) := by
          intro e he
          rw [List.take_add_one, hk] at he
          rcases List.mem_append.1 he with he | he
          · exact h0.out e he
          · simp at he
            rw [he]
            exact HT.out
        clear HT h0 hk
        go_wp2_with fail
        exact ⟨⟨j + 1, by omega, by go_num, HS, hS, hX, hB⟩, by simp [intOf]; omega⟩
    · obtain rfl : j = n := by omega
      have HF : IxSe q L (.returned (.int .i64 (-1))) := .inr ⟨rfl, fun k hk => h0.out k (by rw [List.take_of_length_le (by rw [HN.out]; omega)]; exact hk)⟩
      clear h0 HN hS hX
      go_wp2_with fail
      go_ret
      exact ⟨HF, hB⟩

theorem elemSe : Try.prog.elem 23 = 41 := by kernel_rfl
theorem sizeOfSe (w : World) : (sizeOf 41).run Try.prog w = .ok 2 w := by kernel_rfl
theorem zeroOfSe (w : World) : (zeroValue 41).run Try.prog w = .ok (.agg Se.zero.arr) w := by kernel_rfl
def DelSe (q : Se → Bool) (L : List Se) (B : Nat) (ad : Option Addr) (cap : Nat) (e : Ending) (w' : World) : Prop := e = .returned (.slice ad (offL q L).length cap) ∧ Lg Se.vals 2 41 B ad cap (offL q L) w'

set_option maxHeartbeats 2000000 in
theorem sdel_ok (L : List Se) (i j : Nat) (hij : i < j) (hj : j ≤ L.length) (g cap : Nat) (w : World) (hO : Ow Se.vals 2 41 g cap L w) :
    Calls Try.prog 21 #[.slice (some ⟨g, 0, none⟩) L.length cap, .int .i64 (i : Int), .int .i64 (j : Int)] w fun e w' => e = .returned (.slice (some ⟨g, 0, none⟩) (L.take i ++ L.drop j).length cap) ∧ Ow Se.vals 2 41 g cap (L.take i ++ L.drop j) w' ∧ Kp [g] w w' := by
  obtain ⟨iI, zI, hI, hz0, hsz, hby, hzs⟩ := infoSe
  have hcap := hO.len
  obtain ⟨m, hm⟩ : ∃ m, Hid (L.length = m) := ⟨_, rfl⟩
  rw [hm.out] at hj hcap ⊢
  obtain ⟨hcap, hmax⟩ := hcap
  simp only [maxLen] at hmax
  obtain ⟨q, hq⟩ : ∃ q, Hid (m - j = q) := ⟨_, rfl⟩
  obtain ⟨p, hp⟩ : ∃ p, Hid (i + q = p) := ⟨_, rfl⟩
  have pm : p < m := by have := hq.out; have := hp.out; omega
  have l1 : Hid ((L.take i).length = i) := by show _ = i; rw [List.length_take, hm.out]; omega
  have l2 : Hid ((L.drop j).length = q) := by show _ = q; rw [List.length_drop, hm.out]; exact hq.out
  have l3 : Hid ((L.take i ++ L.drop j).length = p) := by show _ = p; rw [List.length_append, l1.out, l2.out]; exact hp.out
  have i0 : (0 : Int) ≤ (i : Int) := by omega
  have j0 : (0 : Int) ≤ (j : Int) := by omega
  have i1 : (i : Int) ≤ (j : Int) := by omega
  have j1 : (j : Int) ≤ (m : Int) := by omega
  have m1 : (m : Int) ≤ (cap : Int) := by omega
  have i2 : (i : Int) ≤ (cap : Int) := by omega
  have e0 : ((i : Int) == (j : Int)) = false := by rw [beq_eq_false_iff_ne]; omega
  rw [l3.out]
  go_enter Try.func21, Try.ntmps21
  go_upto_region 5 with fail
  try simp only [Act.put, List.setIfInBounds_toArray, List.set_cons_zero, List.set_cons_succ]
  clear e0
  replace hO := hO.below (Below.drew (Below.refl w.heap.size w))
  refine wp_region_held_drew (S := fun v => Kp [g] w v) (by kernel_rfl) (Kp.drew _ w) (fun hHeld => ?_)
  refine tkQ 0 hHeld ?_
  try simp only [yy]
  refine tkQ 1 hHeld ?_
  try simp only [yy]
  refine tkQ 2 hHeld ?_
  try simp only [yy]
  refine tkQ 3 hHeld ?_
  try simp only [yy]
  refine tkQ 4 hHeld ?_
  try simp only [yy]
  refine wpAnyH_take (i := 5) (v := .slice (cutA (some ⟨g, 0, none⟩) cap j 2) q (cap - j)) rfl (by kernel_rfl) (by kernel_rfl) (by kernel_rfl) (fun _ _ _ h => h) (by rw [← hq.out]; exact yields_cut (by rfl) _ _ rfl Try.underlying23 elemSe sizeOfSe hj rfl rfl) hHeld ?restd5
  try simp only [yy]
  refine rd1 6 (fun K hK => ?_)
  rw [if_pos (by rfl)]
  have hx := ((hO.li (Nat.zero_le g)).cut Se.vals_length cap j (by rw [hm.out]; exact hcap) (by rw [hm.out]; exact hj)).src (P := Try.prog) Se.vals_length Se.vals_one Try.underlying23 (cap - j)
  rw [l2.out] at hx
  refine wp_append_in Se.vals_length _ _ rfl Try.underlying23 hI hsz (hO.take Se.vals_length i (by rw [hm.out]; omega)) l1.out rfl l2.out hx rfl hp.out (by omega) ?_
  intro u1 hO1 hk1
  refine hK.out _ _ (hHeld.trans hk1) (fun hHeld => ?_)
  clear hK K hx hk1 hO
  try simp only [yy]
  refine tkQ 7 hHeld ?_
  try simp only [yy]
  refine wpAnyH_done (by kernel_rfl) ?_ _
  obtain ⟨C, hC, hCs⟩ := hO1.blk
  obtain ⟨cur, hC, _, _, hsz2, _⟩ := id hO1
  have hs8 : p * 2 + (m - p) * 2 ≤ cur.size := by rw [hsz2]; omega
  have hf8 : p * 2 + (flat Se.vals (List.replicate (m - p) Se.zero)).length ≤ cap * 2 := by rw [flat_length Se.vals_length, List.length_replicate]; omega
  have hT : (L.take i ++ L.drop j).take p = L.take i ++ L.drop j := List.take_of_length_le (by rw [l3.out]; exact Nat.le_refl _)
  have hpL : p ≤ (L.take i ++ L.drop j).length := by rw [l3.out]; exact Nat.le_refl _
  clear hsz2
  go_wp2_with (first | refine cut_mid (k := 2) rfl _ _ _ rfl Try.underlying23 elemSe sizeOfSe pm hcap rfl rfl rfl ?_ | (refine clear_at Se.vals_length (by decide) Se.vals_one Se.zero rfl _ rfl Try.underlying23 zeroOfSe rfl hC (by omega) hs8 rfl ?_; intro w3 b3 k3; have hO3 := hO1.front Se.vals_length p hpL _ hf8 hC b3; have hKp3 := hHeld.trans k3))
  rw [hT] at hO3
  clear hO1 hC b3 hT
  go_ret
  exact ⟨rfl, hO3, hKp3⟩

end Go.Proofs.Ythhloomoiihfnaa
