/-
  slices.Clone, IndexFunc and DeleteFunc of capabilities, by any question that captures one variable; the document's Same: what each call answers.
  Each theorem says its own conditions.
-/
import Derived.Test.YtbefamedligoeaaRt
import Derived.Test.YtbefamedligoeaaLn
namespace Go.Proofs.Ytbefamedligoeaa
set_option maxRecDepth 10000
open Go.ChangeShapes Go.WideShapes Go.ChangeAt Go.RowKit Go.WideElems Go.Sort
set_option linter.unusedVariables false
set_option linter.unusedSimpArgs false

/- A list that was made since there were B blocks. -/
def MadeRi (L : List Ri) (B : Nat) (e : Ending) (w' : World) : Prop := ∃ a c, e = .returned (.slice a L.length c) ∧ Lg Ri.vals 4 46 B a c L w'

set_option maxHeartbeats 1000000 in
theorem rclone_ok (L : List Ri) (la : Option Addr) (lc : Nat) (hl : L.length * 32 ≤ 140737488355328) (w : World) (hS : Li Ri.vals 0 la L w) : Calls Try.prog 22 #[.slice la L.length lc] w fun e w' => MadeRi L w.heap.size e w' ∧ Below w.heap.size w w' := by
  obtain ⟨iI, zI, hI, hz0, hsz, hby, hzs⟩ := infoRi
  cases la with
  | none =>
    obtain rfl : L = [] := by
      rcases hS with h | ⟨_, _, h, _⟩
      · exact h
      · cases h
    have HC : MadeRi [] w.heap.size (.returned (.slice none 0 0)) w := ⟨none, 0, rfl, Lg.none _ _ _⟩
    have hq : ∀ w, (binOp .eql 22 (.slice none 0 lc) (.slice none 0 0)).run Try.prog w = .ok (.bool true) w := fun w => by kernel_rfl
    clear hS hI
    show Calls Try.prog 22 #[.slice none 0 lc] w _
    go_enter Try.func22, Try.ntmps22
    go_wp2_with fail
    go_ret
    exact ⟨HC, Below.refl _ _⟩
  | some ad =>
    have b1 := blk_new w #[] 46
    have hB : Below w.heap.size w (w.alloc (.cells #[] 46)) := below_box w _
    have hS1 := hS.below hB
    have hx := hS1.src (P := Try.prog) Ri.vals_length Ri.vals_one Try.underlying22 lc
    have ho : Ow Ri.vals 4 46 w.heap.size 0 [] (w.alloc (.cells #[] 46)) := Ow.empty b1
    obtain ⟨n, hn⟩ : ∃ n, Hid (L.length = n) := ⟨_, rfl⟩
    rw [hn.out] at hl hx ⊢
    have hq : ∀ w, (binOp .eql 22 (.slice (some ad) n lc) (.slice none 0 0)).run Try.prog w = .ok (.bool false) w := fun w => by kernel_rfl
    clear hS hS1 b1
    go_enter Try.func22, Try.ntmps22
    go_wp2_with (first | refine box_Ri0 rfl rfl ?_ | (refine append_ow Ri.vals_length rfl _ _ rfl Try.underlying22 hI hz0 hsz hby hzs ho rfl (M := L) (by rw [hn.out]; exact hx) rfl (by simp [hn.out]; omega) (by simp [maxLen, hn.out]; omega) ?_; intro g' cap' w5 hg5 hb5 hc5; have hB6 : Below w.heap.size w w5 := hB.trans (hb5.below (by simp) hB.size)))
    go_ret
    refine ⟨⟨some ⟨g', 0, none⟩, cap', by simp, Lg.of (by simpa using hg5) (by rcases hc5 with rfl | h <;> simp at * <;> omega)⟩, hB6⟩

/- What IndexFunc hands back: the first one's place, or -1. -/
def IxRi (q : Ri → Bool) (L : List Ri) (e : Ending) : Prop := (∃ j k, e = .returned (.int .i64 ((j : Nat) : Int)) ∧ L[j]? = some k ∧ q k = true ∧ ∀ k' ∈ L.take j, q k' = false) ∨ (e = .returned (.int .i64 (-1)) ∧ ∀ k ∈ L, q k = false)

set_option maxHeartbeats 2000000 in
theorem ixr_ok (f : Nat) (v1 : Value) (q : Ri → Bool) (he : Enters f) (I : World → Prop) (hI : ∀ w w', I w → Below w.heap.size w w' → I w') (L : List Ri) (hf : ∀ k w, I w → Calls Try.prog f #[.agg k.arr, v1] w fun e w' => e = .returned (.bool (q k)) ∧ Below w.heap.size w w')
    (la : Option Addr) (lc : Nat) (lm : L.length ≤ 9223372036854775807) (w : World) (hS : Li Ri.vals 0 la L w) (hw : I w) : Calls Try.prog 27 #[.slice la L.length lc, .func (.func f) #[] #[v1]] w fun e w' => IxRi q L e ∧ Below w.heap.size w w' := by
  obtain ⟨n, hn⟩ : ∃ n, L.length = n := ⟨_, rfl⟩
  rw [hn] at lm ⊢
  have HN : Hid (L.length = n) := hn
  clear hn
  go_enter Try.func27, Try.ntmps27
  go_wp2_with fail
  go_loopw [8] (fun iv wr => ∃ j : Nat, j ≤ n ∧ iv = .int .i64 j ∧ Hid (∀ k ∈ L.take j, q k = false) ∧ Li Ri.vals 0 la L wr ∧ I wr ∧ Below w.heap.size w wr) (fun iv _ => n - (intOf iv).toNat)
  case atStart => exact ⟨0, by omega, rfl, fun d h => by simp at h, hS, hw, Below.refl _ _⟩
  case round =>
    clear hS hw
    obtain ⟨j, hj, rfl, h0, hS, hX, hB⟩ := hrel
    by_cases hjn : j < n
    · have j0 : (j : Int) < (n : Int) := by omega
      have j1 : (0 : Int) ≤ (j : Int) := by omega
      obtain ⟨k, hk⟩ : ∃ k, L[j]? = some k := ⟨_, List.getElem?_eq_getElem (by rw [HN.out]; exact hjn)⟩
      obtain ⟨b, o, rfl, _, hbl, hr⟩ := hS.at Ri.vals_length j k hk
      have pk := hf k wr hX
      obtain ⟨t, ht⟩ : ∃ t, q k = t := ⟨_, rfl⟩
      have HT : Hid (q k = t) := ht
      rw [ht] at pk
      clear ht
      go_wp2_with (refine load_range rfl 46 _ rfl k.vals hr rfl Try.underlying46 rfl sizeRi ?_)
      rw [he, Oper.upon_enter]
      refine pk.mono ?_
      rintro r w1 ⟨rfl, hb⟩
      replace hS := hS.below hb
      replace hX := hI _ _ hX hb
      replace hB := hB.trans (hb.mono hB.size)
      clear hb pk hr
      cases t with
      | true =>
        have HF : IxRi q L (.returned (.int .i64 (j : Int))) := .inl ⟨j, k, rfl, hk, HT.out, h0.out⟩
        clear HT h0 hk hS hX
        go_wp2_with fail
        go_ret
        exact ⟨HF, hB⟩
      | false =>
        have HS : Hid (∀ k ∈ L.take (j + 1), q k = false) := by
          intro e he
          rw [List.take_add_one, hk] at he
          rcases List.mem_append.1 he with he | he
          · exact h0.out e he
          · simp at he
            rw [he]
            exact HT.out
        clear HT h0 hk
        go_wp2_with fail
        exact ⟨⟨j + 1, by omega, by go_num, HS, hS, hX, hB⟩, by simp [intOf]; omega⟩
    · obtain rfl : j = n := by omega
      have HF : IxRi q L (.returned (.int .i64 (-1))) := .inr ⟨rfl, fun k hk => h0.out k (by rw [List.take_of_length_le (by rw [HN.out]; omega)]; exact hk)⟩
      clear h0 HN hS hX
      go_wp2_with fail
      go_ret
      exact ⟨HF, hB⟩

theorem elemRi : Try.prog.elem 22 = 46 := by kernel_rfl
theorem sizeOfRi (w : World) : (sizeOf 46).run Try.prog w = .ok 4 w := by kernel_rfl
theorem zeroOfRi (w : World) : (zeroValue 46).run Try.prog w = .ok (.agg Ri.zero.arr) w := by kernel_rfl
def DelRi (q : Ri → Bool) (L : List Ri) (B : Nat) (ad : Option Addr) (cap : Nat) (e : Ending) (w' : World) : Prop := e = .returned (.slice ad (offL q L).length cap) ∧ Lg Ri.vals 4 46 B ad cap (offL q L) w'

set_option maxHeartbeats 4000000 in
theorem delr_ok (f : Nat) (X : Nat) (C9 : Array Value) (T9 : TypeId) (q : Ri → Bool) (he : Enters f) (hf : ∀ k w, Blk X C9 T9 w → Calls Try.prog f #[.agg k.arr, .pointer (some ⟨X, 0, none⟩)] w fun e w' => e = .returned (.bool (q k)) ∧ Below w.heap.size w w')
    (L : List Ri) (B : Nat) (ad : Option Addr) (cap : Nat) (w : World) (hG : Lg Ri.vals 4 46 B ad cap L w) (hX : Blk X C9 T9 w) (hne : X ∉ blkOf ad) :
    Calls Try.prog 25 #[.slice ad L.length cap, .func (.func f) #[] #[.pointer (some ⟨X, 0, none⟩)]] w fun e w' => DelRi q L B ad cap e w' ∧ Kp (blkOf ad) w w' := by
  have hlm : L.length ≤ 9223372036854775807 := by
    rcases hG with ⟨_, _, rfl⟩ | ⟨g, _, _, h⟩
    · simp
    · have := h.len; simp only [maxLen] at this; omega
  have pi := ixr_ok f (.pointer (some ⟨X, 0, none⟩)) q he (fun w => Blk X C9 T9 w) (fun w w' h hb => h.below hb) L hf ad cap hlm w (hG.li.mono (Nat.zero_le _)) hX
  obtain ⟨n, hn⟩ : ∃ n, L.length = n := ⟨_, rfl⟩
  rw [hn] at pi hlm ⊢
  have HN : Hid (L.length = n) := hn
  clear hn
  go_enter Try.func25, Try.ntmps25
  go_wp2_with fail
  refine pi.mono ?_
  rintro r w1 ⟨hF, hb⟩
  replace hG := hG.below hb
  replace hX := hX.below hb
  have hKp : Kp (blkOf ad) w w1 := Kp.of_below hb
  clear hb pi
  rcases hF with ⟨j0, k0, rfl, hj0, hp0, hall⟩ | ⟨rfl, hall⟩
  rotate_left
  · have HD : DelRi q L B ad cap (.returned (.slice ad n cap)) w1 := by
      have e := off_all q L hall
      refine ⟨by rw [e, HN.out], by rw [e]; exact hG⟩
    clear hG hX hall
    go_wp2_with fail
    go_ret
    exact ⟨HD, hKp⟩
  obtain ⟨g, rfl, hBg, hO⟩ : ∃ g, ad = some ⟨g, 0, none⟩ ∧ B ≤ g ∧ Ow Ri.vals 4 46 g cap L w1 := by
    rcases hG with ⟨_, _, rfl⟩ | h
    · simp at hj0
    · exact h
  have hXg : X ≠ g := by simpa [blkOf] using hne
  have hKp : Kp [g] w w1 := hKp
  show _
  have hj0n : j0 < n := by rw [← HN.out]; exact (List.getElem?_eq_some_iff.1 hj0).1
  have h0 : offL q (L.take (j0 + 1)) = L.take j0 := by rw [off_yes q L j0 k0 hj0 hp0, off_all q _ hall]
  have hlj : (L.take j0).length = j0 := by rw [List.length_take, HN.out]; omega
  have hcap := hO.len
  rw [HN.out] at hcap
  have H0 : Hid ((offL q (L.take (j0 + 1))).length = j0 ∧ L.take j0 = offL q (L.take (j0 + 1))) := ⟨by rw [h0, hlj], h0.symm⟩
  have i0 : (((j0 : Nat) : Int) == -1) = false := by rw [beq_eq_false_iff_ne]; omega
  have j63 : (j0 : Int) + 1 ≤ 9223372036854775807 := by omega
  clear hall hp0 hj0 h0 hlj hG hne
  go_wp2_with fail
  clear i0 j63
  go_loopw [5, 6] (fun iv jv wr => ∃ (i j : Nat) (L' : List Ri), i < j ∧ j ≤ n ∧ iv = .int .i64 i ∧ jv = .int .i64 j ∧ Hid ((offL q (L.take j)).length = i) ∧ Hid (L'.take i = offL q (L.take j)) ∧ Hid (∀ q, j ≤ q → L'[q]? = L[q]?) ∧ Hid (L'.length = n) ∧ Ow Ri.vals 4 46 g cap L' wr ∧ Blk X C9 T9 wr ∧ Kp [g] w wr) (fun _ jv _ => n - (intOf jv).toNat)
  case atStart => exact ⟨j0, j0 + 1, L, by omega, by omega, rfl, by go_num, H0.out.1, H0.out.2, fun _ _ => rfl, HN, hO, hX, hKp⟩
  case round =>
    clear hO hX hKp H0 hj0n
    obtain ⟨i, j, L', hij, hj, rfl, rfl, HI, HT, HR, HL, hO, hX, hKp⟩ := hrel
    by_cases hjn : j < n
    · have j0 : (j : Int) < (n : Int) := by omega
      have j1 : (0 : Int) ≤ (j : Int) := by omega
      have i1 : (0 : Int) ≤ (i : Int) := by omega
      have i2 : (i : Int) < (n : Int) := by omega
      obtain ⟨k, hk⟩ : ∃ k, L[j]? = some k := ⟨_, List.getElem?_eq_getElem (by rw [HN.out]; exact hjn)⟩
      obtain ⟨b', o', e', _, _, hr⟩ := (hO.li (Nat.zero_le g)).at Ri.vals_length j k (by rw [HR.out j (Nat.le_refl _)]; exact hk)
      injection e' with e'
      injection e' with e1 e2 e3
      subst e1 e2
      rw [Nat.zero_add] at hr
      obtain ⟨t, ht⟩ : ∃ t, q k = t := ⟨_, rfl⟩
      have HO : Hid (q k = t) := ht
      have pk := hf k
      rw [ht] at pk
      have b1 := blk_new wr k.arr 46
      have hb1 : Below wr.heap.size wr (wr.alloc (.cells k.arr 46)) := below_box wr _
      have hvg : wr.heap.size ≠ g := by have := hO.lt; omega
      have hw : w.heap.size ≤ wr.heap.size := hKp.size
      clear ht
      go_upto_region 8 with (first | refine load_range rfl 46 _ rfl k.vals hr rfl Try.underlying46 rfl sizeRi ?_ | refine alloc_zero zeroRi rfl rfl ?_ | refine store_new rfl 46 _ _ rfl (cells := k.arr) rfl rfl sizeRi rfl (Ri.arr_one _) ?_)
      try simp only [Act.put, List.setIfInBounds_toArray, List.set_cons_zero, List.set_cons_succ]
      generalize wr.alloc (Obj.cells k.arr 46) = V at b1 hb1 ⊢
      replace hO := hO.below hb1
      replace hX := hX.below hb1
      replace hKp := hKp.trans (Kp.of_below (S := [g]) hb1)
      generalize wr.heap.size = v at *
      clear hb1 hr
      go_wp2_with (refine load_blk rfl 46 _ rfl b1 rfl Try.underlying46 rfl sizeRi ?_)
      rw [he, Oper.upon_enter]
      refine (pk _ hX).mono ?_
      rintro r w2 ⟨rfl, hb⟩
      replace b1 := b1.below hb
      replace hO := hO.below hb
      replace hX := hX.below hb
      replace hKp := hKp.trans (Kp.of_below (S := [g]) hb)
      clear hb pk
      cases t with
      | true =>
        have e := off_yes q L j k hk HO.out
        have HI2 : Hid ((offL q (L.take (j + 1))).length = i) := by rw [e]; exact HI
        have HT2 : Hid (L'.take i = offL q (L.take (j + 1))) := by rw [e]; exact HT
        have HR2 : Hid (∀ q, j + 1 ≤ q → L'[q]? = L[q]?) := fun q hq => HR.out q (by omega)
        clear e HI HT HR HO hk b1
        go_wp2_with fail
        exact ⟨⟨i, j + 1, L', by omega, by omega, rfl, by go_num, HI2, HT2, HR2, HL, hO, hX, hKp⟩, by simp [intOf]; omega⟩
      | false =>
        have e := off_no q L j k hk HO.out
        have HI2 : Hid ((offL q (L.take (j + 1))).length = i + 1) := by
          show (offL q (L.take (j + 1))).length = i + 1
          rw [e, List.length_append, HI.out]; rfl
        have HT2 : Hid ((L'.set i k).take (i + 1) = offL q (L.take (j + 1))) := by
          show (L'.set i k).take (i + 1) = offL q (L.take (j + 1))
          rw [e, ← HT.out, set_take1 L' i k (by rw [HL.out]; omega)]
        have HR2 : Hid (∀ q, j + 1 ≤ q → (L'.set i k)[q]? = L[q]?) := fun q hq => by
          rw [List.getElem?_set_ne (by omega)]
          exact HR.out q (by omega)
        have HL2 : Hid ((L'.set i k).length = n) := by
          show (L'.set i k).length = n
          rw [List.length_set]; exact HL.out
        obtain ⟨cur, hC, _, _, hsz, _⟩ := id hO
        have hoff : i * 4 + k.arr.size ≤ cur.size := by rw [hsz, Ri.arr_size]; omega
        have hiL : i < L'.length := by rw [HL.out]; omega
        clear e HI HT HR HO hk hsz
        go_wp2_with (first | refine load_blk rfl 46 _ rfl b1 rfl Try.underlying46 rfl sizeRi ?_ | (refine store_part rfl 46 _ _ rfl (off := i * 4) (cells := k.arr) hC rfl rfl sizeRi hoff (Ri.arr_one _) ?_; intro w3 b3 k3; have hO3 := hO.put Ri.vals_length (by decide) i hiL k hC b3; have hX3 := hX.kp1 k3 hXg; have hKp3 := hKp.trans k3))
        exact ⟨⟨i + 1, j + 1, L'.set i k, by omega, by omega, by go_num, by go_num, HI2, HT2, HR2, HL2, hO3, hX3, hKp3⟩, by simp [intOf]; omega⟩
    · obtain rfl : j = n := by omega
      have e : L.take j = L := List.take_of_length_le (by rw [HN.out]; omega)
      rw [e] at HI HT
      have i1 : (0 : Int) ≤ (i : Int) := by omega
      have i2 : (i : Int) ≤ (cap : Int) := by omega
      have i3 : (i : Int) ≤ (j : Int) := by omega
      obtain ⟨cur, hC, _, _, hsz, _⟩ := id hO
      have hs38 : i * 4 + (j - i) * 4 ≤ cur.size := by rw [hsz]; omega
      have hf38 : i * 4 + (flat Ri.vals (List.replicate (j - i) Ri.zero)).length ≤ cap * 4 := by rw [flat_length Ri.vals_length, List.length_replicate]; omega
      have hiL : i ≤ L'.length := by rw [HL.out]; omega
      clear e HR HN hsz
      go_wp2_with (first | refine cut_low (k := 4) rfl _ _ rfl Try.underlying22 elemRi sizeOfRi hij hcap.1 rfl rfl ?_ | (refine clear_at Ri.vals_length (by decide) Ri.vals_one Ri.zero rfl _ rfl Try.underlying22 zeroOfRi rfl hC (by omega) hs38 rfl ?_; intro w3 b3 k3; have hO3 := hO.front Ri.vals_length i hiL _ hf38 hC b3; have hKp3 := hKp.trans k3))
      have HD : DelRi q L B (some ⟨g, 0, none⟩) cap (.returned (.slice (some ⟨g, 0, none⟩) i cap)) w3 := by
        rw [HT.out] at hO3
        exact ⟨by rw [HI.out], Lg.of hO3 hBg⟩
      clear HI HT HL hO hO3 hC b3 hX
      go_ret
      exact ⟨HD, hKp3⟩

set_option maxHeartbeats 1000000 in
theorem rsameR_ok (L : List Ri) (la lb : Option Addr) (lc ld : Nat) (lm : L.length ≤ 9223372036854775807) (w : World) (hA : Li Ri.vals 0 la L w) (hC : Li Ri.vals 0 lb L w) : Calls Try.prog 14 #[.slice la L.length lc, .slice lb L.length ld] w fun e w' => e = .returned (.bool true) ∧ Below w.heap.size w w' := by
  obtain ⟨n, hn⟩ : ∃ n, Hid (L.length = n) := ⟨_, rfl⟩
  rw [hn.out] at lm ⊢
  have n0 : ((n : Int) != (n : Int)) = false := by simp
  go_enter Try.func14, Try.ntmps14
  go_wp2_with fail
  clear n0
  go_loopw [5] (fun iv wr => ∃ j : Nat, j ≤ n ∧ iv = .int .i64 j ∧ Li Ri.vals 0 la L wr ∧ Li Ri.vals 0 lb L wr ∧ Below w.heap.size w wr) (fun iv _ => n - (intOf iv).toNat)
  case atStart => exact ⟨0, by omega, rfl, hA, hC, Below.refl _ _⟩
  case round =>
    clear hA hC
    obtain ⟨j, hj, rfl, hA, hC, hB⟩ := hrel
    by_cases hjn : j < n
    · have j0 : (j : Int) < (n : Int) := by omega
      have j1 : (0 : Int) ≤ (j : Int) := by omega
      obtain ⟨k, hk⟩ : ∃ k, L[j]? = some k := ⟨_, List.getElem?_eq_getElem (by rw [hn.out]; exact hjn)⟩
      obtain ⟨b, o, rfl, _, hbl, hr⟩ := hA.at Ri.vals_length j k hk
      obtain ⟨b', o', rfl, _, hbl', hr'⟩ := hC.at Ri.vals_length j k hk
      have kK : ∀ w, (binOp .neq 46 (.agg k.vals.toArray) (.agg k.vals.toArray)).run Try.prog w = .ok (.bool false) w := neqRi k k true (Ri.same_self k)
      have la : ∀ w', (∃ p : Regrown, w' = grow (redrawn wr p.d) p.os) → w'.rangeAt b (o + j * 4) k.vals := fun w' ⟨p, e⟩ => e ▸ range_block hr ((below_regrown wr p.d p.os).block b hbl)
      have lb : ∀ w', (∃ p : Regrown, w' = grow (redrawn wr p.d) p.os) → w'.rangeAt b' (o' + j * 4) k.vals := fun w' ⟨p, e⟩ => e ▸ range_block hr' ((below_regrown wr p.d p.os).block b' hbl')
      clear hk hr hr' hbl hbl'
      go_upto_region 6 with fail
      try simp only [Act.put, List.setIfInBounds_toArray, List.set_cons_zero, List.set_cons_succ]
      refine wp_region_quiet_below (by kernel_rfl) (by kernel_rfl) ?_
      repeat (first
        | (go_big_quiet_want; refine quiet_range (off := o + j * 4) rfl rfl la Try.underlying46 rfl sizeRi ?_; simp only [Act.put, List.setIfInBounds_toArray, List.set_cons_zero, List.set_cons_succ]; go_big_quiet_on)
        | (go_big_quiet_want; refine quiet_range (off := o' + j * 4) rfl rfl lb Try.underlying46 rfl sizeRi ?_; simp only [Act.put, List.setIfInBounds_toArray, List.set_cons_zero, List.set_cons_succ]; go_big_quiet_on)
        | go_big_quiet_step (fail))
      refine wpQuiet_nil ?_
      intro _ hw'
      obtain ⟨⟨dq, osq⟩, hw''⟩ := hw'
      have hb := below_regrown wr dq osq
      subst hw''
      generalize grow (redrawn wr dq) osq = w1 at hb ⊢
      replace hA := hA.below hb
      replace hC := hC.below hb
      replace hB := hB.trans (hb.mono hB.size)
      clear hb
      clear la lb kK
      go_wp2_with fail
      exact ⟨⟨j + 1, by omega, by go_num, hA, hC, hB⟩, by simp [intOf]; omega⟩
    · obtain rfl : j = n := by omega
      clear hA hC
      go_wp2_with fail
      go_ret
      exact ⟨rfl, hB⟩

end Go.Proofs.Ytbefamedligoeaa
