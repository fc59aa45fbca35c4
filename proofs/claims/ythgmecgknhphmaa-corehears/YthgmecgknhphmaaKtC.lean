/-
  slices.DeleteFunc of frames that were received, of those that are too old: the others, in their order, in the row that was handed over.
  No condition.
-/
import Derived.Test.YthgmecgknhphmaaKtB
namespace Go.Proofs.Ythgmecgknhphmaa
set_option maxRecDepth 10000
open Go.RowKit Go.Sort

theorem young_all (x : Kt) (L : List Kt) (h : ∀ k ∈ L, oldB x k = false) : young x L = L := by
  unfold young
  rw [List.filter_eq_self]
  intro k hk
  rw [h k hk]; rfl
theorem set_take (M : List Kt) (i : Nat) (k : Kt) (h : i < M.length) : (M.set i k).take (i + 1) = M.take i ++ [k] := by
  rw [List.take_add_one, List.getElem?_set_self h, List.take_set, List.set_eq_of_length_le (by simp; omega)]
  rfl
theorem elemKs : Try.prog.elem 30 = 64 := by kernel_rfl
theorem sizeOfKt (w : World) : (sizeOf 64).run Try.prog w = .ok 38 w := by kernel_rfl
theorem zeroOfKt (w : World) : (zeroValue 64).run Try.prog w = .ok (.agg Kt.zero.arr) w := by kernel_rfl
def Del (x : Kt) (L : List Kt) (B : Nat) (ad : Option Addr) (cap : Nat) (e : Ending) (w' : World) : Prop := e = .returned (.slice ad (young x L).length cap) ∧ Lg Kt.vals 38 64 B ad cap (young x L) w'

set_option maxHeartbeats 4000000 in
theorem delete_ok (x : Kt) (X : Nat) (L : List Kt) (B : Nat) (ad : Option Addr) (cap : Nat) (w : World) (hG : Lg Kt.vals 38 64 B ad cap L w) (hX : Blk X x.arr 64 w) (hne : X ∉ blkOf ad) :
    Calls Try.prog 103 #[.slice ad L.length cap, .func (.func 115) #[] #[.pointer (some ⟨X, 0, none⟩)]] w fun e w' => Del x L B ad cap e w' ∧ Kp (blkOf ad) w w' := by
  have hlm : L.length ≤ 9223372036854775807 := by
    rcases hG with ⟨_, _, rfl⟩ | ⟨g, _, _, h⟩
    · simp
    · have := h.len; simp only [maxLen] at this; omega
  have pi := ixold_ok x X L ad cap hlm w (hG.li.mono (Nat.zero_le _)) hX
  obtain ⟨n, hn⟩ : ∃ n, L.length = n := ⟨_, rfl⟩
  rw [hn] at pi hlm ⊢
  have HN : Hid (L.length = n) := hn
  clear hn
  go_enter Try.func103, Try.ntmps103
  go_wp2_with fail
  refine pi.mono ?_
  rintro r w1 ⟨hF, hb⟩
  replace hG := hG.below hb
  replace hX := hX.below hb
  have hKp : Kp (blkOf ad) w w1 := Kp.of_below hb
  clear hb pi
  rcases hF with ⟨j0, k0, rfl, hj0, hp0, hall⟩ | ⟨rfl, hall⟩
  rotate_left
  · have HD : Del x L B ad cap (.returned (.slice ad n cap)) w1 := by
      have e := young_all x L hall
      refine ⟨by rw [e, HN.out], by rw [e]; exact hG⟩
    clear hG hX hall
    go_wp2_with fail
    go_ret
    exact ⟨HD, hKp⟩
  obtain ⟨g, rfl, hBg, hO⟩ : ∃ g, ad = some ⟨g, 0, none⟩ ∧ B ≤ g ∧ Ow Kt.vals 38 64 g cap L w1 := by
    rcases hG with ⟨_, _, rfl⟩ | h
    · simp at hj0
    · exact h
  have hXg : X ≠ g := by simpa [blkOf] using hne
  have hKp : Kp [g] w w1 := hKp
  show _
  have hj0n : j0 < n := by rw [← HN.out]; exact (List.getElem?_eq_some_iff.1 hj0).1
  have h0 : young x (L.take (j0 + 1)) = L.take j0 := by rw [young_yes x k0 L j0 hj0 hp0, young_all x _ hall]
  have hlj : (L.take j0).length = j0 := by rw [List.length_take, HN.out]; omega
  have hcap := hO.len
  rw [HN.out] at hcap
  have H0 : Hid ((young x (L.take (j0 + 1))).length = j0 ∧ L.take j0 = young x (L.take (j0 + 1))) := ⟨by rw [h0, hlj], h0.symm⟩
  have i0 : (((j0 : Nat) : Int) == -1) = false := by rw [beq_eq_false_iff_ne]; omega
  have j63 : (j0 : Int) + 1 ≤ 9223372036854775807 := by omega
  clear hall hp0 hj0 h0 hlj hG hne
  go_wp2_with fail
  clear i0 j63
  go_loopw [5, 6] (fun iv jv wr => ∃ (i j : Nat) (L' : List Kt), i < j ∧ j ≤ n ∧ iv = .int .i64 i ∧ jv = .int .i64 j ∧ Hid ((young x (L.take j)).length = i) ∧ Hid (L'.take i = young x (L.take j)) ∧ Hid (∀ q, j ≤ q → L'[q]? = L[q]?) ∧ Hid (L'.length = n) ∧ Ow Kt.vals 38 64 g cap L' wr ∧ Blk X x.arr 64 wr ∧ Kp [g] w wr) (fun _ jv _ => n - (intOf jv).toNat)
  case atStart => exact ⟨j0, j0 + 1, L, by omega, by omega, rfl, by go_num, H0.out.1, H0.out.2, fun _ _ => rfl, HN, hO, hX, hKp⟩
  case round =>
    clear hO hX hKp H0 hj0n
    obtain ⟨i, j, L', hij, hj, rfl, rfl, HI, HT, HR, HL, hO, hX, hKp⟩ := hrel
    by_cases hjn : j < n
    · have j0 : (j : Int) < (n : Int) := by omega
      have j1 : (0 : Int) ≤ (j : Int) := by omega
      have i1 : (0 : Int) ≤ (i : Int) := by omega
      have i2 : (i : Int) < (n : Int) := by omega
      obtain ⟨k, hk⟩ : ∃ k, L[j]? = some k := ⟨_, List.getElem?_eq_getElem (by rw [HN.out]; exact hjn)⟩
      obtain ⟨b', o', e', _, _, hr⟩ := (hO.li (Nat.zero_le g)).at Kt.vals_length j k (by rw [HR.out j (Nat.le_refl _)]; exact hk)
      injection e' with e'
      injection e' with e1 e2 e3
      subst e1 e2
      rw [Nat.zero_add] at hr
      obtain ⟨t, ht⟩ : ∃ t, oldB x k = t := ⟨_, rfl⟩
      have HO : Hid (oldB x k = t) := ht
      have pk := fun (V : World) (h : Blk X x.arr 64 V) => older_ok x k X V h
      rw [ht] at pk
      have b1 := blk_new wr k.arr 64
      have hb1 : Below wr.heap.size wr (wr.alloc (.cells k.arr 64)) := below_box wr _
      have hvg : wr.heap.size ≠ g := by have := hO.lt; omega
      have hw : w.heap.size ≤ wr.heap.size := hKp.size
      clear ht
      go_upto_region 8 with (first | refine load_range rfl 64 _ rfl k.vals hr rfl Try.underlying64 rfl sizeKt ?_ | refine alloc_zero zeroKt rfl rfl ?_ | refine store_new rfl 64 _ _ rfl (cells := k.arr) rfl rfl sizeKt rfl (Kt.arr_one _) ?_)
      try simp only [Act.put, List.setIfInBounds_toArray, List.set_cons_zero, List.set_cons_succ]
      generalize wr.alloc (Obj.cells k.arr 64) = V at b1 hb1 ⊢
      replace hO := hO.below hb1
      replace hX := hX.below hb1
      replace hKp := hKp.trans (Kp.of_below (S := [g]) hb1)
      generalize wr.heap.size = v at *
      clear hb1 hr
      go_wp2_with (refine load_blk rfl 64 _ rfl b1 rfl Try.underlying64 rfl sizeKt ?_)
      refine (pk _ hX).mono ?_
      rintro r w2 ⟨rfl, hb⟩
      replace b1 := b1.below hb
      replace hO := hO.below hb
      replace hX := hX.below hb
      replace hKp := hKp.trans (Kp.of_below (S := [g]) hb)
      clear hb pk
      cases t with
      | true =>
        have e := young_yes x k L j hk HO.out
        have HI2 : Hid ((young x (L.take (j + 1))).length = i) := by rw [e]; exact HI
        have HT2 : Hid (L'.take i = young x (L.take (j + 1))) := by rw [e]; exact HT
        have HR2 : Hid (∀ q, j + 1 ≤ q → L'[q]? = L[q]?) := fun q hq => HR.out q (by omega)
        clear e HI HT HR HO hk b1
        go_wp2_with fail
        exact ⟨⟨i, j + 1, L', by omega, by omega, rfl, by go_num, HI2, HT2, HR2, HL, hO, hX, hKp⟩, by simp [intOf]; omega⟩
      | false =>
        have e := young_no x k L j hk HO.out
        have HI2 : Hid ((young x (L.take (j + 1))).length = i + 1) := by
          show (young x (L.take (j + 1))).length = i + 1
          rw [e, List.length_append, HI.out]; rfl
        have HT2 : Hid ((L'.set i k).take (i + 1) = young x (L.take (j + 1))) := by
          show (L'.set i k).take (i + 1) = young x (L.take (j + 1))
          rw [e, ← HT.out, set_take L' i k (by rw [HL.out]; omega)]
        have HR2 : Hid (∀ q, j + 1 ≤ q → (L'.set i k)[q]? = L[q]?) := fun q hq => by
          rw [List.getElem?_set_ne (by omega)]
          exact HR.out q (by omega)
        have HL2 : Hid ((L'.set i k).length = n) := by
          show (L'.set i k).length = n
          rw [List.length_set]; exact HL.out
        obtain ⟨cur, hC, _, _, hsz, _⟩ := id hO
        have hoff : i * 38 + k.arr.size ≤ cur.size := by rw [hsz, Kt.arr_size]; omega
        have hiL : i < L'.length := by rw [HL.out]; omega
        clear e HI HT HR HO hk hsz
        go_wp2_with (first | refine load_blk rfl 64 _ rfl b1 rfl Try.underlying64 rfl sizeKt ?_ | (refine store_part rfl 64 _ _ rfl (off := i * 38) (cells := k.arr) hC rfl rfl sizeKt hoff (Kt.arr_one _) ?_; intro w3 b3 k3; have hO3 := hO.put Kt.vals_length (by decide) i hiL k hC b3; have hX3 := hX.kp1 k3 hXg; have hKp3 := hKp.trans k3))
        exact ⟨⟨i + 1, j + 1, L'.set i k, by omega, by omega, by go_num, by go_num, HI2, HT2, HR2, HL2, hO3, hX3, hKp3⟩, by simp [intOf]; omega⟩
    · obtain rfl : j = n := by omega
      have e : L.take j = L := List.take_of_length_le (by rw [HN.out]; omega)
      rw [e] at HI HT
      have i1 : (0 : Int) ≤ (i : Int) := by omega
      have i2 : (i : Int) ≤ (cap : Int) := by omega
      have i3 : (i : Int) ≤ (j : Int) := by omega
      obtain ⟨cur, hC, _, _, hsz, _⟩ := id hO
      have hs38 : i * 38 + (j - i) * 38 ≤ cur.size := by rw [hsz]; omega
      have hf38 : i * 38 + (flat Kt.vals (List.replicate (j - i) Kt.zero)).length ≤ cap * 38 := by rw [flat_length Kt.vals_length, List.length_replicate]; omega
      have hiL : i ≤ L'.length := by rw [HL.out]; omega
      clear e HR HN hsz
      go_wp2_with (first | refine cut_low (k := 38) rfl _ _ rfl Try.underlying30 elemKs sizeOfKt hij hcap.1 rfl rfl ?_ | (refine clear_at Kt.vals_length (by decide) Kt.vals_one Kt.zero rfl _ rfl Try.underlying30 zeroOfKt rfl hC (by omega) hs38 rfl ?_; intro w3 b3 k3; have hO3 := hO.front Kt.vals_length i hiL _ hf38 hC b3; have hKp3 := hKp.trans k3))
      have HD : Del x L B (some ⟨g, 0, none⟩) cap (.returned (.slice (some ⟨g, 0, none⟩) i cap)) w3 := by
        rw [HT.out] at hO3
        exact ⟨by rw [HI.out], Lg.of hO3 hBg⟩
      clear HI HT HL hO hO3 hC b3 hX
      go_ret
      exact ⟨HD, hKp3⟩

end Go.Proofs.Ythgmecgknhphmaa
