/-
  The document's Entries, Same and Of: what each call answers; some: entries of some sessions.
  The lists are of at most 300 entries.
-/
import Derived.Test.YtkppidcamhbddaaScS
namespace Go.Proofs.Ytkppidcamhbddaa
set_option maxRecDepth 10000
open Go.RowKit Go.Sort
set_option linter.unusedVariables false
set_option linter.unusedSimpArgs false

set_option maxHeartbeats 1000000 in
theorem ents_ok (L : List En) (la lb : Option Addr) (lc ld : Nat) (lm : L.length ≤ 9223372036854775807) (w : World) (hA : Li En.vals 0 la L w) (hC : Li En.vals 0 lb L w) : Calls Try.prog 12 #[.slice la L.length lc, .slice lb L.length ld] w fun e w' => e = .returned (.bool true) ∧ Below w.heap.size w w' := by
  obtain ⟨n, hn⟩ : ∃ n, Hid (L.length = n) := ⟨_, rfl⟩
  rw [hn.out] at lm ⊢
  have n0 : ((n : Int) != (n : Int)) = false := by simp
  go_enter Try.func12, Try.ntmps12
  go_wp2_with fail
  clear n0
  go_loopw [5] (fun iv wr => ∃ j : Nat, j ≤ n ∧ iv = .int .i64 j ∧ Li En.vals 0 la L wr ∧ Li En.vals 0 lb L wr ∧ Below w.heap.size w wr) (fun iv _ => n - (intOf iv).toNat)
  case atStart => exact ⟨0, by omega, rfl, hA, hC, Below.refl _ _⟩
  case round =>
    clear hA hC
    obtain ⟨j, hj, rfl, hA, hC, hB⟩ := hrel
    by_cases hjn : j < n
    · have j0 : (j : Int) < (n : Int) := by omega
      have j1 : (0 : Int) ≤ (j : Int) := by omega
      obtain ⟨k, hk⟩ : ∃ k, L[j]? = some k := ⟨_, List.getElem?_eq_getElem (by rw [hn.out]; exact hjn)⟩
      obtain ⟨b, o, rfl, _, hbl, hr⟩ := hA.at En.vals_length j k hk
      obtain ⟨b', o', rfl, _, hbl', hr'⟩ := hC.at En.vals_length j k hk
      have kK : ∀ w, (binOp .neq 36 (.agg k.vals.toArray) (.agg k.vals.toArray)).run Try.prog w = .ok (.bool false) w := neqEn k k true (En.same_self k)
      have la : ∀ w', (∃ p : Regrown, w' = grow (redrawn wr p.d) p.os) → w'.rangeAt b (o + j * 6) k.vals := fun w' ⟨p, e⟩ => e ▸ range_block hr ((below_regrown wr p.d p.os).block b hbl)
      have lb : ∀ w', (∃ p : Regrown, w' = grow (redrawn wr p.d) p.os) → w'.rangeAt b' (o' + j * 6) k.vals := fun w' ⟨p, e⟩ => e ▸ range_block hr' ((below_regrown wr p.d p.os).block b' hbl')
      clear hk hr hr' hbl hbl'
      go_upto_region 6 with fail
      try simp only [Act.put, List.setIfInBounds_toArray, List.set_cons_zero, List.set_cons_succ]
      refine wp_region_quiet_below (by kernel_rfl) (by kernel_rfl) ?_
      repeat (first
        | (go_big_quiet_want; refine quiet_range (off := o + j * 6) rfl rfl la Try.underlying36 rfl sizeEn ?_; simp only [Act.put, List.setIfInBounds_toArray, List.set_cons_zero, List.set_cons_succ]; go_big_quiet_on)
        | (go_big_quiet_want; refine quiet_range (off := o' + j * 6) rfl rfl lb Try.underlying36 rfl sizeEn ?_; simp only [Act.put, List.setIfInBounds_toArray, List.set_cons_zero, List.set_cons_succ]; go_big_quiet_on)
        | go_big_quiet_step (fail))
      refine wpQuiet_nil ?_
      intro _ hw'
      obtain ⟨⟨dq, osq⟩, hw''⟩ := hw'
      have hb := below_regrown wr dq osq
      subst hw''
      generalize grow (redrawn wr dq) osq = w1 at hb ⊢
      replace hA := hA.below hb
      replace hC := hC.below hb
      replace hB := hB.trans (hb.mono hB.size)
      clear hb
      clear la lb kK
      go_wp2_with fail
      exact ⟨⟨j + 1, by omega, by go_num, hA, hC, hB⟩, by simp [intOf]; omega⟩
    · obtain rfl : j = n := by omega
      clear hA hC
      go_wp2_with fail
      go_ret
      exact ⟨rfl, hB⟩

set_option maxHeartbeats 2000000 in
theorem rsame_ok (K : List Int) (la lb : Option Addr) (lc ld : Nat) (lm : K.length ≤ 9223372036854775807) (w : World) (hA : Li encU 0 la K w) (hC : Li encU 0 lb K w) : Calls Try.prog 13 #[.slice la K.length lc, .slice lb K.length ld] w fun e w' => e = .returned (.bool true) ∧ Below w.heap.size w w' := by
  obtain ⟨n, hn⟩ : ∃ n, Hid (K.length = n) := ⟨_, rfl⟩
  rw [hn.out] at lm ⊢
  have n0 : ((n : Int) != (n : Int)) = false := by simp
  go_enter Try.func13, Try.ntmps13
  go_wp2_with fail
  clear n0
  go_loopw [5] (fun iv wr => ∃ j : Nat, j ≤ n ∧ iv = .int .i64 j ∧ Li encU 0 la K wr ∧ Li encU 0 lb K wr ∧ Below w.heap.size w wr) (fun iv _ => n - (intOf iv).toNat)
  case atStart => exact ⟨0, by omega, rfl, hA, hC, Below.refl _ _⟩
  case round =>
    clear hA hC
    obtain ⟨j, hj, rfl, hA, hC, hB⟩ := hrel
    rename World => wr
    by_cases hjn : j < n
    · have j0 : (j : Int) < (n : Int) := by omega
      have j1 : (0 : Int) ≤ (j : Int) := by omega
      obtain ⟨k, hk⟩ : ∃ k, K[j]? = some k := ⟨_, List.getElem?_eq_getElem (by rw [hn.out]; exact hjn)⟩
      obtain ⟨b, o, rfl, _, hbl, hr⟩ := hA.at encU_len j k hk
      obtain ⟨b', o', rfl, _, hbl', hr'⟩ := hC.at encU_len j k hk
      have c1 : wr.cell? ⟨b, o + j, none⟩ = some (.int .u64 k) := by have := hr 0 _ rfl; simpa using this
      have c2 : wr.cell? ⟨b', o' + j, none⟩ = some (.int .u64 k) := by have := hr' 0 _ rfl; simpa using this
      have kn : (k != k) = false := by simp
      have HA : Hid (Li encU 0 (some ⟨b, o, none⟩) K wr ∧ Li encU 0 (some ⟨b', o', none⟩) K wr ∧ Below w.heap.size w wr) := ⟨hA, hC, hB⟩
      clear hk hr hr' hbl hbl' hA hC hB
      go_wp2_with fail
      go_quiet (fail)
      go_wp2_with fail
      exact ⟨⟨j + 1, by omega, by go_num, HA.out.1.below (below_dn (Below.refl _ _) _), HA.out.2.1.below (below_dn (Below.refl _ _) _), below_dn HA.out.2.2 _⟩, by simp [intOf]; omega⟩
    · obtain rfl : j = n := by omega
      clear hA hC
      go_wp2_with fail
      go_ret
      exact ⟨rfl, hB⟩

theorem ent_no (s : Nat) (L : List En) (j : Nat) (x : En) (hx : L[j]? = some x) (h : isSe s x = false) : entS s (L.take (j + 1)) = entS s (L.take j) := by
  rw [List.take_add_one, hx]
  unfold entS
  simp [h]
theorem ent_yes (s : Nat) (L : List En) (j : Nat) (x : En) (hx : L[j]? = some x) (h : isSe s x = true) : entS s (L.take (j + 1)) = entS s (L.take j) ++ [x] := by
  rw [List.take_add_one, hx]
  unfold entS
  simp [h]
set_option maxHeartbeats 4000000 in
theorem of_ok (s : Nat) (L : List En) (la : Option Addr) (lc : Nat) (lm : L.length ≤ 300) (w : World) (hS : Li En.vals 0 la L w) :
    Calls Try.prog 16 #[.slice la L.length lc, .int .u64 (s : Int)] w fun e w' => MadeEn (entS s L) w.heap.size e w' ∧ Below w.heap.size w w' := by
  obtain ⟨iI, zI, hI, hz0, hsz, hby, hzs⟩ := infoEn
  obtain ⟨n, hn⟩ : ∃ n, Hid (L.length = n) := ⟨_, rfl⟩
  rw [hn.out] at lm ⊢
  have o0 := Lg.of (Ow.empty (f := En.vals) (k := 6) (blk_new w #[] 36)) (Nat.le_refl w.heap.size)
  have hB0 := below_box w (.cells #[] 36)
  go_enter Try.func16, Try.ntmps16
  go_wp2_with (refine box_En0 rfl rfl ?_)
  go_loopw [5, 6] (fun ov iv wr => ∃ (j q : Nat) (a : Option Addr) (c : Nat), j ≤ n ∧ q ≤ j ∧ iv = .int .i64 j ∧ ov = .slice a q c ∧ Hid ((entS s (L.take j)).length = q) ∧ Lg En.vals 6 36 w.heap.size a c (entS s (L.take j)) wr ∧ Below w.heap.size w wr) (fun _ iv _ => n - (intOf iv).toNat)
  case atStart => exact ⟨0, 0, _, _, by omega, by omega, rfl, rfl, rfl, o0, hB0⟩
  case round =>
    clear o0 hB0
    obtain ⟨j, q, a, c, hj, hq, rfl, rfl, HQ, hG, hB⟩ := hrel
    rename World => wr
    by_cases hjn : j < n
    · have j0 : (j : Int) < (n : Int) := by omega
      have j1 : (0 : Int) ≤ (j : Int) := by omega
      obtain ⟨x, hx⟩ : ∃ k, L[j]? = some k := ⟨_, List.getElem?_eq_getElem (by rw [hn.out]; exact hjn)⟩
      obtain ⟨b, o, rfl, _, hbl, hr⟩ := (hS.below hB).at En.vals_length j x hx
      have c1 : wr.cell? ⟨b, o + j * 6 + 3, none⟩ = some (.int .u64 (x.se : Int)) := hr 3 _ rfl
      by_cases h1 : x.se = s
      · have ht : ((x.se : Int) == (s : Int)) = true := by simp [h1]
        have HS : Hid (entS s (L.take (j + 1)) = entS s (L.take j) ++ [x]) := ent_yes s L j x hx (by simp [isSe, h1])
        clear hx h1
        go_wp2_with (first | refine load_range rfl 36 _ rfl x.vals hr rfl Try.underlying36 rfl sizeEn ?_ | (refine box_En rfl _ rfl x rfl ?_; intro W2 hl2 hb2; have hG2 := hG.below hb2; have hB2 := below_next hB hb2) | (refine append_any En.vals_length rfl _ _ rfl Try.underlying22 hI hz0 hsz hby hzs hG2 hB2.size HQ.out rfl (M := [x]) (m := 1) rfl (hl2.src En.vals_length En.vals_one Try.underlying22 1) rfl (by omega) (by simp only [maxLen]; omega) ?_; intro a3 c3 W3 hG3 hK3 _))
        have hB3 : Below w.heap.size w W3 := hB2.trans (hK3.below (fun k hk => (hG2.in k hk).1) hB2.size)
        exact ⟨⟨j + 1, q + 1, a3, c3, by omega, by omega, by go_num, rfl, by rw [HS.out, List.length_append, HQ.out]; rfl, by rw [HS.out]; exact hG3, hB3⟩, by simp [intOf]; omega⟩
      · have ht : ((x.se : Int) == (s : Int)) = false := by rw [beq_eq_false_iff_ne]; omega
        have HS := ent_no s L j x hx (by simp [isSe, h1])
        rw [← HS] at HQ hG
        clear hr hx h1 HS
        go_wp2_with fail
        exact ⟨⟨j + 1, q, a, c, by omega, by omega, by go_num, rfl, HQ, hG, hB⟩, by simp [intOf]; omega⟩
    · obtain rfl : j = n := by omega
      have e : L.take j = L := List.take_of_length_le (by rw [hn.out]; omega)
      rw [e] at HQ hG
      have HM : MadeEn (entS s L) w.heap.size (.returned (.slice a q c)) wr := ⟨a, c, by rw [HQ.out], hG⟩
      clear HQ hG e
      go_wp2_with fail
      go_ret
      exact ⟨HM, hB⟩

/- Entries of some sessions. -/
def someL (K : List Int) : List En := K.zipIdx.map fun p => ⟨1, 0, 0, p.1.toNat, p.2, ⟨#[]⟩⟩
theorem some_next (K : List Int) (j : Nat) (k : Int) (h : K[j]? = some k) : someL (K.take (j + 1)) = someL (K.take j) ++ [⟨1, 0, 0, k.toNat, j, ⟨#[]⟩⟩] := by
  have hj := (List.getElem?_eq_some_iff.1 h).1
  unfold someL
  rw [List.take_add_one, h, List.zipIdx_append, List.map_append, List.length_take, Nat.min_eq_left (by omega)]
  simp
set_option maxHeartbeats 4000000 in
theorem some_ok (K : List Int) (la : Option Addr) (lc : Nat) (lm : K.length ≤ 300) (hK : ∀ k ∈ K, 0 ≤ k ∧ k < 18446744073709551616) (w : World) (hS : Li encU 0 la K w) :
    Calls Try.prog 17 #[.slice la K.length lc] w fun e w' => MadeEn (someL K) w.heap.size e w' ∧ Below w.heap.size w w' := by
  obtain ⟨iI, zI, hI, hz0, hsz, hby, hzs⟩ := infoEn
  obtain ⟨n, hn⟩ : ∃ n, Hid (K.length = n) := ⟨_, rfl⟩
  rw [hn.out] at lm ⊢
  have o0 := Lg.of (Ow.empty (f := En.vals) (k := 6) (blk_new w #[] 36)) (Nat.le_refl w.heap.size)
  have hB0 := below_box w (.cells #[] 36)
  have HK : Hid (∀ k ∈ K, 0 ≤ k ∧ k < 18446744073709551616) := hK
  clear hK
  go_enter Try.func17, Try.ntmps17
  go_wp2_with (refine box_En0 rfl rfl ?_)
  go_loopw [3, 4] (fun ov iv wr => ∃ (j : Nat) (a : Option Addr) (c : Nat), j ≤ n ∧ iv = .int .i64 j ∧ ov = .slice a j c ∧ Hid ((someL (K.take j)).length = j) ∧ Lg En.vals 6 36 w.heap.size a c (someL (K.take j)) wr ∧ Below w.heap.size w wr) (fun _ iv _ => n - (intOf iv).toNat)
  case atStart => exact ⟨0, _, _, by omega, rfl, rfl, rfl, o0, hB0⟩
  case round =>
    clear o0 hB0
    obtain ⟨j, a, c, hj, rfl, rfl, HQ, hG, hB⟩ := hrel
    rename World => wr
    by_cases hjn : j < n
    · have j0 : (j : Int) < (n : Int) := by omega
      have j1 : (0 : Int) ≤ (j : Int) := by omega
      obtain ⟨k, hk⟩ : ∃ k, K[j]? = some k := ⟨_, List.getElem?_eq_getElem (by rw [hn.out]; exact hjn)⟩
      obtain ⟨b, o, rfl, _, hbl, hr⟩ := (hS.below hB).at encU_len j k hk
      have c1 : wr.cell? ⟨b, o + j, none⟩ = some (.int .u64 k) := by have := hr 0 _ rfl; simpa using this
      have hk2 := HK.out k (List.mem_of_getElem? hk)
      obtain ⟨m, rfl⟩ : ∃ m : Nat, k = (m : Int) := ⟨k.toNat, by omega⟩
      have HS : Hid (someL (K.take (j + 1)) = someL (K.take j) ++ [⟨1, 0, 0, m, j, ⟨#[]⟩⟩]) := some_next K j m hk
      have hju : IntKind.u64.wrap (j : Int) = (j : Int) := by rw [IntKind.wrap_u64]; omega
      clear hk hr
      go_wp2_with (first | (refine box_En rfl _ rfl ⟨1, 0, 0, m, j, ⟨#[]⟩⟩ rfl ?_; intro W2 hl2 hb2; have hG2 := hG.below hb2; have hB2 := below_next hB hb2) | (refine append_any En.vals_length rfl _ _ rfl Try.underlying22 hI hz0 hsz hby hzs hG2 hB2.size HQ.out rfl (M := [⟨1, 0, 0, m, j, ⟨#[]⟩⟩]) (m := 1) rfl (hl2.src En.vals_length En.vals_one Try.underlying22 1) rfl (by omega) (by simp only [maxLen]; omega) ?_; intro a3 c3 W3 hG3 hK3 _))
      have hB3 : Below w.heap.size w W3 := hB2.trans (hK3.below (fun k hk => (hG2.in k hk).1) hB2.size)
      exact ⟨⟨j + 1, a3, c3, by omega, by go_num, rfl, by rw [HS.out, List.length_append, HQ.out]; rfl, by rw [HS.out]; exact hG3, hB3⟩, by simp [intOf]; omega⟩
    · obtain rfl : j = n := by omega
      have e : K.take j = K := List.take_of_length_le (by rw [hn.out]; omega)
      rw [e] at HQ hG
      have HM : MadeEn (someL K) w.heap.size (.returned (.slice a j c)) wr := ⟨a, c, by rw [HQ.out], hG⟩
      clear HQ hG e
      go_wp2_with fail
      go_ret
      exact ⟨HM, hB⟩

end Go.Proofs.Ytkppidcamhbddaa
