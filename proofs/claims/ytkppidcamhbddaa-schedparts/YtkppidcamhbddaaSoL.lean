/-
  slices.Sort and slices.Compact of uint64, of a row and of nil.
  Each theorem says its own conditions.
-/
import Derived.Test.YtkppidcamhbddaaSoK
import Derived.Test.YtkppidcamhbddaaLk
import Derived.Lib.SlicesCompact
namespace Go.Proofs.Ytkppidcamhbddaa
set_option maxRecDepth 10000
open Go.RowKit
set_option linter.unusedVariables false

theorem insn_ok (w : World) : Calls Try.prog 26 #[.slice none 0 0, .int .i64 0, .int .i64 0] w fun e w' => e = .returned (.tuple #[]) ∧ w' = w := by
  go_enter Try.func26, Try.ntmps26
  go_wp2
  go_loopw [6] (fun vi wr => vi = .int .i64 1 ∧ wr = w) (fun _ _ => 0)
  case atStart => exact ⟨rfl, rfl⟩
  case round =>
    obtain ⟨rfl, rfl⟩ := hrel
    go_wp2
    go_end0
    exact ⟨rfl, rfl⟩
set_option maxRecDepth 100000 in
theorem pdqn_ok (k : Nat) (w : World) : Calls Try.prog 24 #[.slice none 0 0, .int .i64 0, .int .i64 0, .int .i64 (k : Int)] w fun e w' => e = .returned (.tuple #[]) ∧ w' = w := by
  have h := insn_ok w
  go_enter Try.func24, Try.ntmps24
  go_wp2
  go_loopw [1, 2, 3, 8, 9] (fun va vb vl v8 v9 wr => va = .int .i64 0 ∧ vb = .int .i64 0 ∧ vl = .int .i64 (k : Int) ∧ v8 = .bool true ∧ v9 = .bool true ∧ wr = w) (fun _ _ _ _ _ _ => 0)
  case atStart => exact ⟨rfl, rfl, rfl, rfl, rfl, rfl⟩
  case round =>
    obtain ⟨rfl, rfl, rfl, rfl, rfl, rfl⟩ := hrel
    go_wp2_with fail
    refine h.mono ?_
    rintro e w1 ⟨rfl, rfl⟩
    go_wp2
    (try simp only [Exit.inBlock, Exit.then]); refine bodyPost_ret (results_none rfl _ _ _) rfl ?_
    exact ⟨rfl, rfl⟩
theorem sortn_ok (w : World) : Calls Try.prog 22 #[.slice none 0 0] w fun e w' => e = .returned (.tuple #[]) ∧ w' = w := by
  have h := len_ok 0 (by omega) w
  have h2 := pdqn_ok (Lib.bitLen 0) w
  go_enter Try.func22, Try.ntmps22
  go_wp2_with fail
  refine h.mono ?_
  rintro e w1 ⟨rfl, rfl⟩
  go_wp2_with fail
  refine h2.mono ?_
  rintro e w1 ⟨rfl, rfl⟩
  go_wp2
  go_end0
  exact ⟨rfl, rfl⟩
theorem sort_ok (g o cap : Nat) (T : TypeId) (R : List Value × List Value) (d : Array Int) (w : World) (hH : Sx g o T R d w) (hsz : d.size < 1152921504606846976) :
    Calls Try.prog 22 #[.slice (some ⟨g, o, none⟩) d.size cap] w fun e w' =>
      e = .returned (.tuple #[]) ∧ ∃ d', Sort.PermIn 0 d.size d d' ∧ Sort.SortedIn Sort.ltInt 0 d.size d' ∧ Sx g o T R d' w' ∧ Kp [g] w w' := by
  have h := len_ok d.size (by omega) w
  have hl : Lib.bitLen d.size ≤ 1000000 := by
    rcases Nat.eq_zero_or_pos d.size with h0 | h0
    · rw [h0]; decide
    · obtain ⟨k, h1, _, _, h2⟩ := bitLen_two d.size h0 (by omega)
      omega
  have h2 := pdq_ok (d.size - 0 + 1) g o cap 0 d.size (Lib.bitLen d.size) T R d w (by omega) hH (by omega) (Nat.le_refl _) hsz (.inl rfl) hl
  obtain ⟨n, hn⟩ : ∃ n, d.size = n := ⟨_, rfl⟩
  rw [hn] at h h2 hsz ⊢
  have hu : IntKind.u64.wrap (n : Int) = (n : Int) := by rw [IntKind.wrap_u64]; omega
  clear hn hl hH
  go_enter Try.func22, Try.ntmps22
  go_wp2_with fail
  refine h.mono ?_
  rintro e w1 ⟨rfl, rfl⟩
  go_wp2_with fail
  refine h2.mono ?_
  rintro e w1 ⟨rfl, d', h3, h4, h5, h6⟩
  clear h h2
  go_wp2
  go_end0
  exact ⟨rfl, d', h3, h4, h5, h6⟩

/- A list that lies in a row from place o on. -/
def Hs (g o : Nat) (T : TypeId) (K : List Int) (w : World) : Prop := ∃ C, Blk g C T w ∧ ∀ j (h : j < K.length), C[o + j]? = some (.int .u64 K[j])
theorem Sx.hs {g o : Nat} {T : TypeId} {R : List Value × List Value} {d : Array Int} {w : World} (h : Sx g o T R d w) : Hs g o T d.toList w := by
  obtain ⟨rfl, h⟩ := h
  refine ⟨_, h, fun j hj => ?_⟩
  have hj' : j < d.size := by simpa using hj
  rw [row_get d R.1 R.2 hj', getElem!_pos d j hj']
  rfl
theorem compn_ok (w : World) : Calls Try.prog 23 #[.slice none 0 0] w fun e w' => e = .returned (.slice none 0 0) ∧ w' = w := by
  go_enter Try.func23, Try.ntmps23
  go_wp2
  go_ret
  exact ⟨rfl, rfl⟩
def encU (x : Int) : List Value := [.int .u64 x]
theorem clear_u {G off n c : Nat} {C : Array Value} {T : TypeId} {w : World} (hG : Blk G C T w) (hn : 0 < n) (hs : off + n ≤ C.size) :
    (Builtin.clear_ #[31] 0 #[.slice (some ⟨G, off, none⟩) n c]).run Try.prog w = .ok (.tuple #[]) (w.setCells G off (flat encU (List.replicate n 0))) := by
  have hth := hG.there off n hs
  have hlen : (flat encU (List.replicate n 0)).length = n := by rw [flat_length (k := 1) (fun _ => rfl), List.length_replicate, Nat.mul_one]
  have hst := run_storeCells_cells (P := Try.prog) G off (flat encU (List.replicate n 0)) 0 w (fun j hj => by simpa using (hth j (by omega)).1) (fun j hj => by simpa using (hth j (by omega)).2) (flat_one (fun x v hv => by simp [encU] at hv; subst hv; rfl) _)
  simp only [Nat.add_zero] at hst
  have hv : ∀ w, (zeroValue 23).run Try.prog w = .ok (.int .u64 0) w := fun w => by kernel_rfl
  have hzz : (Builtin.zeroCells (Value.int .u64 0).cells n).toList = flat encU (List.replicate n 0) := by
    have := flat_made (f := encU) (k := 1) (fun _ => rfl) (by omega) 0 n
    have e2 : Builtin.zeroCells (Value.int .u64 0).cells n = madeCells (encU 0).toArray (n * 1) := by
      show Builtin.zeroCells (encU 0).toArray n = madeCells (encU 0).toArray (n * (encU 0).length)
      rfl
    rw [e2, this]
  obtain ⟨m, rfl⟩ : ∃ m, n = m + 1 := ⟨n - 1, by omega⟩
  simp [Builtin.clear_, run_underlying Try.underlying31, hv, hzz, hst]
set_option maxHeartbeats 16000000 in
theorem comp_ok (g o cap : Nat) (T : TypeId) (R : List Value × List Value) (d : Array Int) (w : World) (hT : T = 23) (hH : Sx g o T R d w) (hsz : d.size < 1152921504606846976) (hcap : d.size ≤ cap) :
    Calls Try.prog 23 #[.slice (some ⟨g, o, none⟩) d.size cap] w fun e w' =>
      e = .returned (.slice (some ⟨g, o, none⟩) (Lib.compactUpTo d d.size).length cap) ∧ Hs g o T (Lib.compactUpTo d d.size) w' ∧ Kp [g] w w' := by
  subst hT
  obtain ⟨n, hn⟩ : ∃ n, d.size = n := ⟨_, rfl⟩
  rw [hn] at hsz hcap ⊢
  have HN : Hid (d.size = n) := hn
  have hall : (∀ j, j < n → Lib.keeps d j = true) → Lib.compactUpTo d n = d.toList := fun h => by
    rw [Lib.compactUpTo_all d n h, ← hn]
    exact Lib.range_map_get d
  have HA : Hid _ := hall
  clear hn hall
  by_cases h2 : n < 2
  · have h2z : (n : Int) < 2 := by omega
    have e := HA.out (fun j hj => Lib.keeps_lt_one d j (by omega))
    have HE : Hid (Lib.compactUpTo d n = d.toList) := e
    clear e
    go_enter Try.func23, Try.ntmps23
    go_wp2
    go_ret
    rw [HE.out]
    refine ⟨?_, hH.hs, Kp.refl _ _⟩
    rw [Array.length_toList, HN.out]
    rfl
  · have h2z : ¬ ((n : Int) < 2) := by omega
    go_enter Try.func23, Try.ntmps23
    go_wp2
    go_loopw [3] (fun vk wr => ∃ (k : Nat), vk = .int .i64 k ∧ 1 ≤ k ∧ k ≤ n ∧ (Sx g o 23 R d wr ∧ Kp [g] w wr) ∧ Hid (∀ j, j < k → Lib.keeps d j = true)) (fun vk _ => n - (intOf vk).toNat)
    case atStart => exact ⟨1, by go_num, by omega, by omega, ⟨hH, Kp.refl _ _⟩, Lib.keeps_lt_one d⟩
    case round =>
      clear hH
      obtain ⟨k, rfl, hk1, hkn, ⟨hw, hk⟩, HK⟩ := hrel
      by_cases hlt : k < n
      · obtain ⟨G, hG, hcw, hfw⟩ := hw.fam HN.out
        have HG : Hid (∀ t, G t = d[t]!) := hG
        have HW : Hid (Sx g o 23 R d wr ∧ Kp [g] w wr) := ⟨hw, hk⟩
        clear hG hw hk
        cases hq : (G k == G (k - 1)) with
        | false =>
          have HQ : Hid (d[k]! ≠ d[k - 1]!) := by rw [← HG.out, ← HG.out]; exact beq_eq_false_iff_ne.1 hq
          go_wp2_with fail
          go_quiet (fail)
          go_wp2
          go_roundw
          case rel => exact ⟨k + 1, by go_num, by omega, by omega, ⟨HW.out.1.draws _, HW.out.2.trans (kp_drewN _ _ _)⟩, fun j hj => by
            rcases Nat.lt_or_ge j k with h | h
            · exact HK.out j h
            · obtain rfl : j = k := by omega
              exact Lib.keeps_pos HQ.out⟩
          case measure => simp [intOf]; omega
        | true =>
          have HQ : Hid (d[k]! = d[k - 1]!) := by rw [← HG.out, ← HG.out]; exact beq_iff_eq.1 hq
          have hC0 := Lib.CompInv.start (k0 := k) HK.out (Lib.keeps_neg (by omega) HQ.out)
          have HC0 : Hid _ := hC0
          clear hC0
          have hnk : (n : Int) - (k : Int) = ((n - k : Nat) : Int) := by omega
          go_wp2_with fail
          go_quiet (fail)
          go_wp2_with fail
          go_loopw [3, 5] (fun vk v2 wr => ∃ (kk m : Nat) (dk : Array Int), vk = .int .i64 kk ∧ v2 = .int .i64 m ∧ 1 ≤ m ∧ k + m ≤ n ∧ 1 ≤ kk ∧ kk < k + m ∧ dk.size = n ∧ (Sx g o 23 R dk wr ∧ Kp [g] w wr) ∧ Hid (Lib.CompInv d (k + m) kk dk)) (fun _ v2 _ => n - (intOf v2).toNat)
          case atStart => exact ⟨k, 1, d, rfl, rfl, by omega, by omega, by omega, by omega, HN.out, ⟨HW.out.1.draws _, HW.out.2.trans (kp_drewN _ _ _)⟩, HC0.out⟩
          case round =>
            clear hcw hfw HG HW
            obtain ⟨kk, m, dk, rfl, rfl, hm1, hmn, hkk1, hkm, hsk, ⟨hw, hk⟩, HC⟩ := hrel
            by_cases hmm : k + m < n
            · obtain ⟨G, hG, hcw, hfw⟩ := hw.fam hsk
              have hG1 : G (k + m) = d[k + m]! := (hG _).trans (HC.out.high _ (by omega))
              have hG2 : G (k + (m - 1)) = d[k + m - 1]! := by rw [show k + m - 1 = k + (m - 1) by omega]; exact (hG _).trans (HC.out.high _ (by omega))
              have HG : Hid (G (k + m) = d[k + m]! ∧ G (k + (m - 1)) = d[k + m - 1]!) := ⟨hG1, hG2⟩
              have HW : Hid (Sx g o 23 R dk wr ∧ Kp [g] w wr) := ⟨hw, hk⟩
              have hmz : (m : Int) < (n : Int) - (k : Int) := by omega
              clear hG hG1 hG2 hw hk
              cases hq : (G (k + m) == G (k + (m - 1))) with
              | true =>
                have HQ : Hid (Lib.keeps d (k + m) = false) := by
                  have h := beq_iff_eq.1 hq
                  rw [HG.out.1, HG.out.2] at h
                  exact Lib.keeps_neg (by omega) h
                have hqn : (G (k + m) != G (k + (m - 1))) = false := by rw [bne, hq]; rfl
                go_wp2_with fail
                go_quiet (fail)
                go_wp2
                go_roundw
                case rel => exact ⟨kk, m + 1, dk, rfl, by go_num, by omega, by omega, hkk1, by omega, hsk, ⟨HW.out.1.draws _, HW.out.2.trans (kp_drewN _ _ _)⟩, HC.out.skip HQ.out⟩
                case measure => simp [intOf]; omega
              | false =>
                have HQ : Hid (Lib.keeps d (k + m) = true) := by
                  have h := beq_eq_false_iff_ne.1 hq
                  rw [HG.out.1, HG.out.2] at h
                  exact Lib.keeps_pos h
                have hqn : (G (k + m) != G (k + (m - 1))) = true := by rw [bne, hq]; rfl
                go_wp2_with fail
                go_quiet (fail)
                go_wp2
                go_roundw
                case rel =>
                  refine ⟨kk + 1, m + 1, dk.setIfInBounds kk d[k + m]!, by go_num, by go_num, by omega, by omega, by omega, by omega, by simpa using hsk, ?_, ?_⟩
                  · rw [← HG.out.1]
                    exact ⟨(HW.out.1.draws _).set (by omega) _, (HW.out.2.trans (kp_drewN _ _ _)).trans (Kp.setCell g _ _ _ (by simp))⟩
                  · exact HC.out.keep (by have := HN.out; omega) HQ.out
                case measure => simp [intOf]; omega
            · have hmz : ¬ ((m : Int) < (n : Int) - (k : Int)) := by omega
              have hkn2 : (kk : Int) ≤ (n : Int) := by omega
              have HR : Hid (Hs g o 23 (Lib.compactUpTo d n) wr ∧ (Lib.compactUpTo d n).length = kk) := by
                have hc := HC.out
                rw [show k + m = n by omega] at hc
                refine ⟨?_, hc.len⟩
                obtain ⟨C, hC1, hC2⟩ := hw.hs
                refine ⟨C, hC1, fun j hj => ?_⟩
                have hj2 : j < dk.toList.length := by rw [Array.length_toList, hsk]; have := hc.len; omega
                rw [hC2 j hj2]
                have h := hc.low j (by rw [← hc.len]; exact hj)
                rw [List.getElem?_eq_getElem hj] at h
                have h3 : dk.toList[j] = dk[j]! := by rw [getElem!_pos dk j (by simpa using hj2)]; rfl
                rw [h3]
                have h4 := Option.some.inj h
                rw [h4]
              obtain ⟨C, hC1, hC2⟩ := HR.out.1
              have hsC : o + (kk + (n - kk)) ≤ C.size := by
                have h1 : C = (R.1 ++ (dk.toList.map (Value.int .u64) ++ R.2)).toArray := ((Blk.eq hC1 hw.2).1)
                rw [h1]
                have := hw.1
                simp
                omega
              have hcl := clear_u (c := cap - kk) hC1 (show 0 < n - kk by omega) (show o + kk + (n - kk) ≤ C.size by omega)
              have hW := hC1.setCells (flat encU (List.replicate (n - kk) 0)) (o + kk)
              have hk2 := hk.trans (Kp.setCells g (by simp) (flat encU (List.replicate (n - kk) 0)) (o + kk) wr)
              have HF : Hid (Blk g (putAt C (o + kk) (flat encU (List.replicate (n - kk) 0))) 23 (wr.setCells g (o + kk) (flat encU (List.replicate (n - kk) 0))) ∧ Kp [g] w (wr.setCells g (o + kk) (flat encU (List.replicate (n - kk) 0)))) := ⟨hW, hk2⟩
              have HC2 : Hid _ := hC2
              clear hw hk hW hk2 hC2
              go_wp2
              go_ret
              refine ⟨?_, ?_, HF.out.2⟩
              · rw [HR.out.2]; rfl
              · refine ⟨_, HF.out.1, fun j hj => ?_⟩
                have hjk : j < kk := by rw [← HR.out.2]; exact hj
                rw [putAt_get _ _ _ _ (by rw [flat_length (k := 1) (fun _ => rfl), List.length_replicate]; omega), if_neg (by omega)]
                exact HC2.out j hj
      · obtain rfl : k = n := by omega
        have HE : Hid (Lib.compactUpTo d k = d.toList) := HA.out HK.out
        go_wp2
        go_ret
        rw [HE.out]
        refine ⟨?_, hw.hs, hk⟩
        rw [Array.length_toList, HN.out]
        rfl

end Go.Proofs.Ytkppidcamhbddaa
