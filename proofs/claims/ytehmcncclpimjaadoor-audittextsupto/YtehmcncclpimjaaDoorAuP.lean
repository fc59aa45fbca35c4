/-
  The program's readLine and Parse: what record a text is the line of.
  The text has at most 2147483648 bytes.
-/
import Derived.Test.YtehmcncclpimjaaDoorAuO
import Derived.Test.YtehmcncclpimjaaDoorAuL
namespace Go.Proofs.YtehmcncclpimjaaDoor
set_option maxRecDepth 10000
open Go.RowKit Go.Sort
set_option linter.unusedVariables false
set_option linter.unusedSimpArgs false

theorem indexB_at {a r : List UInt8} {x : UInt8} (h : x ∉ a) : Lib.indexByte (a ++ x :: r) x = (a.length : Int) := by
  induction a with
  | nil => simp [Lib.indexByte]
  | cons b a ih =>
    have hb : ¬ (b == x) = true := by simp; exact fun e => h (by simp [e])
    have ih := ih (fun k => h (by simp [k]))
    show Lib.indexByte (b :: (a ++ x :: r)) x = _
    unfold Lib.indexByte
    rw [if_neg hb, ih, if_neg (by have : (0 : Int) ≤ (a.length : Int) := Int.natCast_nonneg _; intro hh; simp at hh)]
    simp
theorem splitK_cut {a r : List UInt8} {k : Nat} (h : (32 : UInt8) ∉ a) : Lib.splitK [32] 0 (k + 1) (a ++ 32 :: r) = a :: Lib.splitK [32] 0 k r := by
  rw [Lib.splitK]
  rw [index_one, indexB_at h, if_neg (by intro hh; simp at hh)]
  have e : ((a.length : Int)).toNat = a.length := by omega
  rw [e]
  congr 1
  · simp
  · have e3 : List.drop (a.length + [(32 : UInt8)].length) (a ++ 32 :: r) = r := by
      rw [show a ++ 32 :: r = (a ++ [32]) ++ r by simp, show a.length + [(32 : UInt8)].length = (a ++ [(32 : UInt8)]).length by simp, List.drop_left]
    exact congrArg (Lib.splitK [32] 0 k) e3
theorem splitK_len (sep : List UInt8) : ∀ (k : Nat) (l : List UInt8), ∀ p ∈ Lib.splitK sep 0 k l, p.length ≤ l.length
  | 0, l, p, hp => by
    unfold Lib.splitK at hp
    rw [List.mem_singleton] at hp
    rw [hp]
    exact Nat.le_refl _
  | k + 1, l, p, hp => by
    unfold Lib.splitK at hp
    split at hp
    · rw [List.mem_singleton] at hp
      rw [hp]
      exact Nat.le_refl _
    · rcases List.mem_cons.1 hp with rfl | hp
      · rw [List.length_take]; omega
      · have := splitK_len sep k _ p hp
        rw [List.length_drop] at this
        omega
theorem trimP_len (l p : List UInt8) : (Lib.trimPrefix l p).length ≤ l.length := by
  unfold Lib.trimPrefix
  split
  · rw [List.length_drop]; omega
  · exact Nat.le_refl _
theorem trimS_len (l p : List UInt8) : (Lib.trimSuffix l p).length ≤ l.length := by
  unfold Lib.trimSuffix
  split
  · rw [List.length_take]; omega
  · exact Nat.le_refl _
theorem trim_both (q : List UInt8) : Lib.trimSuffix (Lib.trimPrefix (34 :: (q ++ [34, 10])) [34]) [34, 10] = q := by
  have h1 : Lib.trimPrefix (34 :: (q ++ [34, 10])) [34] = q ++ [34, 10] := by
    unfold Lib.trimPrefix Lib.hasPrefix
    rw [if_pos (by simp [List.isPrefixOf])]
    rfl
  rw [h1]
  unfold Lib.trimSuffix Lib.hasSuffix
  rw [if_pos (by rw [List.isSuffixOf_iff_suffix]; exact ⟨q, rfl⟩)]
  simp

def RdIs (s : ByteArray) (e : Ending) : Prop := ∃ (X : Rc) (ok : Bool), X.fit ∧ X.c.size ≤ s.size ∧ e = .returned (.tuple #[.agg X.arr, .bool ok]) ∧ ∀ r : Rc, r.fit → lineL r = bL s → X = r ∧ ok = true
theorem zero_fit : Rc.zero.fit := ⟨by decide, by decide, by decide, by decide, by decide⟩
theorem rd_none {s : ByteArray} (h : ∀ r : Rc, r.fit → lineL r ≠ bL s) : RdIs s (.returned (.tuple #[.agg Rc.zero.arr, .bool false])) := ⟨Rc.zero, false, zero_fit, Nat.zero_le _, rfl, fun r hf hr => absurd hr (h r hf)⟩
theorem split_line {r : Rc} {s : ByteArray} (h : lineL r = bL s) : (Lib.splitB { data := #[32] } 0 (min 4 (s.size + 1) - 1) s).map bL = [digs r.n, digs r.t, sgns r.k, 34 :: (quo (bL r.c) ++ [34, 10])] := by
  have d32 : isDig 32 = false := rfl
  have e := Lib.splitB_data { data := #[32] } 0 (min 4 (s.size + 1) - 1) s
  have e1 : (Lib.splitB { data := #[32] } 0 (min 4 (s.size + 1) - 1) s).map bL = Lib.splitK [32] 0 (min 4 (s.size + 1) - 1) (bL s) := e
  rw [e1, ← h]
  have hl : 3 ≤ s.size := by
    rw [← bL_len, ← h]
    unfold lineL
    simp only [List.length_append, List.length_cons]
    omega
  rw [show min 4 (s.size + 1) - 1 = 3 by omega]
  unfold lineL
  rw [splitK_cut (digs_no d32 _), splitK_cut (digs_no d32 _), splitK_cut (sgns_no d32 (by decide) _)]
  rfl

set_option maxHeartbeats 16000000 in
theorem readLine_ok (s : ByteArray) (hs : s.size ≤ 2147483648) (w : World) (hE : Te w) : Calls Tryd.prog 27 #[.string s] w fun e w' => RdIs s e ∧ Below w.heap.size w w' := by
  obtain ⟨P, hP⟩ : ∃ P, Lib.splitB { data := #[32] } 0 (min 4 (s.size + 1) - 1) s = P := ⟨_, rfl⟩
  have HP : Hid (∀ r : Rc, lineL r = bL s → P.map bL = [digs r.n, digs r.t, sgns r.k, 34 :: (quo (bL r.c) ++ [34, 10])]) := fun r h => by rw [← hP]; exact split_line h
  have HZ : ∀ p ∈ P, p.size ≤ s.size := fun p hp => by
    have e : P.map bL = Lib.splitK [32] 0 (min 4 (s.size + 1) - 1) (bL s) := by rw [← hP]; exact Lib.splitB_data { data := #[32] } 0 _ s
    have h1 : bL p ∈ P.map bL := List.mem_map.2 ⟨p, hp, rfl⟩
    rw [e] at h1
    have := splitK_len [32] _ _ _ h1
    rw [bL_len, bL_len] at this
    exact this
  have HLN : P.length ≤ min 4 (s.size + 1) := by rw [← hP]; have := Lib.splitB_length_le { data := #[32] } 0 (min 4 (s.size + 1) - 1) s; omega
  have pS : ∀ W, Te W → Calls Tryd.prog 38 #[.string s, .string { data := #[32] }, .int .i64 4] W fun e w' => e = .returned (.slice (some ⟨W.heap.size, 0, none⟩) P.length (min 4 (s.size + 1))) ∧ w' = W.alloc (.cells (Lib.cellsOf P (min 4 (s.size + 1))) 9) := fun W hE => by
    obtain ⟨m, hm⟩ := hE.mx
    have h := Tryd.strings_SplitN s { data := #[32] } 4 m W (by omega) hm (by decide) (by decide) (by decide)
    rw [hP] at h
    exact h
  clear hP
  obtain ⟨N, hN⟩ : ∃ N, min 4 (s.size + 1) = N := ⟨_, rfl⟩
  rw [hN] at pS HLN
  clear hN
  have b2 := blk_new w Rc.zero.arr 27
  have hB := below_box w (.cells Rc.zero.arr 27)
  replace hE := hE.next hB
  go_enter Tryd.func27, Tryd.ntmps27
  go_upto_region 1 with (go_big_may; refine alloc_zero zeroRc rfl rfl ?_)
  try simp only [Act.put, List.setIfInBounds_toArray, List.set_cons_zero, List.set_cons_succ]
  generalize w.alloc (Obj.cells Rc.zero.arr 27) = W at b2 hB hE ⊢
  generalize hzz : w.heap.size = z at b2 ⊢
  replace hzz : Hid (w.heap.size = z) := hzz
  go_wp2_with fail
  refine (pS W hE).mono ?_
  rintro e w1 ⟨rfl, e1⟩
  clear pS
  have b4 : Blk W.heap.size (Lib.cellsOf P N) 9 w1 := by rw [e1]; exact blk_new _ _ _
  have hb : Below W.heap.size W w1 := by rw [e1]; exact below_box _ _
  clear e1
  replace b2 := b2.below hb
  replace hE := hE.next hb
  replace hB := below_next hB hb
  clear hb
  generalize W.heap.size = z4 at b4 ⊢
  by_cases h4 : P.length = 4
  · obtain ⟨g0, g1, g2, g3, rfl⟩ : ∃ a b c d, P = [a, b, c, d] := by
      match P, h4 with
      | [a, b, c, d], _ => exact ⟨a, b, c, d, rfl⟩
    have hN4 : 4 ≤ N := HLN
    have z0 := HZ g0 (by simp)
    have z1 := HZ g1 (by simp)
    have z2 := HZ g2 (by simp)
    have z3 := HZ g3 (by simp)
    have HC : Hid (∀ r : Rc, r.fit → lineL r = bL s → bL g0 = digs r.n ∧ bL g1 = digs r.t ∧ bL g2 = sgns r.k ∧ bL g3 = 34 :: (quo (bL r.c) ++ [34, 10])) := fun r hf hr => by
      have h := HP.out r hr
      simp only [List.map_cons, List.map_nil, List.cons.injEq] at h
      exact ⟨h.1, h.2.1, h.2.2.1, h.2.2.2.1⟩
    have c0 : w1.cell? ⟨z4, 0, none⟩ = some (.string g0) := b4.cell 0 _ rfl
    have c1 : w1.cell? ⟨z4, 1, none⟩ = some (.string g1) := b4.cell 1 _ rfl
    have c2 : w1.cell? ⟨z4, 2, none⟩ = some (.string g2) := b4.cell 2 _ rfl
    have c3 : w1.cell? ⟨z4, 3, none⟩ = some (.string g3) := b4.cell 3 _ rfl
    clear HP HZ h4 HLN
    simp only [List.length_cons, List.length_nil]
    go_wp2_with fail
    refine (pu64_ok g0 (by omega) _ hE).mono ?_
    rintro e w2 ⟨⟨n, e1, x1, hx1, hn, rfl, hc1⟩, hb⟩
    replace b2 := b2.below hb
    replace b4 := b4.below hb
    replace hE := hE.next hb
    replace hB := below_next hB hb
    clear hb c0 c1 c2 c3
    have c0 : World.cell? _ ⟨z4, 0, none⟩ = some (.string g0) := b4.cell 0 _ rfl
    have c1 : World.cell? _ ⟨z4, 1, none⟩ = some (.string g1) := b4.cell 1 _ rfl
    have c2 : World.cell? _ ⟨z4, 2, none⟩ = some (.string g2) := b4.cell 2 _ rfl
    have c3 : World.cell? _ ⟨z4, 3, none⟩ = some (.string g3) := b4.cell 3 _ rfl
    go_wp2_with fail
    refine (pu32_ok g1 (by omega) _ hE).mono ?_
    rintro e w3 ⟨⟨t, e2, x2, hx2, ht, rfl, hc2⟩, hb⟩
    replace b2 := b2.below hb
    replace b4 := b4.below hb
    replace hE := hE.next hb
    replace hB := below_next hB hb
    clear hb c0 c1 c2 c3
    have c0 : World.cell? _ ⟨z4, 0, none⟩ = some (.string g0) := b4.cell 0 _ rfl
    have c1 : World.cell? _ ⟨z4, 1, none⟩ = some (.string g1) := b4.cell 1 _ rfl
    have c2 : World.cell? _ ⟨z4, 2, none⟩ = some (.string g2) := b4.cell 2 _ rfl
    have c3 : World.cell? _ ⟨z4, 3, none⟩ = some (.string g3) := b4.cell 3 _ rfl
    go_wp2_with fail
    refine (atoi_ok g2 (by omega) _ hE).mono ?_
    rintro e w4 ⟨⟨k, e3, x3, hx3, hk, rfl, hc3⟩, hb⟩
    replace b2 := b2.below hb
    replace b4 := b4.below hb
    replace hE := hE.next hb
    replace hB := below_next hB hb
    clear hb c0 c1 c2 c3
    have c0 : World.cell? _ ⟨z4, 0, none⟩ = some (.string g0) := b4.cell 0 _ rfl
    have c1 : World.cell? _ ⟨z4, 1, none⟩ = some (.string g1) := b4.cell 1 _ rfl
    have c2 : World.cell? _ ⟨z4, 2, none⟩ = some (.string g2) := b4.cell 2 _ rfl
    have c3 : World.cell? _ ⟨z4, 3, none⟩ = some (.string g3) := b4.cell 3 _ rfl
    go_wp2_with fail
    refine (Tryd.strings_TrimPrefix g3 { data := #[34] } _).mono ?_
    rintro e w5 ⟨rfl, e9⟩
    subst e9
    have y1 := trimP_len (bL g3) [34]
    have y2 := trimS_len (Lib.trimPrefix (bL g3) [34]) [34, 10]
    rw [bL_len] at y1
    have hTP : Hid (Lib.trimPrefix g3.data.toList (ByteArray.mk #[34]).data.toList = Lib.trimPrefix (bL g3) [34]) := rfl
    rw [hTP.out]
    go_wp2_with fail
    refine (Tryd.strings_TrimSuffix _ { data := #[34, 10] } _ (by show (strB (Lib.trimPrefix (bL g3) [34])).size ≤ _; rw [strB_size]; omega)).mono ?_
    rintro e w6 ⟨rfl, e9⟩
    subst e9
    obtain ⟨Q, hQ⟩ : ∃ Q, Lib.trimSuffix (Lib.trimPrefix (bL g3) [34]) [34, 10] = Q := ⟨_, rfl⟩
    have hTS : Hid ((⟨(Lib.trimSuffix (ByteArray.mk (Lib.trimPrefix (bL g3) [34]).toArray).data.toList (ByteArray.mk #[34, 10]).data.toList).toArray⟩ : ByteArray) = strB Q) := by show strB (Lib.trimSuffix (Lib.trimPrefix (bL g3) [34]) [34, 10]) = _; rw [hQ]
    rw [hTS.out]
    rw [hQ] at y2
    have HQ : Hid (∀ l, bL g3 = 34 :: (l ++ [34, 10]) → Q = l) := fun l h => by rw [← hQ, h, trim_both]
    have hE' := hE
    clear hTP hTS hQ
    go_wp2_with fail
    refine (readCall_ok (strB Q) (by rw [strB_size]; omega) _ hE).mono ?_
    rintro e w7 ⟨⟨x, ok, rfl, hxl, hcx⟩, hb⟩
    replace b2 := b2.below hb
    replace hB := below_next hB hb
    clear hb c0 c1 c2 c3 b4 hE hE'
    rw [strB_size] at hxl
    rw [bL_strB] at hcx
    have HN : Hid (∀ r : Rc, r.fit → lineL r = bL s → e1 = false ∧ e2 = false ∧ e3 = false ∧ ok = true ∧ n = r.n ∧ t = r.t ∧ k = r.k ∧ x = bL r.c) := fun r hf hr => by
      obtain ⟨q0, q1, q2, q3⟩ := HC.out r hf hr
      have a1 := hc1 r.n (by have := hf.1; have : (2 : Nat) ^ 64 = 18446744073709551616 := (by decide); omega) q0.symm
      have a2 := hc2 r.t (by have := hf.2.1; have : (2 : Nat) ^ 32 = 4294967296 := (by decide); omega) q1.symm
      have a3 := hc3 r.k hf.2.2.2.1 hf.2.2.2.2 q2.symm
      have a4 := hcx (bL r.c) (HQ.out _ q3).symm
      exact ⟨a1.2, a2.2, a3.2, a4.2, a1.1, a2.1, a3.1, a4.1⟩
    clear HC HQ hc1 hc2 hc3 hcx
    cases e1 with
    | true =>
      obtain ⟨N9, rfl⟩ := hx1
      have HN2 : Hid (∀ r : Rc, r.fit → lineL r ≠ bL s) := fun r hf hr => by
        obtain ⟨q1, q2, q3, q4, _⟩ := HN.out r hf hr
        cases q1
      clear HN
      have HN := HN2
      have HPN := rd_none HN.out
      go_wp2_with (first | refine build_zero builtRc rfl rfl ?_ | refine store_same rfl 27 _ _ rfl b2 rfl rfl sizeRc Rc.zero.arr_one ?_)
      refine bodyPost_ret (v := .tuple #[.agg Rc.zero.arr, .bool false]) (ret_two rfl rfl b2 Tryd.underlying27 rfl sizeRc rfl) rfl ⟨HPN, hB⟩
    | false =>
      cases e2 with
      | true =>
        obtain rfl : x1 = .nilIface := hx1
        obtain ⟨N9, rfl⟩ := hx2
        have HN2 : Hid (∀ r : Rc, r.fit → lineL r ≠ bL s) := fun r hf hr => by
          obtain ⟨q1, q2, q3, q4, _⟩ := HN.out r hf hr
          cases q2
        clear HN
        have HN := HN2
        have HPN := rd_none HN.out
        go_wp2_with (first | refine build_zero builtRc rfl rfl ?_ | refine store_same rfl 27 _ _ rfl b2 rfl rfl sizeRc Rc.zero.arr_one ?_)
        refine bodyPost_ret (v := .tuple #[.agg Rc.zero.arr, .bool false]) (ret_two rfl rfl b2 Tryd.underlying27 rfl sizeRc rfl) rfl ⟨HPN, hB⟩
      | false =>
        cases e3 with
        | true =>
          obtain rfl : x1 = .nilIface := hx1
          obtain rfl : x2 = .nilIface := hx2
          obtain ⟨N9, rfl⟩ := hx3
          have HN2 : Hid (∀ r : Rc, r.fit → lineL r ≠ bL s) := fun r hf hr => by
            obtain ⟨q1, q2, q3, q4, _⟩ := HN.out r hf hr
            cases q3
          clear HN
          have HN := HN2
          have HPN := rd_none HN.out
          go_wp2_with (first | refine build_zero builtRc rfl rfl ?_ | refine store_same rfl 27 _ _ rfl b2 rfl rfl sizeRc Rc.zero.arr_one ?_)
          refine bodyPost_ret (v := .tuple #[.agg Rc.zero.arr, .bool false]) (ret_two rfl rfl b2 Tryd.underlying27 rfl sizeRc rfl) rfl ⟨HPN, hB⟩
        | false =>
          cases ok with
          | false =>
            obtain rfl : x1 = .nilIface := hx1
            obtain rfl : x2 = .nilIface := hx2
            obtain rfl : x3 = .nilIface := hx3
            have HN2 : Hid (∀ r : Rc, r.fit → lineL r ≠ bL s) := fun r hf hr => by
              obtain ⟨q1, q2, q3, q4, _⟩ := HN.out r hf hr
              cases q4
            clear HN
            have HN := HN2
            have HPN := rd_none HN.out
            go_wp2_with (first | refine build_zero builtRc rfl rfl ?_ | refine store_same rfl 27 _ _ rfl b2 rfl rfl sizeRc Rc.zero.arr_one ?_)
            refine bodyPost_ret (v := .tuple #[.agg Rc.zero.arr, .bool false]) (ret_two rfl rfl b2 Tryd.underlying27 rfl sizeRc rfl) rfl ⟨HPN, hB⟩
          | true =>
            obtain rfl : x1 = .nilIface := hx1
            obtain rfl : x2 = .nilIface := hx2
            obtain rfl : x3 = .nilIface := hx3
            have hwt : IntKind.u32.wrap (t : Int) = ((t % 4294967296 : Nat) : Int) := by rw [IntKind.wrap_u32]; omega
            obtain ⟨t', ht'⟩ : ∃ t', t % 4294967296 = t' := ⟨_, rfl⟩
            rw [ht'] at hwt
            obtain ⟨X, hX⟩ : ∃ X : Rc, X = ⟨n, t', strB x, k⟩ := ⟨_, rfl⟩
            have hXv : Hid (X.arr = #[.int .u64 (n : Int), .int .u32 (t' : Int), .string (strB x), .int .i64 k]) := by rw [hX]; exact rfl
            have HPS : RdIs s (.returned (.tuple #[.agg X.arr, .bool true])) := by
              refine ⟨X, true, ?_, ?_, rfl, fun r hf hr => ⟨?_, rfl⟩⟩
              · rw [hX]
                exact ⟨hn, by show t' < _; omega, by show (strB x).size ≤ _; rw [strB_size]; omega, hk.1, hk.2⟩
              · rw [hX]; show (strB x).size ≤ _; rw [strB_size]; omega
              · obtain ⟨_, _, _, _, q5, q6, q7, q8⟩ := HN.out r hf hr
                have h6 := hf.2.1
                rw [hX, q5, show t' = r.t by omega, q7, q8, strB_bL]
            clear HN hX ht'
            go_wp2_with (first | refine store_blk rfl 27 _ _ rfl (cells := #[.int .u64 (n : Int), .int .u32 (t' : Int), .string (strB x), .int .i64 k]) b2 rfl rfl sizeRc rfl (by rw [← hXv.out]; exact X.arr_one) ?_)
            have b9 := b2.setRow #[.int .u64 (n : Int), .int .u32 (t' : Int), .string (strB x), .int .i64 k]
            refine bodyPost_ret (v := .tuple #[.agg #[.int .u64 (n : Int), .int .u32 (t' : Int), .string (strB x), .int .i64 k], .bool true]) (ret_two rfl rfl b9 Tryd.underlying27 rfl sizeRc rfl) rfl ⟨by rw [← hXv.out]; exact HPS, below_setRow hB (by have := hzz.out; omega) _⟩
  · have HN : Hid (∀ r : Rc, r.fit → lineL r ≠ bL s) := fun r hf hr => by
      have h := congrArg List.length (HP.out r hr)
      rw [List.length_map] at h
      exact h4 h
    have d4 : (((P.length : Nat) : Int) != 4) = true := by simp; omega
    clear HP HZ h4 HLN b4
    have HPN := rd_none HN.out
    go_wp2_with (first | refine build_zero builtRc rfl rfl ?_ | refine store_same rfl 27 _ _ rfl b2 rfl rfl sizeRc Rc.zero.arr_one ?_)
    refine bodyPost_ret (v := .tuple #[.agg Rc.zero.arr, .bool false]) (ret_two rfl rfl b2 Tryd.underlying27 rfl sizeRc rfl) rfl ⟨HPN, hB⟩

set_option maxHeartbeats 8000000 in
theorem parse_ok (s : ByteArray) (hs : s.size ≤ 2147483648) (w : World) (hE : Te w) : Calls Tryd.prog 16 #[.string s] w fun e w' => ParseIs s e ∧ Below w.heap.size w w' := by
  have b2 := blk_new w Rc.zero.arr 27
  have hB := below_box w (.cells Rc.zero.arr 27)
  replace hE := hE.next hB
  go_enter Tryd.func16, Tryd.ntmps16
  go_upto_region 1 with (go_big_may; refine alloc_zero zeroRc rfl rfl ?_)
  try simp only [Act.put, List.setIfInBounds_toArray, List.set_cons_zero, List.set_cons_succ]
  generalize w.alloc (Obj.cells Rc.zero.arr 27) = W at b2 hB hE ⊢
  generalize hzz : w.heap.size = z at b2 ⊢
  replace hzz : Hid (w.heap.size = z) := hzz
  go_wp2_with fail
  refine (readLine_ok s hs W hE).mono ?_
  rintro e w1 ⟨⟨X, ok, hXf, hXc, rfl, hXr⟩, hb⟩
  replace b2 := b2.below hb
  replace hE := hE.next hb
  replace hB := below_next hB hb
  clear hb
  have HN : Hid (∀ r : Rc, r.fit → lineL r = bL s → X = r ∧ ok = true) := hXr
  clear hXr
  have b3 := blk_new w1 X.arr 27
  have hb := below_box w1 (.cells X.arr 27)
  go_upto_region 2 with (go_big_may; first | refine alloc_zero zeroRc rfl rfl ?_ | refine store_new rfl 27 _ _ rfl (cells := X.arr) rfl rfl sizeRc rfl X.arr_one ?_)
  try simp only [Act.put, List.setIfInBounds_toArray, List.set_cons_zero, List.set_cons_succ]
  generalize w1.alloc (Obj.cells X.arr 27) = W5 at b3 hb ⊢
  generalize w1.heap.size = z5 at b3 ⊢
  replace b2 := b2.below hb
  replace hE := hE.next hb
  replace hB := below_next hB hb
  clear hb
  cases ok with
  | false =>
    have HPN := parse_none (s := s) (fun r hf hr => by have := (HN.out r hf hr).2; cases this)
    clear HN
    go_wp2_with (first | refine build_zero builtRc rfl rfl ?_ | refine store_same rfl 27 _ _ rfl b2 rfl rfl sizeRc Rc.zero.arr_one ?_)
    refine bodyPost_ret (v := .tuple #[.agg Rc.zero.arr, .bool false]) (ret_two rfl rfl b2 Tryd.underlying27 rfl sizeRc rfl) rfl ⟨HPN, hB⟩
  | true =>
    have hll : (lineL X).length ≤ 140737488355328 := by
      have a1 := digs_20 hXf.1
      have a2 := digs_20 (n := X.t) (by have := hXf.2.1; omega)
      have a3 : (sgns X.k).length ≤ 21 := by
        have h4 := hXf.2.2.2.1
        have h5 := hXf.2.2.2.2
        unfold sgns
        split
        · rw [List.length_cons]; have := digs_20 (n := X.k.natAbs) (by omega); omega
        · have := digs_20 (n := X.k.natAbs) (by omega); omega
      have a4 := quo_len (bL X.c)
      have a5 := bL_len X.c
      unfold lineL
      simp only [List.length_append, List.length_cons, List.length_nil]
      omega
    have pl := line_ok X hXf W5 hE.tb hll
    have hq2 := same_L (strB (lineL X)) s (decide (lineL X = bL s)) rfl
    by_cases hLX : lineL X = bL s
    · rw [decide_eq_true hLX] at hq2
      have hqn2 := ne_L hq2
      have HPS := parse_some hXf hLX hXc
      clear HN hLX hll
      go_wp2_with (refine load_want rfl 27 _ rfl b3 rfl Tryd.underlying27 rfl sizeRc ?_)
      refine pl.mono ?_
      rintro e wr ⟨rfl, hb⟩
      replace b2 := b2.below hb
      replace b3 := b3.below hb
      replace hB := below_next hB hb
      clear hb pl hE
      go_wp2_with (first | refine load_blk rfl 27 _ rfl b3 rfl Tryd.underlying27 rfl sizeRc ?_ | refine store_blk rfl 27 _ _ rfl b2 rfl rfl sizeRc rfl X.arr_one ?_)
      refine bodyPost_ret (v := .tuple #[.agg X.arr, .bool true]) (ret_two rfl rfl (b2.setRow X.arr) Tryd.underlying27 rfl sizeRc rfl) rfl ⟨HPS, below_setRow hB (by have := hzz.out; omega) _⟩
    · rw [decide_eq_false hLX] at hq2
      have hqn2 := ne_L hq2
      have HPN := parse_none (s := s) (fun r hf hr => by
        have := (HN.out r hf hr).1
        rw [← this] at hr
        exact hLX hr)
      clear HN hLX hll
      go_wp2_with (refine load_want rfl 27 _ rfl b3 rfl Tryd.underlying27 rfl sizeRc ?_)
      refine pl.mono ?_
      rintro e wr ⟨rfl, hb⟩
      replace b2 := b2.below hb
      replace hB := below_next hB hb
      clear hb pl b3 hE
      go_wp2_with (first | refine build_zero builtRc rfl rfl ?_ | refine store_same rfl 27 _ _ rfl b2 rfl rfl sizeRc Rc.zero.arr_one ?_)
      refine bodyPost_ret (v := .tuple #[.agg Rc.zero.arr, .bool false]) (ret_two rfl rfl b2 Tryd.underlying27 rfl sizeRc rfl) rfl ⟨HPN, hB⟩


end Go.Proofs.YtehmcncclpimjaaDoor
