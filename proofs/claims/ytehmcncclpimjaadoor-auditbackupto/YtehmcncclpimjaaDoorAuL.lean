/-
  The document's Parse: what record a text is the line of.
  The text has at most 2147483648 bytes.
-/
import Derived.Test.YtehmcncclpimjaaDoorAuK
import Derived.Test.YtehmcncclpimjaaDoorAuF
namespace Go.Proofs.YtehmcncclpimjaaDoor
set_option maxRecDepth 10000
open Go.RowKit Go.Sort
set_option linter.unusedVariables false
set_option linter.unusedSimpArgs false
set_option maxRecDepth 100000

theorem sl_mid (c : ByteArray) (i j : Nat) (hij : i ≤ j) (hj : j ≤ c.size) (p q : Int) (hp : p = (i : Int)) (hq : q = (j : Int)) (W : World) : (Instr.slice 9 (.string c) (some (.int .i64 p)) (some (.int .i64 q)) none).run Tryd.prog W = .ok (.string (strB (((bL c).take j).drop i))) W := by
  subst hp hq
  rw [run_slice_string W 9 c .i64 .i64 (i : Int) (j : Int) Tryd.underlying9 (by omega) (by omega) (by omega), show ((i : Int)).toNat = i by omega, show ((j : Int)).toNat = j by omega]
  have e : c.extract i j = strB (((bL c).take j).drop i) := by
    apply bL_inj
    show (c.extract i j).data.toList = ((bL c).take j).drop i
    rw [Lib.extract_data, List.drop_take]
    rfl
  rw [e]
theorem same_lit (a : ByteArray) (l : List UInt8) (c : Bool) (h : decide (bL a = l) = c) : (a.toList == l) = c := by
  have := same_L a (strB l) c h
  rw [ByteArray.toList_eq (strB l)] at this
  exact this
theorem ne_L {a b : ByteArray} {c : Bool} (h : (a.toList == b.toList) = c) : (a.toList != b.toList) = !c := by unfold bne; rw [h]
def ParseIs (s : ByteArray) (e : Ending) : Prop := ∃ o : Option Rc, IsLn (bL s) o ∧ (∀ r, o = some r → r.c.size ≤ s.size) ∧ e = .returned (.tuple #[.agg (o.getD Rc.zero).arr, .bool o.isSome])
theorem parse_none {s : ByteArray} (h : ∀ r : Rc, r.fit → lineL r ≠ bL s) : ParseIs s (.returned (.tuple #[.agg Rc.zero.arr, .bool false])) := ⟨none, h, fun r e => (by cases e), rfl⟩
theorem parse_some {s : ByteArray} {X : Rc} (hf : X.fit) (h : lineL X = bL s) (hc : X.c.size ≤ s.size) : ParseIs s (.returned (.tuple #[.agg X.arr, .bool true])) := ⟨some X, ⟨hf, h⟩, fun r e => (by cases e; exact hc), rfl⟩

theorem line_parts {r : Rc} (hf : r.fit) {l : List UInt8} (h : lineL r = l) {A B C s1 s2 s3 : List UInt8} {ok1 ok2 ok3 : Bool} (h1 : wordL l = (A, s1, ok1)) (h2 : wordL s1 = (B, s2, ok2)) (h3 : wordL s2 = (C, s3, ok3)) :
    ok1 = true ∧ ok2 = true ∧ ok3 = true ∧ A = digs r.n ∧ B = digs r.t ∧ C = sgns r.k ∧ s3 = 34 :: (quo (bL r.c) ++ [34, 10]) := by
  have d32 : isDig 32 = false := rfl
  subst h
  unfold lineL at h1
  rw [wordL_cut (digs_no d32 _)] at h1
  cases h1
  rw [wordL_cut (digs_no d32 _)] at h2
  cases h2
  rw [wordL_cut (sgns_no d32 (by decide) _)] at h3
  cases h3
  exact ⟨rfl, rfl, rfl, rfl, rfl, rfl, rfl⟩

set_option maxHeartbeats 16000000 in
theorem rparse_ok (s : ByteArray) (hs : s.size ≤ 2147483648) (w : World) : Calls Tryd.prog 17 #[.string s] w fun e w' => ParseIs s e ∧ Below w.heap.size w w' := by
  have hl := bL_len s
  obtain ⟨⟨A, s1, ok1⟩, h1⟩ : ∃ x, wordL (bL s) = x := ⟨_, rfl⟩
  obtain ⟨⟨B, s2, ok2⟩, h2⟩ : ∃ x, wordL s1 = x := ⟨_, rfl⟩
  obtain ⟨⟨C, s3, ok3⟩, h3⟩ : ∃ x, wordL s2 = x := ⟨_, rfl⟩
  obtain ⟨⟨n, ok4⟩, h4⟩ : ∃ x, numV (strB A) = x := ⟨_, rfl⟩
  obtain ⟨⟨t, ok5⟩, h5⟩ : ∃ x, numV (strB B) = x := ⟨_, rfl⟩
  obtain ⟨⟨k, ok6⟩, h6⟩ : ∃ x, codV (strB C) = x := ⟨_, rfl⟩
  have g1 := wordL_len (bL s)
  have g2 := wordL_len s1
  have g3 := wordL_len s2
  rw [h1] at g1
  rw [h2] at g2
  rw [h3] at g3
  simp only at g1 g2 g3
  have z1 : s1.length ≤ s.size := by omega
  have z2 : s2.length ≤ s.size := by omega
  have z3 : s3.length ≤ s.size := by omega
  have z4 : A.length ≤ s.size := by omega
  have z5 : B.length ≤ s.size := by omega
  have z6 : C.length ≤ s.size := by omega
  have f1 := numV_lt (strB A)
  have f2 := numV_lt (strB B)
  have f3 := codV_rng (strB C)
  rw [h4] at f1
  rw [h5] at f2
  rw [h6] at f3
  simp only at f1 f2 f3
  have HC : Hid (∀ r : Rc, r.fit → lineL r = bL s → ok1 = true ∧ ok2 = true ∧ ok3 = true ∧ ok4 = true ∧ ok5 = true ∧ ok6 = true ∧ n = r.n ∧ t = r.t ∧ k = r.k ∧ s3 = 34 :: (quo (bL r.c) ++ [34, 10])) := fun r hf hr => by
    obtain ⟨c1, c2, c3, c4, c5, c6, c7⟩ := line_parts hf hr h1 h2 h3
    have n4 := numV_digs (s := strB A) hf.1 c4
    have n5 := numV_digs (s := strB B) (by have := hf.2.1; omega) c5
    have n6 := codV_sgns (s := strB C) hf.2.2.2.1 hf.2.2.2.2 c6
    rw [h4] at n4
    rw [h5] at n5
    rw [h6] at n6
    simp only [Prod.mk.injEq] at n4 n5 n6
    exact ⟨c1, c2, c3, n4.2, n5.2, n6.2, n4.1, n5.1, n6.1, c7⟩
  have p1 := word_ok s (by omega)
  have p2 := word_ok (strB s1) (by rw [strB_size]; omega)
  have p3 := word_ok (strB s2) (by rw [strB_size]; omega)
  have p4 := number_ok (strB A) (by rw [strB_size]; omega)
  have p5 := number_ok (strB B) (by rw [strB_size]; omega)
  have p6 := code_ok (strB C) (by rw [strB_size]; omega)
  unfold wordV at p1 p2 p3
  rw [bL_strB] at p2 p3
  rw [h1] at p1
  rw [h2] at p2
  rw [h3] at p3
  rw [h4] at p4
  rw [h5] at p5
  rw [h6] at p6
  simp only at p1 p2 p3 p4 p5 p6
  clear h1 h2 h3 h4 h5 h6 g1 g2 g3 z1 z2 z4 z5 z6 hl
  have b2 := blk_new w Rc.zero.arr 27
  have hB := below_box w (.cells Rc.zero.arr 27)
  go_enter Tryd.func17, Tryd.ntmps17
  go_upto_region 1 with (go_big_may; refine alloc_zero zeroRc rfl rfl ?_)
  try simp only [Act.put, List.setIfInBounds_toArray, List.set_cons_zero, List.set_cons_succ]
  generalize w.alloc (Obj.cells Rc.zero.arr 27) = W at b2 hB ⊢
  have hz0 : w.heap.size ≤ w.heap.size := Nat.le_refl _
  generalize hzz : w.heap.size = z at b2 hz0 ⊢
  replace hzz : Hid (w.heap.size = z) := hzz
  have hsz3 : (strB s3).size = s3.length := strB_size s3
  go_wp2_with fail
  refine (p1 _).mono ?_
  rintro e wq ⟨rfl, hb⟩
  replace b2 := b2.below hb
  replace hB := below_next hB hb
  clear hb
  go_wp2_with fail
  refine (p2 _).mono ?_
  rintro e wq ⟨rfl, hb⟩
  replace b2 := b2.below hb
  replace hB := below_next hB hb
  clear hb
  go_wp2_with fail
  refine (p3 _).mono ?_
  rintro e wq ⟨rfl, hb⟩
  replace b2 := b2.below hb
  replace hB := below_next hB hb
  clear hb
  go_wp2_with fail
  refine (p4 _).mono ?_
  rintro e wq ⟨rfl, e9⟩
  subst e9
  go_wp2_with fail
  refine (p5 _).mono ?_
  rintro e wq ⟨rfl, e9⟩
  subst e9
  go_wp2_with fail
  refine (p6 _).mono ?_
  rintro e wq ⟨rfl, e9⟩
  subst e9
  clear p1 p2 p3 p4 p5 p6
  go_upto_region 7 with fail
  try simp only [Act.put, List.setIfInBounds_toArray, List.set_cons_zero, List.set_cons_succ]
  cases ok1 with
  | false =>
    have HN : Hid (∀ r : Rc, r.fit → lineL r ≠ bL s) := fun r hf hr => by
      obtain ⟨c1, c2, c3, c4, c5, c6, c7, c8, c9, c10⟩ := HC.out r hf hr
      cases c1
    clear HC 
    have HPN := parse_none HN.out
    go_wp2_with (first | refine build_zero builtRc rfl rfl ?_ | refine store_same rfl 27 _ _ rfl b2 rfl rfl sizeRc Rc.zero.arr_one ?_)
    refine bodyPost_ret (v := .tuple #[.agg Rc.zero.arr, .bool false]) (ret_two rfl rfl b2 Tryd.underlying27 rfl sizeRc rfl) rfl ⟨HPN, hB⟩
  | true =>
    cases ok2 with
    | false =>
      have HN : Hid (∀ r : Rc, r.fit → lineL r ≠ bL s) := fun r hf hr => by
        obtain ⟨c1, c2, c3, c4, c5, c6, c7, c8, c9, c10⟩ := HC.out r hf hr
        cases c2
      clear HC 
      have HPN := parse_none HN.out
      go_wp2_with (first | refine build_zero builtRc rfl rfl ?_ | refine store_same rfl 27 _ _ rfl b2 rfl rfl sizeRc Rc.zero.arr_one ?_)
      refine bodyPost_ret (v := .tuple #[.agg Rc.zero.arr, .bool false]) (ret_two rfl rfl b2 Tryd.underlying27 rfl sizeRc rfl) rfl ⟨HPN, hB⟩
    | true =>
      cases ok3 with
      | false =>
        have HN : Hid (∀ r : Rc, r.fit → lineL r ≠ bL s) := fun r hf hr => by
          obtain ⟨c1, c2, c3, c4, c5, c6, c7, c8, c9, c10⟩ := HC.out r hf hr
          cases c3
        clear HC 
        have HPN := parse_none HN.out
        go_wp2_with (first | refine build_zero builtRc rfl rfl ?_ | refine store_same rfl 27 _ _ rfl b2 rfl rfl sizeRc Rc.zero.arr_one ?_)
        refine bodyPost_ret (v := .tuple #[.agg Rc.zero.arr, .bool false]) (ret_two rfl rfl b2 Tryd.underlying27 rfl sizeRc rfl) rfl ⟨HPN, hB⟩
      | true =>
        cases ok4 with
        | false =>
          have HN : Hid (∀ r : Rc, r.fit → lineL r ≠ bL s) := fun r hf hr => by
            obtain ⟨c1, c2, c3, c4, c5, c6, c7, c8, c9, c10⟩ := HC.out r hf hr
            cases c4
          clear HC 
          have HPN := parse_none HN.out
          go_wp2_with (first | refine build_zero builtRc rfl rfl ?_ | refine store_same rfl 27 _ _ rfl b2 rfl rfl sizeRc Rc.zero.arr_one ?_)
          refine bodyPost_ret (v := .tuple #[.agg Rc.zero.arr, .bool false]) (ret_two rfl rfl b2 Tryd.underlying27 rfl sizeRc rfl) rfl ⟨HPN, hB⟩
        | true =>
          cases ok5 with
          | false =>
            have HN : Hid (∀ r : Rc, r.fit → lineL r ≠ bL s) := fun r hf hr => by
              obtain ⟨c1, c2, c3, c4, c5, c6, c7, c8, c9, c10⟩ := HC.out r hf hr
              cases c5
            clear HC 
            have HPN := parse_none HN.out
            go_wp2_with (first | refine build_zero builtRc rfl rfl ?_ | refine store_same rfl 27 _ _ rfl b2 rfl rfl sizeRc Rc.zero.arr_one ?_)
            refine bodyPost_ret (v := .tuple #[.agg Rc.zero.arr, .bool false]) (ret_two rfl rfl b2 Tryd.underlying27 rfl sizeRc rfl) rfl ⟨HPN, hB⟩
          | true =>
            cases ok6 with
            | false =>
              have HN : Hid (∀ r : Rc, r.fit → lineL r ≠ bL s) := fun r hf hr => by
                obtain ⟨c1, c2, c3, c4, c5, c6, c7, c8, c9, c10⟩ := HC.out r hf hr
                cases c6
              clear HC 
              have HPN := parse_none HN.out
              go_wp2_with (first | refine build_zero builtRc rfl rfl ?_ | refine store_same rfl 27 _ _ rfl b2 rfl rfl sizeRc Rc.zero.arr_one ?_)
              refine bodyPost_ret (v := .tuple #[.agg Rc.zero.arr, .bool false]) (ret_two rfl rfl b2 Tryd.underlying27 rfl sizeRc rfl) rfl ⟨HPN, hB⟩
            | true =>
              by_cases ht : t ≤ 4294967295
              · have dt : ¬ (4294967295 : Int) < (t : Int) := by omega
                by_cases hn3 : 3 ≤ s3.length
                · have dl : ¬ ((s3.length : Nat) : Int) < 3 := by omega
                  obtain ⟨y, hy⟩ : ∃ y, s3[0]? = some y := ⟨_, List.getElem?_eq_getElem (by omega)⟩
                  have hix : ∀ W, (Instr.index 9 (.string (strB s3)) (.int .i64 0)).run Tryd.prog W = .ok (.int .u8 (y.toNat : Int)) W := fun W => str_ix (c := strB s3) (j := 0) hy W
                  by_cases hy34 : y = 34
                  · have d0 : ((y.toNat : Int) != 34) = false := by rw [hy34]; rfl
                    have d0' : (y.toNat : Int) = 34 := by rw [hy34]; rfl
                    have hsd := sl_drop (strB s3) (s3.length - 2) (by rw [strB_size]; omega) .i64 (((s3.length : Nat) : Int) - 2) (by omega)
                    rw [bL_strB] at hsd
                    have hsm := sl_mid (strB s3) 1 (s3.length - 2) (by omega) (by rw [strB_size]; omega) 1 (((s3.length : Nat) : Int) - 2) rfl (by omega)
                    rw [bL_strB] at hsm
                    obtain ⟨Tl, hTl⟩ : ∃ x, Hid (s3.drop (s3.length - 2) = x) := ⟨_, rfl⟩
                    obtain ⟨Md, hMd⟩ : ∃ x, Hid ((s3.take (s3.length - 2)).drop 1 = x) := ⟨_, rfl⟩
                    rw [hTl.out] at hsd
                    rw [hMd.out] at hsm
                    have hq := same_lit (strB Tl) [34, 10] (decide (Tl = [34, 10])) rfl
                    have HM : Hid (Md.length ≤ s.size) := by show _ ≤ _; rw [← hMd.out, List.length_drop, List.length_take]; omega
                    by_cases hT : Tl = [34, 10]
                    · rw [decide_eq_true hT] at hq
                      have HC2 : Hid (∀ r : Rc, r.fit → lineL r = bL s → n = r.n ∧ t = r.t ∧ k = r.k ∧ quo (bL r.c) = Md) := fun r hf hr => by
                        obtain ⟨c1, c2, c3, c4, c5, c6, c7, c8, c9, c10⟩ := HC.out r hf hr
                        refine ⟨c7, c8, c9, ?_⟩
                        rw [← hMd.out, c10]
                        have e : (34 :: (quo (bL r.c) ++ [34, 10])).length - 2 = (34 :: quo (bL r.c)).length := by simp
                        rw [e, show (34 :: (quo (bL r.c) ++ [34, 10]) : List UInt8) = (34 :: quo (bL r.c)) ++ [34, 10] from rfl, List.take_left]
                        rfl
                      have pc := call_ok (strB Md) (by rw [strB_size]; have := HM.out; omega)
                      clear HC hT hy34 hy
                      go_wp2_with fail
                      refine (pc _).mono ?_
                      rintro e wq ⟨⟨x, ok7, rfl, hx, hcx⟩, hb⟩
                      replace b2 := b2.below hb
                      replace hB := below_next hB hb
                      clear hb pc
                      rw [strB_size] at hx
                      rw [bL_strB] at hcx
                      have HCX : Hid (∀ l, quo l = Md → x = l ∧ ok7 = true) := hcx
                      obtain ⟨X, hX⟩ : ∃ X : Rc, X = ⟨n, t, strB x, k⟩ := ⟨_, rfl⟩
                      have hXv : Hid (X.arr = #[.int .u64 (n : Int), .int .u32 (t : Int), .string (strB x), .int .i64 k]) := by rw [hX]; exact rfl
                      have hXf : X.fit := by
                        rw [hX]
                        exact ⟨f1, by show t < _; omega, by show (strB x).size ≤ _; rw [strB_size]; have := HM.out; omega, f3.1, f3.2⟩
                      have hXc : Hid (X.c.size ≤ s.size) := by rw [hX]; show (strB x).size ≤ _; rw [strB_size]; have := HM.out; omega
                      have HN : Hid (∀ r : Rc, r.fit → lineL r = bL s → ok7 = true ∧ r = X) := fun r hf hr => by
                        obtain ⟨c1, c2, c3, c4⟩ := HC2.out r hf hr
                        obtain ⟨c5, c6⟩ := HCX.out _ c4
                        refine ⟨c6, ?_⟩
                        rw [hX, c1, c2, c3, c5, strB_bL]
                      have hwt : IntKind.u32.wrap (t : Int) = (t : Int) := by rw [IntKind.wrap_u32]; omega
                      clear hX hcx HCX HC2
                      have b3 := blk_new wq X.arr 27
                      have hb := below_box wq (.cells X.arr 27)
                      rw [hXv.out] at b3 hb
                      go_upto_region 11 with (go_big_may; first | refine alloc_zero zeroRc rfl rfl ?_ | refine store_new rfl 27 _ _ rfl (cells := #[.int .u64 (n : Int), .int .u32 (t : Int), .string (strB x), .int .i64 k]) rfl rfl sizeRc rfl (by rw [← hXv.out]; exact X.arr_one) ?_)
                      try simp only [Act.put, List.setIfInBounds_toArray, List.set_cons_zero, List.set_cons_succ]
                      generalize wq.alloc (Obj.cells _ 27) = W5 at b3 hb ⊢
                      rw [← hXv.out] at b3
                      generalize wq.heap.size = z5 at b3 ⊢
                      replace b2 := b2.below hb
                      replace hB := below_next hB hb
                      clear hb hXv
                      cases ok7 with
                      | false =>
                        have HN2 : Hid (∀ r : Rc, r.fit → lineL r ≠ bL s) := fun r hf hr => by
                          have := (HN.out r hf hr).1
                          cases this
                        clear HN
                        have HN := HN2
                        have HPN := parse_none HN.out
                        go_wp2_with (first | refine build_zero builtRc rfl rfl ?_ | refine store_same rfl 27 _ _ rfl b2 rfl rfl sizeRc Rc.zero.arr_one ?_)
                        refine bodyPost_ret (v := .tuple #[.agg Rc.zero.arr, .bool false]) (ret_two rfl rfl b2 Tryd.underlying27 rfl sizeRc rfl) rfl ⟨HPN, hB⟩
                      | true =>
                        have pl := rline_ok X hXf
                        have hq2 := same_L (strB (lineL X)) s (decide (lineL X = bL s)) rfl
                        by_cases hLX : lineL X = bL s
                        · rw [decide_eq_true hLX] at hq2
                          have hqn2 := ne_L hq2
                          have HPS := parse_some hXf hLX hXc.out
                          clear HN hLX
                          go_wp2_with (refine load_want rfl 27 _ rfl b3 rfl Tryd.underlying27 rfl sizeRc ?_)
                          refine (pl _).mono ?_
                          rintro e wr ⟨rfl, hb⟩
                          replace b2 := b2.below hb
                          replace b3 := b3.below hb
                          replace hB := below_next hB hb
                          clear hb pl
                          go_wp2_with (first | refine load_blk rfl 27 _ rfl b3 rfl Tryd.underlying27 rfl sizeRc ?_ | refine store_blk rfl 27 _ _ rfl b2 rfl rfl sizeRc rfl X.arr_one ?_)
                          refine bodyPost_ret (v := .tuple #[.agg X.arr, .bool true]) (ret_two rfl rfl (b2.setRow X.arr) Tryd.underlying27 rfl sizeRc rfl) rfl ⟨HPS, below_setRow hB (by have := hzz.out; omega) _⟩
                        · rw [decide_eq_false hLX] at hq2
                          have hqn2 := ne_L hq2
                          have HN2 : Hid (∀ r : Rc, r.fit → lineL r ≠ bL s) := fun r hf hr => by
                            have := (HN.out r hf hr).2
                            rw [this] at hr
                            exact hLX hr
                          clear HN hLX
                          have HN := HN2
                          have HPN := parse_none HN.out
                          go_wp2_with (refine load_want rfl 27 _ rfl b3 rfl Tryd.underlying27 rfl sizeRc ?_)
                          refine (pl _).mono ?_
                          rintro e wr ⟨rfl, hb⟩
                          replace b2 := b2.below hb
                          replace hB := below_next hB hb
                          clear hb pl b3
                          go_wp2_with (first | refine build_zero builtRc rfl rfl ?_ | refine store_same rfl 27 _ _ rfl b2 rfl rfl sizeRc Rc.zero.arr_one ?_)
                          refine bodyPost_ret (v := .tuple #[.agg Rc.zero.arr, .bool false]) (ret_two rfl rfl b2 Tryd.underlying27 rfl sizeRc rfl) rfl ⟨HPN, hB⟩
                    · rw [decide_eq_false hT] at hq
                      have HN : Hid (∀ r : Rc, r.fit → lineL r ≠ bL s) := fun r hf hr => by
                        obtain ⟨c1, c2, c3, c4, c5, c6, c7, c8, c9, c10⟩ := HC.out r hf hr
                        exact hT (by rw [← hTl.out, c10]; have e : (34 :: (quo (bL r.c) ++ [34, 10])).length - 2 = (34 :: quo (bL r.c)).length := (by simp); rw [e, show (34 :: (quo (bL r.c) ++ [34, 10]) : List UInt8) = (34 :: quo (bL r.c)) ++ [34, 10] from rfl, List.drop_left])
                      clear HC hT
                      have HPN := parse_none HN.out
                      go_wp2_with (first | refine build_zero builtRc rfl rfl ?_ | refine store_same rfl 27 _ _ rfl b2 rfl rfl sizeRc Rc.zero.arr_one ?_)
                      refine bodyPost_ret (v := .tuple #[.agg Rc.zero.arr, .bool false]) (ret_two rfl rfl b2 Tryd.underlying27 rfl sizeRc rfl) rfl ⟨HPN, hB⟩
                  · have d0 : ((y.toNat : Int) != 34) = true := by
                      have : ¬ y.toNat = 34 := fun h => hy34 (UInt8.toNat_inj.1 h)
                      simp; omega
                    have HN : Hid (∀ r : Rc, r.fit → lineL r ≠ bL s) := fun r hf hr => by
                      obtain ⟨c1, c2, c3, c4, c5, c6, c7, c8, c9, c10⟩ := HC.out r hf hr
                      exact hy34 (by rw [c10] at hy; simpa using hy.symm)
                    clear HC hy hy34
                    have HPN := parse_none HN.out
                    go_wp2_with (first | refine build_zero builtRc rfl rfl ?_ | refine store_same rfl 27 _ _ rfl b2 rfl rfl sizeRc Rc.zero.arr_one ?_)
                    refine bodyPost_ret (v := .tuple #[.agg Rc.zero.arr, .bool false]) (ret_two rfl rfl b2 Tryd.underlying27 rfl sizeRc rfl) rfl ⟨HPN, hB⟩
                · have dl : ((s3.length : Nat) : Int) < 3 := by omega
                  have HN : Hid (∀ r : Rc, r.fit → lineL r ≠ bL s) := fun r hf hr => by
                    obtain ⟨c1, c2, c3, c4, c5, c6, c7, c8, c9, c10⟩ := HC.out r hf hr
                    exact hn3 (by rw [c10]; simp)
                  clear HC hn3
                  have HPN := parse_none HN.out
                  go_wp2_with (first | refine build_zero builtRc rfl rfl ?_ | refine store_same rfl 27 _ _ rfl b2 rfl rfl sizeRc Rc.zero.arr_one ?_)
                  refine bodyPost_ret (v := .tuple #[.agg Rc.zero.arr, .bool false]) (ret_two rfl rfl b2 Tryd.underlying27 rfl sizeRc rfl) rfl ⟨HPN, hB⟩
              · have dt : (4294967295 : Int) < (t : Int) := by omega
                have HN : Hid (∀ r : Rc, r.fit → lineL r ≠ bL s) := fun r hf hr => by
                  obtain ⟨c1, c2, c3, c4, c5, c6, c7, c8, c9, c10⟩ := HC.out r hf hr
                  exact ht (by have := hf.2.1; omega)
                clear HC ht
                have HPN := parse_none HN.out
                go_wp2_with (first | refine build_zero builtRc rfl rfl ?_ | refine store_same rfl 27 _ _ rfl b2 rfl rfl sizeRc Rc.zero.arr_one ?_)
                refine bodyPost_ret (v := .tuple #[.agg Rc.zero.arr, .bool false]) (ret_two rfl rfl b2 Tryd.underlying27 rfl sizeRc rfl) rfl ⟨HPN, hB⟩

end Go.Proofs.YtehmcncclpimjaaDoor
