/-
  Where all that is behind is full nothing waits: all that is of members, and of a service that there is, is ready: the law QueueEnds returns true for every input.
  No condition beyond the form's own.
-/
import Derived.Test.YtmnpbjaofemelaaRows
import Derived.Test.YtmnpbjaofemelaaQuG
import Derived.Test.YtmnpbjaofemelaaQuP
import Derived.WalkKit
import Derived.ProofKit
import Derived.OpenShut
import Derived.ShutString
import Derived.SizedLaws
import Derived.ChangeOld
import Derived.Below
namespace Go.Proofs.Ytmnpbjaofemelaa.queueEnds
open Go.Sort Go.ChangeShapes Go.WideShapes Go.ChangeAt Go.RowKit
open Go.ChangeMaps (open_string shut_string)
set_option linter.unusedVariables false
set_option maxRecDepth 10000

theorem own : ownKnob Try.prog.godebug = none := by kernel_rfl
theorem length_bytes (s : ByteArray) : s.data.toList.length = s.size := by rw [Array.length_toList]; rfl

def GoodQ (m : Nat → Nat) (x : Wt) : Prop := ∃ d ∈ lst m, x.p.f = (d : Int) ∧ 1 ≤ x.p.r ∧ x.p.r ≤ 1000 ∧ (x.e.k = 1 → 0 ≤ x.e.sv ∧ x.e.sv ≤ 3)
def c1002 : Nat → Nat := fun k => if k < 8 then 1002 else 0
theorem and7q (d : Nat) (h : d < 8) : bits BinOp.and IntKind.i64 (d : Int) 7 = (d : Int) := by
  have : d = 0 ∨ d = 1 ∨ d = 2 ∨ d = 3 ∨ d = 4 ∨ d = 5 ∨ d = 6 ∨ d = 7 := by omega
  rcases this with rfl | rfl | rfl | rfl | rfl | rfl | rfl | rfl <;> rfl
set_option maxHeartbeats 16000000 in
theorem walk (la : Option Addr) (L : List Wt) (lc : Nat) (lz : L.length * 80 ≤ 140737488351232) (lk : L.length ≤ lc) (lm : lc ≤ maxLen) (lf : ∀ x ∈ L, x.fit) (m : Nat → Nat) (w : World) (hL : Li Wt.vals 0 la L w) : Calls Try.prog 7 #[.slice la L.length lc, .agg (mbc m)] w fun e w' => e = .returned (.bool true) ∧ Below w.heap.size w w' := by
  obtain ⟨n, hn⟩ : ∃ n, Hid (L.length = n) := ⟨_, rfl⟩
  rw [hn.out] at lk ⊢
  have HF : Hid (∀ x ∈ L, x.fit) := lf
  have HS : Hid (Li Wt.vals 0 la L w) := hL
  clear lf hL lz
  have bm := blk_new w (mbc m) 29
  have hB := below_box w (.cells (mbc m) 29)
  go_enter Try.func7, Try.ntmps7
  go_upto_region 1 with fail
  try simp only [Act.put]
  generalize w.alloc (Obj.cells (mbc m) 29) = W at bm hB ⊢
  go_wp2_with fail
  refine (fixed_ok W).mono ?_
  rintro r wq ⟨rfl, hb⟩
  replace bm := bm.below hb
  replace hB := hB.trans (hb.mono hB.size)
  clear hb
  by_cases hn1 : (100 : Int) < (n : Int)
  · go_wp2_with fail
    refine (fixed_ok wq).mono ?_
    rintro r wq ⟨rfl, hb⟩
    replace bm := bm.below hb
    replace hB := hB.trans (hb.mono hB.size)
    clear hb
    go_wp2_with fail
    go_ret
    exact ⟨rfl, hB⟩
  · have n100 : n ≤ 100 := by omega
    go_wp2_with fail
    go_loopw [5] (fun iv wr => ∃ j : Nat, j ≤ n ∧ iv = .int .i64 j ∧ Hid (∀ x ∈ L.take j, GoodQ m x) ∧ Blk w.heap.size (mbc m) 29 wr ∧ Below w.heap.size w wr) (fun iv _ => n - (intOf iv).toNat)
    case atStart => exact ⟨0, by omega, rfl, fun x h => by simp at h, bm, hB⟩
    case round =>
      clear bm hB hn1
      obtain ⟨j, hj, rfl, HG, bm, hB⟩ := hrel
      rename World => wr
      have j1 : (0 : Int) ≤ (j : Int) := by omega
      by_cases hjn : j < n
      · have j0 : (j : Int) < (n : Int) := by omega
        obtain ⟨x, hx⟩ : ∃ k, L[j]? = some k := ⟨_, List.getElem?_eq_getElem (by rw [hn.out]; exact hjn)⟩
        have HGN : Hid (GoodQ m x → ∀ x ∈ L.take (j + 1), GoodQ m x) := fun h y hy => by
          rw [List.take_add_one, hx] at hy
          rcases List.mem_append.1 hy with hy | hy
          · exact HG.out y hy
          · simp at hy
            rw [hy]; exact h
        obtain ⟨b, o, rfl, _, hbl, hr⟩ := (HS.out.below hB).at Wt.vals_length j x hx
        have bx := blk_new wr x.arr 47
        have hb := below_box wr (.cells x.arr 47)
        go_upto_region 7 with (first | refine load_range rfl 47 _ rfl x.vals hr rfl Try.underlying47 rfl sizeWt ?_ | refine alloc_zero zeroWt rfl rfl ?_ | refine store_new rfl 47 _ _ rfl (cells := x.arr) rfl rfl sizeWt rfl x.arr_one ?_)
        try simp only [Act.put]
        generalize wr.alloc (Obj.cells x.arr 47) = W1 at bx hb ⊢
        have bm1 := bm.below hb
        replace hB := hB.trans (hb.mono hB.size)
        clear hb hr hbl hx bm HG
        generalize wr.heap.size = z1 at bx ⊢
        have c0 : W1.cell? ⟨z1, 0, none⟩ = some (.int .u32 (x.p.r : Int)) := bx.cell 0 _ rfl
        have c1 : W1.cell? ⟨z1, 1, none⟩ = some (.int .i64 x.p.f) := bx.cell 1 _ rfl
        have c3 : W1.cell? ⟨z1, 3, none⟩ = some (.int .i64 x.e.k) := bx.cell 3 _ rfl
        have c4 : W1.cell? ⟨z1, 4, none⟩ = some (.int .i64 x.e.sv) := bx.cell 4 _ rfl
        clear bx
        by_cases h0 : x.p.f < 0
        · clear HGN
          go_wp2_with fail
          go_ret
          exact ⟨rfl, hB⟩
        · by_cases h1 : (7 : Int) < x.p.f
          · clear HGN
            go_wp2_with fail
            go_ret
            exact ⟨rfl, hB⟩
          · obtain ⟨d, hd⟩ : ∃ d : Nat, x.p.f = (d : Int) := ⟨x.p.f.toNat, by omega⟩
            have hd8 : d < 8 := by omega
            have a7 := and7q d hd8
            have hm0 : W1.cell? ⟨w.heap.size, d, none⟩ = some (.int .u32 (m d : Int)) := bm1.cell d _ (mbc_get m d hd8)
            rw [hd] at c1 h0 h1
            have HDD : Hid (x.p.f = (d : Int)) := hd
            clear hd
            have d0 : (0 : Int) ≤ (d : Int) := by omega
            have d8 : (d : Int) < 8 := by omega
            by_cases h2 : m d = 0
            · have e2 : ((m d : Int) == 0) = true := by rw [h2]; rfl
              clear HGN h2
              go_wp2_with fail
              go_ret
              exact ⟨rfl, hB⟩
            · have e2 : ((m d : Int) == 0) = false := by rw [beq_eq_false_iff_ne]; omega
              by_cases h3 : (x.p.r : Int) < 1
              · clear HGN h2
                go_wp2_with fail
                go_ret
                exact ⟨rfl, hB⟩
              · by_cases h4 : (1000 : Int) < (x.p.r : Int)
                · clear HGN h2
                  go_wp2_with fail
                  go_ret
                  exact ⟨rfl, hB⟩
                · by_cases h5 : x.e.k = 1
                  · have e5 : (x.e.k == 1) = true := by rw [h5]; rfl
                    by_cases h6 : x.e.sv < 0
                    · clear HGN h2 h5
                      go_wp2_with fail
                      go_ret
                      exact ⟨rfl, hB⟩
                    · by_cases h7 : (3 : Int) < x.e.sv
                      · clear HGN h2 h5
                        go_wp2_with fail
                        go_ret
                        exact ⟨rfl, hB⟩
                      · have HG2 := HGN.out ⟨d, (mem_lst m d).2 ⟨hd8, by omega⟩, HDD.out, by omega, by omega, fun _ => ⟨by omega, by omega⟩⟩
                        have HG3 : Hid _ := HG2
                        clear HGN HG2 h2 h5
                        go_wp2_with fail
                        exact ⟨⟨j + 1, by omega, by go_num, HG3.out, bm1, hB⟩, by simp [intOf]; omega⟩
                  · have e5 : (x.e.k == 1) = false := by simpa using h5
                    have HG2 := HGN.out ⟨d, (mem_lst m d).2 ⟨hd8, by omega⟩, HDD.out, by omega, by omega, fun h => absurd h h5⟩
                    have HG3 : Hid _ := HG2
                    clear HGN HG2 h2 h5
                    go_wp2_with fail
                    exact ⟨⟨j + 1, by omega, by go_num, HG3.out, bm1, hB⟩, by simp [intOf]; omega⟩
      · obtain rfl : j = n := by omega
        have HR : Hid (rdyQ c1002 m true L = L ∧ rstQ c1002 m true L = []) := by
          refine rdy_full c1002 m L (fun x hx => ?_)
          obtain ⟨d, hd, h1, h2, h3, h4⟩ := HG.out x (by rw [List.take_of_length_le (by rw [hn.out]; exact Nat.le_refl _)]; exact hx)
          exact isQ_full (fun i hi => if_pos hi) hd h1 h2 h3 h4
        clear HG
        have hmz : w.heap.size ≠ wr.heap.size := by have := bm.lt; omega
        have bc := blk_new wr (mbc noMb) 28
        have hb := below_box wr (.cells (mbc noMb) 28)
        go_upto_region 10 with (first | refine build_zero builtCt rfl rfl ?_ | refine alloc_zero zeroCt rfl rfl ?_ | refine store_new rfl 28 _ _ rfl (cells := mbc noMb) rfl rfl sizeCt rfl (mbc_one _) ?_)
        try simp only [Act.put]
        generalize wr.alloc (Obj.cells (mbc noMb) 28) = W1 at bc hb ⊢
        replace bm := bm.below hb
        have hzw : w.heap.size ≤ wr.heap.size := hB.size
        replace hB := hB.trans (hb.mono hB.size)
        clear hb
        generalize wr.heap.size = z1 at bc hzw hmz ⊢
        go_wp2_with fail
        go_loopw [8] (fun iv wr => ∃ i : Nat, i ≤ 8 ∧ iv = .int .i64 i ∧ Blk z1 (mbc (fun k => if k < i then 1002 else 0)) 28 wr ∧ Blk w.heap.size (mbc m) 29 wr ∧ Below w.heap.size w wr) (fun iv _ => 8 - (intOf iv).toNat)
        case atStart => exact ⟨0, by omega, rfl, bc, bm, hB⟩
        case round =>
          clear bc bm hB
          obtain ⟨i, hi, rfl, bc, bm, hB⟩ := hrel
          rename World => wr
          have i1 : (0 : Int) ≤ (i : Int) := by omega
          by_cases hi8 : i < 8
          · have i8 : (i : Int) < 8 := by omega
            go_wp2_with (refine store_one rfl 23 _ _ rfl (off := i) (.int .u32 (1002 : Int)) bc rfl rfl rfl rfl sizeU32 (by rw [mbc_size]; omega) ?_; intro w2 b2 k2; rw [show (.int .u32 (1002 : Int) : Value) = .int .u32 ((1002 : Nat) : Int) from rfl, mbc_set _ i 1002 hi8] at b2; have bm2 := bm.kp1 k2 hmz; have hB2 := hB.trans (k2.below1 hzw hB.size))
            have e : mbc (fun j => if j = i then 1002 else if j < i then 1002 else 0) = mbc (fun k => if k < i + 1 then 1002 else 0) := mbc_ext fun k _ => by
              by_cases h : k = i
              · rw [if_pos h, if_pos (by omega)]
              · rw [if_neg h]
                by_cases h2 : k < i
                · rw [if_pos h2, if_pos (by omega)]
                · rw [if_neg h2, if_neg (by omega)]
            rw [e] at b2
            exact ⟨⟨i + 1, by omega, by go_num, b2, bm2, hB2⟩, by simp [intOf]; omega⟩
          · obtain rfl : i = 8 := by omega
            have pR := ready_ok c1002 m L HF.out la lc (by rw [hn.out]; omega) wr (HS.out.below hB)
            rw [HR.out.1, HR.out.2, hn.out] at pR
            replace bc : Blk z1 (mbc c1002) 28 wr := bc
            go_wp2_with (first | refine load_blk rfl 28 _ rfl bc rfl Try.underlying28 rfl sizeCt ?_ | refine load_blk rfl 29 _ rfl bm rfl Try.underlying29 rfl sizeMb ?_)
            refine pR.mono ?_
            rintro r w3 ⟨⟨a3, c3, a4, c4, rfl, hR, _, _⟩, hb⟩
            rw [hn.out]
            have hB3 := hB.trans (hb.mono hB.size)
            have pS := wsame_ok L a3 la c3 lc (by rw [hn.out]; omega) w3 (hR.li.mono (Nat.zero_le _)) (HS.out.below hB3)
            rw [hn.out] at pS
            clear pR bc bm hb hR
            go_wp2_with fail
            refine pS.mono ?_
            rintro r w4 ⟨rfl, hb⟩
            have hB4 := hB3.trans (hb.mono hB3.size)
            clear pS hb
            go_wp2_with fail
            go_ret
            exact ⟨rfl, hB4⟩

set_option maxRecDepth 100000 in
theorem lifted (os : Go.Os) (started : os.Started) (H : Type) (enc : TypeId × Value → H) :
    ReturnsInHanded {} Try.checked os 7 .any (Rows.queueEndsSpec.pre6 enc Try.prog Try.f7 Rows.queueEndsRow.domain false) (Rows.queueEndsSpec.post enc Try.prog Try.f7 false true false false) := by
  refine returnsInHanded_of_change_sized (C := Try.checked) own started (by kernel_rfl) Try.func7
    (ChangeSpec.witness6 (enc := enc) (C := Try.checked) false ⟨#[], #[.slice none 0 0, .agg (mbc noMb)], []⟩ 8 (by kernel_rfl) (by kernel_rfl) (by kernel_rfl) (by kernel_rfl)) ?_
  intro W base args ds gs before hval0 hW hcnd hsz0 _
  have hval : ∀ (j : Nat) t v, Try.f7.params[j]? = some t → args[j]? = some v → Value.okWide Try.prog W .any base t v := hval0
  have hsz : (DataW.weightsEach Try.prog (Try.f7.params.toList ++ Rows.queueEndsSpec.plain.varTypes Try.prog) (ds ++ gs)).all (· ≤ reachBytes) = true := hsz0
  have hW' := hW
  obtain ⟨p, q, hA0, hV, rfl, hfz, hnd⟩ := hW
  have hA : DataW.TrodAll enc Try.prog W 0 (fun _ => true) true Try.f7.params.toList args.toList ds p := hA0
  rw [Try.params7] at hA hval hsz

  obtain ⟨v0, vs0, d0, ds0, p0, q0, hargs, rfl, rfl, h0, r0⟩ := trodAll_cons hA
  obtain ⟨v1, vs1, d1, ds1, p1, q1, rfl, rfl, rfl, h1, r1⟩ := trodAll_cons r0
  obtain ⟨rfl, rfl, rfl⟩ := trodAll_nil r1
  obtain rfl : args = #[v0, v1] := by cases args; simp_all
  obtain ⟨rfl, rfl⟩ := trodVars_none hV
  obtain ⟨la0, L0, lc0, rfl, lz0, hc0, hm0, ls0, hS0⟩ := open_wts (okWide_slice Try.underlying22 (hval 0 22 v0 rfl rfl)) (fun n hn => of_decide_eq_true (List.all_eq_true.1 hsz _ (DataW.weights_mem_each (j := 0) rfl rfl n hn))) h0
  obtain ⟨m1, rfl⟩ := open_mb (by obtain ⟨cs, h1, _⟩ := (by simpa only [Value.okWide, Try.underlying29] using hval 1 29 v1 rfl rfl : ∃ cs, v1 = .agg cs ∧ _); exact ⟨cs, h1⟩) h1
  have hA2 := hA0
  clear hA0 hval0 hsz0
  simp only [List.append_nil] at hW'
  refine (walk la0 L0 lc0 lz0 hc0 hm0 ls0 m1 W hS0).mono fun e W' ⟨he, bel⟩ => ?_
  subst he
  exact ⟨_, rfl, _, _, _, [], _, [], hW', trodAll_mk1 (shut_bool Try.underlying4 _), (stays_all laidOut bel (by kernel_rfl) hA2), rfl, bel.frame _, fun h => by cases h⟩

theorem over : Rows.queueEndsRow.holds Try.pinned (OpenSpec.ofChange Rows.queueEndsSpec) :=
  OpenClaim.holds_of_wide 7 Try.f7 rfl rfl rfl rfl rfl rfl rfl ⟨rfl, rfl, rfl, rfl, rfl⟩ rfl rfl rfl rfl rfl (by kernel_rfl) Try.func7 (by kernel_rfl)
    (of_decide_eq_true (by kernel_rfl)) (by unfold Func.isWrapper; first | (rw [if_pos (by decide +kernel)]; kernel_rfl) | (rw [if_neg (by decide +kernel)]; exact ⟨rfl, rfl⟩))
    (fun os started H enc _ => lifted os started H enc)

end Go.Proofs.Ytmnpbjaofemelaa.queueEnds
namespace Go.Proofs.Ytmnpbjaofemelaa

theorem queueEnds_holds : Rows.QueueEndsSaid := queueEnds.over
#print axioms queueEnds_holds

end Go.Proofs.Ytmnpbjaofemelaa
