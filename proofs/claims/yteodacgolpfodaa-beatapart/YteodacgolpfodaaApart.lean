/-
  Of two unlike daemons that are heard at one time it is of no moment which one is heard first, and one that is heard again at once is nothing new: the law BeatApart returns true for every input.
  No condition beyond the form's own.
-/
import Derived.Test.YteodacgolpfodaaRows
import Derived.Test.YteodacgolpfodaaBtP
import Derived.WalkKit
import Derived.ProofKit
import Derived.OpenShut
import Derived.ShutString
import Derived.SizedLaws
import Derived.ChangeOld
import Derived.Below
namespace Go.Proofs.Yteodacgolpfodaa.beatApart
open Go.Sort Go.ChangeShapes Go.WideShapes Go.ChangeAt Go.RowKit
open Go.ChangeMaps (open_string shut_string)
set_option linter.unusedVariables false
set_option maxRecDepth 10000

theorem own : ownKnob Try.prog.godebug = none := by kernel_rfl
theorem length_bytes (s : ByteArray) : s.data.toList.length = s.size := by rw [Array.length_toList]; rfl

theorem parts (b : Bt) (i k : Int) (n m : Nat) : ∃ c d e f : Bt, ∃ ok is too yes : Bool, (∀ u : World, Calls Try.prog 7 #[.agg b.arr, .int .i64 i, .int .u32 (n : Int)] u fun x w' => x = .returned (.tuple #[.agg c.arr, .bool ok]) ∧ Below u.heap.size u w') ∧ (∀ u : World, Calls Try.prog 7 #[.agg c.arr, .int .i64 k, .int .u32 (m : Int)] u fun x w' => x = .returned (.tuple #[.agg d.arr, .bool is]) ∧ Below u.heap.size u w') ∧ (∀ u : World, Calls Try.prog 7 #[.agg b.arr, .int .i64 k, .int .u32 (m : Int)] u fun x w' => x = .returned (.tuple #[.agg e.arr, .bool too]) ∧ Below u.heap.size u w') ∧ (∀ u : World, Calls Try.prog 7 #[.agg e.arr, .int .i64 i, .int .u32 (n : Int)] u fun x w' => x = .returned (.tuple #[.agg f.arr, .bool yes]) ∧ Below u.heap.size u w') ∧ (∀ u : World, Calls Try.prog 7 #[.agg c.arr, .int .i64 i, .int .u32 (n : Int)] u fun x w' => x = .returned (.tuple #[.agg c.arr, .bool ok]) ∧ Below u.heap.size u w') ∧ (i = k ∨ (f = d ∧ yes = ok ∧ too = is)) := by
  have hg := hear_ok (hearB b i n) i n
  rw [hear_again, hears_again] at hg
  by_cases hik : i = k
  · exact ⟨_, _, _, _, _, _, _, _, hear_ok b i n, hear_ok _ k m, hear_ok b k m, hear_ok _ i n, hg, .inl hik⟩
  · have hd := hear_ok (hearB b k m) i n
    rw [hear_other b i k n m hik, hears_other b k i m n (fun h => hik h.symm)] at hd
    have hc := hear_ok (hearB b i n) k m
    rw [hears_other b i k n m hik] at hc
    exact ⟨_, _, _, _, _, _, _, _, hear_ok b i n, hc, hear_ok b k m, hd, hg, .inr ⟨rfl, rfl, rfl⟩⟩

set_option maxHeartbeats 2000000 in
theorem walk (b : Bt) (ko : b.ok) (i : Int) (n : Nat) (kn : n < 4294967296) (k : Int) (m : Nat) (km : m < 4294967296) (w : World) : Calls Try.prog 6 #[.agg b.arr, .agg (hc i n), .agg (hc k m)] w fun e w' => e = .returned (.bool true) ∧ Below w.heap.size w w' := by
  clear ko kn km
  obtain ⟨c, d, e, f, ok, is, too, yes, pA, pB, pC, pD, pE, hend⟩ := parts b i k n m
  have kneq := neqBt c
  obtain ⟨a0, a1, a2, hB⟩ := three_blk (T0 := 25) (T1 := 27) (T2 := 27) (C0 := b.arr) (C1 := hc i n) (C2 := hc k m) (w := w) rfl
  go_enter Try.func6, Try.ntmps6
  go_upto_region 1 with fail
  generalize ((w.alloc (Obj.cells b.arr 25)).alloc (Obj.cells (hc i n) 27)).alloc (Obj.cells (hc k m) 27) = W at a0 a1 a2 hB ⊢
  have q0 := a1.cell 0 (.int .i64 i) rfl
  have q1 := a1.cell 1 (.int .u32 (n : Int)) rfl
  have q2 := a2.cell 0 (.int .i64 k) rfl
  have q3 := a2.cell 1 (.int .u32 (m : Int)) rfl
  go_wp2_with (refine load_blk rfl 25 _ rfl a0 rfl Try.underlying25 rfl b.size ?_)
  clear q0 q1 q2 q3
  refine (pA _).mono ?_
  rintro r w1 ⟨rfl, hb⟩
  replace a0 := a0.below hb
  replace a1 := a1.below hb
  replace a2 := a2.below hb
  replace hB := hB.trans (hb.mono hB.size)
  clear hb
  replace a0 := a0.alloc (.cells c.arr 25)
  replace a1 := a1.alloc (.cells c.arr 25)
  replace a2 := a2.alloc (.cells c.arr 25)
  have c1 := blk_new w1 c.arr 25
  replace hB : Below w.heap.size w (w1.alloc (.cells c.arr 25)) := hB.alloc hB.size _
  have q0 := a1.cell 0 (.int .i64 i) rfl
  have q1 := a1.cell 1 (.int .u32 (n : Int)) rfl
  have q2 := a2.cell 0 (.int .i64 k) rfl
  have q3 := a2.cell 1 (.int .u32 (m : Int)) rfl
  go_wp2_with (first | refine alloc_zero zeroBt rfl rfl ?_ | refine store_new rfl 25 _ _ rfl (cells := c.arr) rfl rfl c.size rfl c.arr_one ?_ | refine load_blk rfl 25 _ rfl c1 rfl Try.underlying25 rfl c.size ?_)
  clear q0 q1 q2 q3
  refine (pB _).mono ?_
  rintro r w2 ⟨rfl, hb⟩
  replace a0 := a0.below hb
  replace a1 := a1.below hb
  replace a2 := a2.below hb
  replace c1 := c1.below hb
  replace hB := hB.trans (hb.mono hB.size)
  clear hb
  generalize w1.heap.size = p1 at c1 ⊢
  replace a0 := a0.alloc (.cells d.arr 25)
  replace a1 := a1.alloc (.cells d.arr 25)
  replace a2 := a2.alloc (.cells d.arr 25)
  replace c1 := c1.alloc (.cells d.arr 25)
  have c2 := blk_new w2 d.arr 25
  replace hB : Below w.heap.size w (w2.alloc (.cells d.arr 25)) := hB.alloc hB.size _
  have q0 := a1.cell 0 (.int .i64 i) rfl
  have q1 := a1.cell 1 (.int .u32 (n : Int)) rfl
  have q2 := a2.cell 0 (.int .i64 k) rfl
  have q3 := a2.cell 1 (.int .u32 (m : Int)) rfl
  go_wp2_with (first | refine alloc_zero zeroBt rfl rfl ?_ | refine store_new rfl 25 _ _ rfl (cells := d.arr) rfl rfl d.size rfl d.arr_one ?_ | refine load_blk rfl 25 _ rfl a0 rfl Try.underlying25 rfl b.size ?_)
  clear q0 q1 q2 q3
  refine (pC _).mono ?_
  rintro r w3 ⟨rfl, hb⟩
  replace a0 := a0.below hb
  replace a1 := a1.below hb
  replace a2 := a2.below hb
  replace c1 := c1.below hb
  replace c2 := c2.below hb
  replace hB := hB.trans (hb.mono hB.size)
  clear hb
  generalize w2.heap.size = p2 at c2 ⊢
  replace a0 := a0.alloc (.cells e.arr 25)
  replace a1 := a1.alloc (.cells e.arr 25)
  replace a2 := a2.alloc (.cells e.arr 25)
  replace c1 := c1.alloc (.cells e.arr 25)
  replace c2 := c2.alloc (.cells e.arr 25)
  have c3 := blk_new w3 e.arr 25
  replace hB : Below w.heap.size w (w3.alloc (.cells e.arr 25)) := hB.alloc hB.size _
  have q0 := a1.cell 0 (.int .i64 i) rfl
  have q1 := a1.cell 1 (.int .u32 (n : Int)) rfl
  have q2 := a2.cell 0 (.int .i64 k) rfl
  have q3 := a2.cell 1 (.int .u32 (m : Int)) rfl
  go_wp2_with (first | refine alloc_zero zeroBt rfl rfl ?_ | refine store_new rfl 25 _ _ rfl (cells := e.arr) rfl rfl e.size rfl e.arr_one ?_ | refine load_blk rfl 25 _ rfl c3 rfl Try.underlying25 rfl e.size ?_)
  clear q0 q1 q2 q3
  refine (pD _).mono ?_
  rintro r w4 ⟨rfl, hb⟩
  replace a0 := a0.below hb
  replace a1 := a1.below hb
  replace a2 := a2.below hb
  replace c1 := c1.below hb
  replace c2 := c2.below hb
  replace c3 := c3.below hb
  replace hB := hB.trans (hb.mono hB.size)
  clear hb
  generalize w3.heap.size = p3 at c3 ⊢
  replace a0 := a0.alloc (.cells f.arr 25)
  replace a1 := a1.alloc (.cells f.arr 25)
  replace a2 := a2.alloc (.cells f.arr 25)
  replace c1 := c1.alloc (.cells f.arr 25)
  replace c2 := c2.alloc (.cells f.arr 25)
  replace c3 := c3.alloc (.cells f.arr 25)
  have c4 := blk_new w4 f.arr 25
  replace hB : Below w.heap.size w (w4.alloc (.cells f.arr 25)) := hB.alloc hB.size _
  have q0 := a1.cell 0 (.int .i64 i) rfl
  have q1 := a1.cell 1 (.int .u32 (n : Int)) rfl
  have q2 := a2.cell 0 (.int .i64 k) rfl
  have q3 := a2.cell 1 (.int .u32 (m : Int)) rfl
  go_wp2_with (first | refine alloc_zero zeroBt rfl rfl ?_ | refine store_new rfl 25 _ _ rfl (cells := f.arr) rfl rfl f.size rfl f.arr_one ?_ | refine load_blk rfl 25 _ rfl c1 rfl Try.underlying25 rfl c.size ?_)
  clear q0 q1 q2 q3
  refine (pE _).mono ?_
  rintro r w5 ⟨rfl, hb⟩
  replace a0 := a0.below hb
  replace a1 := a1.below hb
  replace a2 := a2.below hb
  replace c1 := c1.below hb
  replace c2 := c2.below hb
  replace c3 := c3.below hb
  replace c4 := c4.below hb
  replace hB := hB.trans (hb.mono hB.size)
  clear hb
  generalize w4.heap.size = p4 at c4 ⊢
  replace a0 := a0.alloc (.cells c.arr 25)
  replace a1 := a1.alloc (.cells c.arr 25)
  replace a2 := a2.alloc (.cells c.arr 25)
  replace c1 := c1.alloc (.cells c.arr 25)
  replace c2 := c2.alloc (.cells c.arr 25)
  replace c3 := c3.alloc (.cells c.arr 25)
  replace c4 := c4.alloc (.cells c.arr 25)
  have c5 := blk_new w5 c.arr 25
  replace hB : Below w.heap.size w (w5.alloc (.cells c.arr 25)) := hB.alloc hB.size _
  have q0 := a1.cell 0 (.int .i64 i) rfl
  have q1 := a1.cell 1 (.int .u32 (n : Int)) rfl
  have q2 := a2.cell 0 (.int .i64 k) rfl
  have q3 := a2.cell 1 (.int .u32 (m : Int)) rfl
  go_wp2_with (first | refine alloc_zero zeroBt rfl rfl ?_ | refine store_new rfl 25 _ _ rfl (cells := c.arr) rfl rfl c.size rfl c.arr_one ?_)
  clear q0 q1 q2 q3
  refine (fixed_ok _).mono ?_
  rintro r w6 ⟨rfl, hb⟩
  replace a0 := a0.below hb
  replace a1 := a1.below hb
  replace a2 := a2.below hb
  replace c1 := c1.below hb
  replace c2 := c2.below hb
  replace c3 := c3.below hb
  replace c4 := c4.below hb
  replace c5 := c5.below hb
  replace hB := hB.trans (hb.mono hB.size)
  clear hb
  generalize w5.heap.size = p5 at c5 ⊢
  have q0 := a1.cell 0 (.int .i64 i) rfl
  have q1 := a1.cell 1 (.int .u32 (n : Int)) rfl
  have q2 := a2.cell 0 (.int .i64 k) rfl
  have q3 := a2.cell 1 (.int .u32 (m : Int)) rfl
  go_upto_region 8 with (first | refine load_want rfl 25 _ rfl c5 rfl Try.underlying25 rfl c.size ?_ | refine load_want rfl 25 _ rfl c1 rfl Try.underlying25 rfl c.size ?_)
  clear a0 a1 a2 c1 c3 c5 pA pB pC pD pE kneq q1 q3
  cases hq : (i == k) with
  | true =>
    clear hend c2 c4
    go_wp2_with fail
    go_ret
    exact ⟨rfl, hB⟩
  | false =>
    rcases hend with he | ⟨rfl, rfl, rfl⟩
    · subst he
      simp at hq
    · have keq := eqlBt f
      go_wp2_with (first | refine load_want rfl 25 _ rfl c2 rfl Try.underlying25 rfl f.size ?_ | refine load_want rfl 25 _ rfl c4 rfl Try.underlying25 rfl f.size ?_)
      go_ret
      exact ⟨rfl, hB⟩

set_option maxRecDepth 100000 in
theorem lifted (os : Os) (started : os.Started) (H : Type) (enc : TypeId × Value → H) :
    ReturnsInHanded {} Try.checked os 6 .any (Rows.beatApartSpec.pre6 enc Try.prog Try.f6 Rows.beatApartRow.domain false) (Rows.beatApartSpec.post enc Try.prog Try.f6 false true false false) := by
  refine returnsInHanded_of_change_sized (C := Try.checked) own started (by kernel_rfl) Try.func6
    (ChangeSpec.witness6 (enc := enc) (C := Try.checked) false ⟨#[], #[.agg Bt.zero.arr, .agg (hc 0 0), .agg (hc 0 0)], []⟩ 8 (by kernel_rfl) (by kernel_rfl) (by kernel_rfl) (by kernel_rfl)) ?_
  intro W base args ds gs before hval0 hW hcnd hsz0 _
  have hval : ∀ (j : Nat) t v, Try.f6.params[j]? = some t → args[j]? = some v → Value.okWide Try.prog W .any base t v := hval0
  have hsz : (DataW.weightsEach Try.prog (Try.f6.params.toList ++ Rows.beatApartSpec.plain.varTypes Try.prog) (ds ++ gs)).all (· ≤ reachBytes) = true := hsz0
  have hW' := hW
  obtain ⟨p, q, hA0, hV, rfl, hfz, hnd⟩ := hW
  have hA : DataW.TrodAll enc Try.prog W 0 (fun _ => true) true Try.f6.params.toList args.toList ds p := hA0
  rw [Try.params6] at hA hval hsz

  obtain ⟨v0, vs0, d0, ds0, p0, q0, hargs, rfl, rfl, h0, r0⟩ := trodAll_cons hA
  obtain ⟨v1, vs1, d1, ds1, p1, q1, rfl, rfl, rfl, h1, r1⟩ := trodAll_cons r0
  obtain ⟨v2, vs2, d2, ds2, p2, q2, rfl, rfl, rfl, h2, r2⟩ := trodAll_cons r1
  obtain ⟨rfl, rfl, rfl⟩ := trodAll_nil r2
  obtain rfl : args = #[v0, v1, v2] := by cases args; simp_all
  obtain ⟨rfl, rfl⟩ := trodVars_none hV
  obtain ⟨b0, rfl, ko0⟩ := open_bt (by obtain ⟨cs, h1, _⟩ := okWide_struct Try.underlying25 (hval 0 25 v0 rfl rfl); exact ⟨cs, h1⟩) h0
  obtain ⟨i1, n1, rfl, kn1⟩ := open_hd (by obtain ⟨cs, h1, _⟩ := okWide_struct Try.underlying27 (hval 1 27 v1 rfl rfl); exact ⟨cs, h1⟩) h1
  obtain ⟨i2, n2, rfl, kn2⟩ := open_hd (by obtain ⟨cs, h1, _⟩ := okWide_struct Try.underlying27 (hval 2 27 v2 rfl rfl); exact ⟨cs, h1⟩) h2
  have hA2 := hA0
  clear hA0 hval0 hsz0
  simp only [List.append_nil] at hW'
  refine (walk b0 ko0 i1 n1 kn1 i2 n2 kn2 W).mono fun e W' ⟨he, bel⟩ => ?_
  subst he
  exact ⟨_, rfl, _, _, _, [], _, [], hW', trodAll_mk1 (shut_bool Try.underlying4 _), (stays_all laidOut bel (by kernel_rfl) hA2), rfl, bel.frame _, fun h => by cases h⟩

theorem over : Rows.beatApartRow.holds Try.pinned (OpenSpec.ofChange Rows.beatApartSpec) :=
  OpenClaim.holds_of_wide 6 Try.f6 rfl rfl rfl rfl rfl rfl rfl ⟨rfl, rfl, rfl, rfl, rfl⟩ rfl rfl rfl rfl rfl (by kernel_rfl) Try.func6 (by kernel_rfl)
    (of_decide_eq_true (by kernel_rfl)) (by unfold Func.isWrapper; first | (rw [if_pos (by decide +kernel)]; kernel_rfl) | (rw [if_neg (by decide +kernel)]; exact ⟨rfl, rfl⟩))
    (fun os started H enc _ => lifted os started H enc)

end Go.Proofs.Yteodacgolpfodaa.beatApart
namespace Go.Proofs.Yteodacgolpfodaa

theorem beatApart_holds : Rows.BeatApartSaid := beatApart.over
#print axioms beatApart_holds

end Go.Proofs.Yteodacgolpfodaa
