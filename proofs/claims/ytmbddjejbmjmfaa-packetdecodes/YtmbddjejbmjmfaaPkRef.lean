/-
  What packet any bytes are: what the document's Decode returns.
  Condition: a text has at most as many bytes as any text that can be read.
-/
import Derived.Test.YtmbddjejbmjmfaaPkPs
import Derived.Test.YtmbddjejbmjmfaaPkDed
namespace Go.Proofs.Ytmbddjejbmjmfaa
set_option maxRecDepth 10000
open Go.RowKit Go.Sort

set_option maxHeartbeats 1000000 in
theorem rat_ok (s : ByteArray) (o k : Nat) (hs : s.size = 641) (h1 : 1 ≤ k) (h4 : k ≤ 4) (ho : o + k ≤ 641) (w : World) :
    Calls Try.prog 29 #[.string s, .int .i64 (o : Int), .int .i64 (k : Int)] w fun e w' => e = .returned (.int .u32 (Pack.val (seg s.data.toList o k) : Int)) ∧ Below w.heap.size w w' := by
  have hl : s.data.toList.length = 641 := by rw [Pack.size_list, hs]
  have hz : (s.extract o s.size).size = 641 - o := by rw [ByteArray.size_extract, hs]; omega
  have htake := fun w => rtake_ok (s.extract o s.size) (by rw [hz]; omega) k h1 (by omega) (by rw [hz]; omega) w
  have hv : (s.extract o s.size).data.toList.take k = seg s.data.toList o k := by
    rw [Pack.extract_list, hs]
    unfold seg
    rw [List.take_take, Nat.min_eq_left (by omega)]
  rw [hv] at htake
  have hlt : Pack.val (seg s.data.toList o k) < 4294967296 := by
    refine Nat.lt_of_lt_of_le (Pack.val_lt _) ?_
    have := Nat.pow_le_pow_right (n := 256) (by decide) (Nat.le_trans (seg_le s.data.toList o k) h4)
    simpa using this
  generalize Pack.val (seg s.data.toList o k) = x at htake hlt ⊢
  generalize (s.extract o s.size).extract k (s.extract o s.size).size = rest at htake
  have hsl : ∀ w : World, (Instr.slice 9 (.string s) (some (.int .i64 (o : Int))) none none).run Try.prog w = .ok (.string (s.extract o s.size)) w := by
    intro w
    have hoo : (o : Int) ≤ (s.size : Int) := by omega
    simp [go_sem, hoo]
  generalize s.extract o s.size = cut at htake hsl
  clear hz hv hl hs h4 ho
  go_enter Try.func29, Try.ntmps29
  go_wp2_with fail
  refine (htake _).mono ?_
  rintro e w1 ⟨rfl, hb1⟩
  go_wp2_with fail
  go_ret
  exact ⟨rfl, hb1⟩

theorem rat1_ok (s : ByteArray) (o : Nat) (hs : s.size = 641) (ho : o + 1 ≤ 641) (w : World) :
    Calls Try.prog 29 #[.string s, .int .i64 (o : Int), .int .i64 1] w fun e w' => e = .returned (.int .u32 (Pack.val (seg s.data.toList o 1) : Int)) ∧ Below w.heap.size w w' := rat_ok s o 1 hs (by decide) (by decide) ho w
theorem rat4_ok (s : ByteArray) (o : Nat) (hs : s.size = 641) (ho : o + 4 ≤ 641) (w : World) :
    Calls Try.prog 29 #[.string s, .int .i64 (o : Int), .int .i64 4] w fun e w' => e = .returned (.int .u32 (Pack.val (seg s.data.toList o 4) : Int)) ∧ Below w.heap.size w w' := rat_ok s o 4 hs (by decide) (by decide) ho w

theorem id_built (x y z : Nat) : Try.prog.built 24 [(0, .int .u32 (x : Int)), (1, .int .u32 (y : Int)), (2, .int .u32 (z : Int))] = some (idc x y z) := by kernel_rfl
theorem row_built : Try.prog.built 25 [] = some (rowc (fun _ => 0) 0) := by kernel_rfl
theorem build_row {ops : Array Oper} {rest : List Oper} {o : Oper} {a : Act} {w : World} {Q : Exit → Act → World → Prop} (hgd : o.guard = none) (ho : o.op = .build 25 #[])
    (h : wpList Try.prog ops Q rest (a.put o.dst (.agg (rowc (fun _ => 0) 0))) w) : wpList Try.prog ops Q (o :: rest) a w :=
  wpList_build hgd 25 #[] ho (by simp [row_built]) (by simpa [row_built] using h)

set_option maxHeartbeats 1000000 in
theorem ridAt_ok (s : ByteArray) (o : Nat) (hs : s.size = 641) (ho : o + 9 ≤ 641) (w : World) :
    Calls Try.prog 30 #[.string s, .int .i64 (o : Int)] w fun e w' => e = .returned (.agg (idc (Pack.val (seg s.data.toList o 4)) (Pack.val (seg s.data.toList (o + 4) 1)) (Pack.val (seg s.data.toList (o + 5) 4)))) ∧ Below w.heap.size w w' := by
  have k0 := fun w => rat4_ok s o hs (by omega) w
  have k1 := fun w => rat1_ok s (o + 4) hs (by omega) w
  have k2 := fun w => rat4_ok s (o + 5) hs (by omega) w
  have ho2 : (o : Int) + 9 ≤ 641 := by omega
  have e4 : ((o + 4 : Nat) : Int) = (o : Int) + 4 := by omega
  have e5 : ((o + 5 : Nat) : Int) = (o : Int) + 5 := by omega
  rw [e4] at k1
  rw [e5] at k2
  generalize Pack.val (seg s.data.toList o 4) = x at k0 ⊢
  generalize Pack.val (seg s.data.toList (o + 4) 1) = y at k1 ⊢
  generalize Pack.val (seg s.data.toList (o + 5) 4) = z at k2 ⊢
  have hbu := id_built x y z
  obtain ⟨w0, hw0⟩ : ∃ w0, w.alloc (.cells (idc 0 0 0) 24) = w0 := ⟨_, rfl⟩
  have A0 : Blk w.heap.size (idc 0 0 0) 24 w0 := by rw [← hw0]; exact blk_new w _ _
  have b0 : Below w.heap.size w w0 := by rw [← hw0]; exact below_box _ _
  clear e4 e5 hs
  go_enter Try.func30, Try.ntmps30
  go_wp2_with (refine alloc_id rfl rfl ?_)
  refine (k0 _).mono ?_
  rintro e w1 ⟨rfl, hb1⟩
  have A1 := A0.below hb1
  have b1 := b0.trans (hb1.mono b0.size)
  clear A0 b0 hb1 k0 hw0
  go_wp2_with fail
  refine (k1 _).mono ?_
  rintro e w2 ⟨rfl, hb2⟩
  have A2 := A1.below hb2
  have b2 := b1.trans (hb2.mono b1.size)
  clear A1 b1 hb2 k1
  go_wp2_with fail
  refine (k2 _).mono ?_
  rintro e w3 ⟨rfl, hb3⟩
  have A3 := A2.below hb3
  have b3 := b2.trans (hb3.mono b2.size)
  clear A2 b2 hb3 k2
  go_wp2_with (first | (refine store_part (off := 0) (cells := idc x y z) rfl 24 _ _ rfl A3 rfl rfl (by rw [idc_size]; exact sizeId) (by rw [idc_size, idc_size]; omega) (idc_one _ _ _) ?_; intro W4 A4 u4))
  refine bodyPost_ret (ret_cells Try.results30 rfl A4 Try.underlying24 rfl (by rw [putAt_size, idc_size]; exact sizeId)) rfl ⟨rfl, b3.trans (u4.below (Nat.le_refl _) b3.size)⟩

set_option maxHeartbeats 2000000 in
theorem reightAt_ok (s : ByteArray) (o : Nat) (hs : s.size = 641) (ho : o + 32 ≤ 641) (w : World) :
    Calls Try.prog 31 #[.string s, .int .i64 (o : Int)] w fun e w' => e = .returned (.agg (rowc (fun i => Pack.val (seg s.data.toList (o + 4 * i) 4)) 0)) ∧ Below w.heap.size w w' := by
  obtain ⟨g, hg⟩ : ∃ g : Nat → Nat, (fun i => Pack.val (seg s.data.toList (o + 4 * i) 4)) = g := ⟨_, rfl⟩
  have kat : Hid (∀ i : Nat, i < 8 → ∀ w, Calls Try.prog 29 #[.string s, .int .i64 ((o : Int) + 4 * (i : Int)), .int .i64 4] w fun e w' => e = .returned (.int .u32 (g i : Int)) ∧ Below w.heap.size w w') := by
    intro i hi w
    have h := rat4_ok s (o + 4 * i) hs (by omega) w
    have e : ((o + 4 * i : Nat) : Int) = (o : Int) + 4 * (i : Int) := by omega
    rw [e] at h
    rw [← hg]
    exact h
  rw [hg]
  obtain ⟨w0, hw0⟩ : ∃ w0, (w.alloc (.cells (rowc (fun _ => 0) 0) 25)).alloc (.cells (rowc (fun _ => 0) 0) 25) = w0 := ⟨_, rfl⟩
  obtain ⟨V, hV⟩ : ∃ V, V = w.heap.size + 1 := ⟨_, rfl⟩
  have A0 : Blk w.heap.size (rowc (fun _ => 0) 0) 25 w0 := by rw [← hw0]; exact (blk_new w _ _).alloc _
  have V0 : Blk V (rowc (upto g 0) 0) 25 w0 := by
    have h := blk_new (w.alloc (.cells (rowc (fun _ => 0) 0) 25)) (rowc (fun _ => 0) 0) 25
    have hz : (w.alloc (.cells (rowc (fun _ => 0) 0) 25)).heap.size = w.heap.size + 1 := by simp
    rw [hz, hw0, ← hV] at h; rw [← upto_none]; exact h
  have b0 : Below w.heap.size w w0 := by rw [← hw0]; exact (below_box w _).alloc (by simp) _
  have hn1 : w.heap.size ≠ V := by omega
  have KV : Hid (V = w.heap.size + 1) := hV
  have HW0 : Hid ((w.alloc (.cells (rowc (fun _ => 0) 0) 25)).alloc (.cells (rowc (fun _ => 0) 0) 25) = w0) := hw0
  have hoo : (o : Int) + 32 ≤ 641 := by omega
  clear hV hg hw0 hs ho
  go_enter Try.func31, Try.ntmps31
  go_wp2_with (first | refine alloc_row rfl rfl ?_ | refine build_row rfl rfl ?_ | refine store_new (cells := rowc (fun _ => 0) 0) rfl 25 _ _ rfl rfl rfl (by rw [rowc_size]; exact sizeRow) rfl (rowc_one _ _) ?_)
  have hz2 : w.heap.size + 1 = V := KV.out.symm
  try rw [HW0.out]
  try rw [hz2]
  clear hz2
  go_loopw [6] (fun i w' => ∃ m : Nat, m ≤ 8 ∧ i = .int .i64 m ∧ Below w.heap.size w w' ∧ Blk w.heap.size (rowc (fun _ => 0) 0) 25 w' ∧ Blk V (rowc (upto g m) 0) 25 w') (fun i _ => 8 - (intOf i).toNat)
  case atStart => exact ⟨0, by omega, rfl, b0, A0, V0⟩
  case round =>
    clear b0 A0 V0
    obtain ⟨m, hm, rfl, b0, A0, V0⟩ := hrel
    by_cases hlt : m < 8
    · have d1 : (m : Int) < 8 := by omega
      have hat := kat.out m hlt
      go_wp2_with fail
      refine (hat _).mono ?_
      clear hat
      rintro e w1 ⟨rfl, hb1⟩
      have A1 := A0.below hb1
      have V1 := V0.below hb1
      have b1 := b0.trans (hb1.mono b0.size)
      have c1 : w1.cell? ⟨V, m, none⟩ = some (.int .u32 ((0 : Nat) : Int)) := V1.cell m _ (by
        rw [row_get _ 0 m hlt]
        simp [upto])
      have f1 := V1.free m
      obtain ⟨W1, e1⟩ : ∃ W, w1.setCell ⟨V, m, none⟩ (.int .u32 (g m : Int)) = W := ⟨_, rfl⟩
      have V1' : Blk V (rowc (upto g (m + 1)) 0) 25 W1 := by rw [← e1, ← upto_set g m hlt]; exact blk_set V1 m _
      have t1 : But V w1 W1 := by rw [← e1]; exact But.setCell V m w1 _
      have A1' := A1.but t1 hn1
      have b1' := b1.trans (t1.below (by have := KV.out; omega) b1.size)
      clear A0 A1 V0 V1 b0 b1 t1 hb1
      go_wp2_with fail
      refine ⟨⟨m + 1, by omega, by go_num, b1', A1', V1'⟩, by simp [intOf]; omega⟩
    · obtain rfl : m = 8 := by omega
      have hup : rowc (upto g 8) 0 = rowc g 0 := by kernel_rfl
      rw [hup] at V0
      clear hup
      go_wp2_with (first | refine load_blk rfl 25 _ rfl V0 rfl Try.underlying25 rfl (by rw [rowc_size]; exact sizeRow) ?_ | (refine store_part (off := 0) rfl 25 _ _ rfl A0 rfl rfl (by rw [rowc_size]; exact sizeRow) (by rw [rowc_size, rowc_size]; omega) (rowc_one _ _) ?_; intro W4 A4 u4))
      refine bodyPost_ret (ret_cells Try.results31 rfl A4 Try.underlying25 rfl (by rw [putAt_size, rowc_size]; exact sizeRow)) rfl ⟨rfl, b0.trans (u4.below (Nat.le_refl _) b0.size)⟩

end Go.Proofs.Ytmbddjejbmjmfaa
