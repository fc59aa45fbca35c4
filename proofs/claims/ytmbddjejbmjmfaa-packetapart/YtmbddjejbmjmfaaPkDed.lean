/-
  What packet any bytes are: what Decode returns, the code's, by the bytes' fields.
  Condition: a text has at most as many bytes as any text that can be read.
-/
import Derived.Test.YtmbddjejbmjmfaaPkDec
namespace Go.Proofs.Ytmbddjejbmjmfaa
set_option maxRecDepth 10000
open Go.RowKit Go.Sort

set_option maxHeartbeats 1000000 in
theorem dec_long (s : ByteArray) (hs : ((s.size : Int) == 641) = false) (w : World) : Calls Try.prog 14 #[.string s] w fun r w' =>
    r = .returned (.tuple #[.agg (pkc Pk.zero), .int .i64 50]) ∧ Below w.heap.size w w' := by
  have A0 := blk_new w (pkc Pk.zero) 35
  have hs2 : ((s.size : Int) != 641) = true := by rw [bne, hs]; rfl
  go_enter Try.func14, Try.ntmps14
  go_wp2_with (first | refine alloc_pk rfl rfl ?_ | refine build_pk rfl rfl ?_ | refine store_new rfl 35 _ _ rfl rfl rfl (by rw [pkc_size]; exact size35) rfl (pkc_one _) ?_)
  refine bodyPost_ret (ret_pk Try.results14 rfl A0 (pkc_size _) rfl) rfl ⟨rfl, below_box _ _⟩

set_option maxHeartbeats 1000000 in
theorem dec_sum (s : ByteArray) (hs : s.size = 641) (hok : Crc.okL s.data.toList = false) (w : World) : Calls Try.prog 14 #[.string s] w fun r w' =>
    r = .returned (.tuple #[.agg (pkc Pk.zero), .int .i64 51]) ∧ Below w.heap.size w w' := by
  have hs2 : ((s.size : Int) != 641) = false := by rw [hs]; rfl
  have hk := fun w => ok_any s w (by omega)
  rw [hok] at hk
  obtain ⟨w0, hw0⟩ : ∃ w0, w.alloc (.cells (pkc Pk.zero) 35) = w0 := ⟨_, rfl⟩
  have A0 : Blk w.heap.size (pkc Pk.zero) 35 w0 := by rw [← hw0]; exact blk_new w _ _
  have b0 : Below w.heap.size w w0 := by rw [← hw0]; exact below_box _ _
  clear hs
  go_enter Try.func14, Try.ntmps14
  go_wp2_with (first | refine alloc_pk rfl rfl ?_)
  refine (hk _).mono ?_
  rintro r w1 ⟨rfl, hb1⟩
  have A1 := A0.below hb1
  have b1 := b0.trans (hb1.mono b0.size)
  clear hk hb1 A0 b0 hw0
  go_wp2_with (first | refine build_pk rfl rfl ?_ | refine store_same rfl 35 _ _ rfl A1 rfl rfl (by rw [pkc_size]; exact size35) (pkc_one _) ?_)
  refine bodyPost_ret (ret_pk Try.results14 rfl A1 (pkc_size _) rfl) rfl ⟨rfl, b1⟩

def spoilt (t : Nat) (c0 c1 c2 : Int) : Bool := ((((false || decide (1 < t)) || (c0 != 0)) || (c1 != 0)) || (c2 != 0))

set_option maxHeartbeats 2000000 in
theorem dec_form (s : ByteArray) (n : Nat → Nat) (t : Nat) (a b c f : List UInt8) (G0 G1 G2 : Nat → En) (c0 c1 c2 : Int) (hf : f.length = 4) (hs : s.data.toList = rawb n t a b c ++ f) (hok : Crc.okL s.data.toList = true)
    (hn : ∀ i, n i < 4294967296) (hn0 : n 0 < 256) (hn3 : n 3 < 256) (hn22 : n 22 < 256) (hn107 : n 107 < 256) (ht : t < 256) (ha : a.length = 168) (hb : b.length = 168) (hc : c.length = 168)
    (k0 : ∀ w, Calls Try.prog 65 #[.string (ba a)] w fun r w' => r = .returned (.tuple #[.agg (frc G0), .int .i64 c0]) ∧ Below w.heap.size w w')
    (k1 : ∀ w, Calls Try.prog 65 #[.string (ba b)] w fun r w' => r = .returned (.tuple #[.agg (frc G1), .int .i64 c1]) ∧ Below w.heap.size w w')
    (k2 : ∀ w, Calls Try.prog 65 #[.string (ba c)] w fun r w' => r = .returned (.tuple #[.agg (frc G2), .int .i64 c2]) ∧ Below w.heap.size w w') (w : World) :
    Calls Try.prog 14 #[.string s] w fun r w' =>
    r = .returned (if !spoilt t c0 c1 c2 && Pk.may ⟨n, decide (t = 1), G0, G1, G2⟩ then .tuple #[.agg (pkc ⟨n, decide (t = 1), G0, G1, G2⟩), .int .i64 0] else .tuple #[.agg (pkc Pk.zero), .int .i64 52]) ∧ Below w.heap.size w w' := by
  have hl : (rawb n t a b c).length = 637 := by rw [rawb_length, ha, hb, hc]
  have hsz : s.size = 641 := by rw [← Pack.size_list, hs, List.length_append, hl, hf]
  have hs2 : ((s.size : Int) != 641) = false := by rw [hsz]; rfl
  have hcut : s.extract 0 637 = ba (rawb n t a b c) := by
    apply Pack.ext_list
    rw [Pack.extract_list, hs, ba_data, List.drop_zero, Nat.sub_zero, List.take_append_of_le_length (by omega), List.take_of_length_le (by omega)]
  have hsl : ∀ w : World, (Instr.slice 9 (.string s) none (some (.int .i64 637)) none).run Try.prog w = .ok (.string (ba (rawb n t a b c))) w := by
    intro w
    rw [← hcut]
    simp [go_sem, hsz]
  have hk := fun w => ok_any s w (by omega)
  rw [hok] at hk
  have hread := fun w => read_pk n t a b c G0 G1 G2 c0 c1 c2 hn hn0 hn3 hn22 hn107 ht ha hb hc k0 k1 k2 w
  have hmay := fun w => mayBe_pk ⟨n, decide (t = 1), G0, G1, G2⟩ w
  generalize ba (rawb n t a b c) = raw at hsl hread
  change ∀ w, Calls Try.prog 27 #[.string raw] w fun e w' => e = .returned (.tuple #[.agg (pkc ⟨n, decide (t = 1), G0, G1, G2⟩), .bool (!spoilt t c0 c1 c2)]) ∧ Below w.heap.size w w' at hread
  generalize spoilt t c0 c1 c2 = sp at hread ⊢
  generalize (⟨n, decide (t = 1), G0, G1, G2⟩ : Pk) = P at hread hmay ⊢
  obtain ⟨res, hres⟩ : ∃ res : Value, Hid ((if !sp && P.may then .tuple #[.agg (pkc P), .int .i64 0] else .tuple #[.agg (pkc Pk.zero), .int .i64 52]) = res) := ⟨_, rfl⟩
  rw [hres.out]
  obtain ⟨w0, hw0⟩ : ∃ w0, w.alloc (.cells (pkc Pk.zero) 35) = w0 := ⟨_, rfl⟩
  have A0 : Blk w.heap.size (pkc Pk.zero) 35 w0 := by rw [← hw0]; exact blk_new w _ _
  have b0 : Below w.heap.size w w0 := by rw [← hw0]; exact below_box _ _
  clear hn hn0 hn3 hn22 hn107 ht ha hb hc k0 k1 k2 hl hsz hcut hok hs hf
  go_enter Try.func14, Try.ntmps14
  go_wp2_with (first | refine alloc_pk rfl rfl ?_)
  refine (hk _).mono ?_
  rintro r w1 ⟨rfl, hb1⟩
  have A1 := A0.below hb1
  have b1 := b0.trans (hb1.mono b0.size)
  clear hk hb1 A0 b0 hw0
  go_wp2_with fail
  refine (hread _).mono ?_
  rintro r w2 ⟨rfl, hb2⟩
  obtain ⟨W2, hW2⟩ : ∃ W2, w2.alloc (.cells (pkc P) 35) = W2 := ⟨_, rfl⟩
  have A2 : Blk w.heap.size (pkc Pk.zero) 35 W2 := by rw [← hW2]; exact (A1.below hb2).alloc _
  have V2 : Blk w2.heap.size (pkc P) 35 W2 := by rw [← hW2]; exact blk_new w2 _ _
  have b2 : Below w.heap.size w W2 := by
    rw [← hW2]; exact (b1.trans (hb2.mono b1.size)).alloc (Nat.le_trans b1.size hb2.size) _
  clear hread hb2 A1 b1
  cases sp
  · cases hm : P.may
    · rw [hm] at hmay
      go_wp2_with (first | refine alloc_pk rfl rfl ?_ | (refine store_new (cells := pkc P) rfl 35 _ _ rfl rfl rfl (by rw [pkc_size]; exact size35) (by rw [pkc_size, pkc_size]) (pkc_one _) ?_; rw [hW2]) | refine load_want (by rfl) 35 _ rfl V2 rfl Try.underlying35 rfl (by rw [pkc_size]; exact size35) ?_)
      refine (hmay _).mono ?_
      rintro r w3 ⟨rfl, hb3⟩
      have A3 := A2.below hb3
      have b3 := b2.trans (hb3.mono b2.size)
      clear hmay hb3 A2 b2 hW2 V2
      go_wp2_with (first | refine build_pk rfl rfl ?_ | refine store_same rfl 35 _ _ rfl A3 rfl rfl (by rw [pkc_size]; exact size35) (pkc_one _) ?_)
      refine bodyPost_ret (ret_pk Try.results14 rfl A3 (pkc_size _) rfl) rfl ⟨by rw [← hres.out, hm]; rfl, b3⟩
    · rw [hm] at hmay
      go_wp2_with (first | refine alloc_pk rfl rfl ?_ | (refine store_new (cells := pkc P) rfl 35 _ _ rfl rfl rfl (by rw [pkc_size]; exact size35) (by rw [pkc_size, pkc_size]) (pkc_one _) ?_; rw [hW2]) | refine load_want (by rfl) 35 _ rfl V2 rfl Try.underlying35 rfl (by rw [pkc_size]; exact size35) ?_)
      refine (hmay _).mono ?_
      rintro r w3 ⟨rfl, hb3⟩
      have A3 := A2.below hb3
      have V3 := V2.below hb3
      have b3 := b2.trans (hb3.mono b2.size)
      clear hmay hb3 A2 b2 hW2 V2
      go_wp2_with (first | refine load_blk rfl 35 _ rfl V3 rfl Try.underlying35 rfl (by rw [pkc_size]; exact size35) ?_ | (refine store_part (off := 0) (cells := pkc P) rfl 35 _ _ rfl A3 rfl rfl (by rw [pkc_size]; exact size35) (by rw [pkc_size, pkc_size]; omega) (pkc_one _) ?_; intro W4 A4 u4))
      rw [pkc_put_all] at A4
      refine bodyPost_ret (ret_pk Try.results14 rfl A4 (pkc_size _) rfl) rfl ⟨by rw [← hres.out, hm]; rfl, b3.trans (u4.below (Nat.le_refl _) b3.size)⟩
  · go_wp2_with (first | refine alloc_pk rfl rfl ?_ | refine build_pk rfl rfl ?_ | (refine store_new (cells := pkc P) rfl 35 _ _ rfl rfl rfl (by rw [pkc_size]; exact size35) (by rw [pkc_size, pkc_size]) (pkc_one _) ?_; rw [hW2]) | refine store_same rfl 35 _ _ rfl A2 rfl rfl (by rw [pkc_size]; exact size35) (pkc_one _) ?_)
    refine bodyPost_ret (ret_pk Try.results14 rfl A2 (pkc_size _) rfl) rfl ⟨by rw [← hres.out]; rfl, b2⟩

end Go.Proofs.Ytmbddjejbmjmfaa
