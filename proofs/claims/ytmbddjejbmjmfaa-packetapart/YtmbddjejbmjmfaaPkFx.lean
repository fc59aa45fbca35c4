/-
  A packet is the same as itself; counts held against counts; the calls whose answers the document fixes answer so: fixed returns true.
  No condition.
-/
import Derived.Test.YtmbddjejbmjmfaaPkBk
namespace Go.Proofs.Ytmbddjejbmjmfaa
set_option maxRecDepth 10000
open Go.RowKit Go.Sort

set_option maxHeartbeats 1000000 in
theorem same_packet (d : Nat) (p : Pk) (w : World) : (Op.equalIn (d + 5) 35 (.agg (pkc p)) (.agg (pkc p))).run Try.prog w = .ok true w := by
  have hu : Try.prog.underlying 35 = some (.struct (Try.prog.fieldsOf 35)) := by kernel_rfl
  rw [run_equalIn_struct w (d + 4) 35 (pkc p) (pkc p) hu (by kernel_rfl)]
  apply fields_same
  have hf : (Try.prog.fieldsOf 35).toList.map (fun f => (f.name, f.type, f.offset)) = [("From", 22, 0), ("Inc", 22, 1), ("Conf", 24, 2), ("Members", 26, 5), ("Count", 27, 13), ("Promise", 24, 21), ("Wanted", 26, 24), ("Ready", 4, 32), ("Epoch", 22, 33), ("Round", 22, 34), ("Newest", 33, 35), ("Older", 33, 71), ("RelayOf", 22, 107), ("RelayRound", 22, 108), ("Relay", 33, 109)] := by kernel_rfl
  intro f hmem
  have hm : (f.name, f.type, f.offset) ∈ (Try.prog.fieldsOf 35).toList.map (fun f => (f.name, f.type, f.offset)) := List.mem_map_of_mem (f := fun f : Field => (f.name, f.type, f.offset)) hmem
  rw [hf] at hm
  generalize f.name = fn at hm ⊢
  generalize f.type = ft at hm ⊢
  generalize f.offset = fo at hm ⊢
  simp only [List.mem_cons, List.not_mem_nil, or_false, Prod.mk.injEq] at hm
  rcases hm with ⟨rfl, rfl, rfl⟩ | ⟨rfl, rfl, rfl⟩ | ⟨rfl, rfl, rfl⟩ | ⟨rfl, rfl, rfl⟩ | ⟨rfl, rfl, rfl⟩ | ⟨rfl, rfl, rfl⟩ | ⟨rfl, rfl, rfl⟩ | ⟨rfl, rfl, rfl⟩ | ⟨rfl, rfl, rfl⟩ | ⟨rfl, rfl, rfl⟩ | ⟨rfl, rfl, rfl⟩ | ⟨rfl, rfl, rfl⟩ | ⟨rfl, rfl, rfl⟩ | ⟨rfl, rfl, rfl⟩ | ⟨rfl, rfl, rfl⟩
  · exact ⟨by decide, .int .u32 (p.n 0 : Int), by kernel_rfl, same_int _ _ w⟩
  · exact ⟨by decide, .int .u32 (p.n 1 : Int), by kernel_rfl, same_int _ _ w⟩
  · exact ⟨by decide, .agg (idc (p.n 2) (p.n 3) (p.n 4)), by kernel_rfl, same_id _ _ _ _ w⟩
  · exact ⟨by decide, .agg (rowc p.n 5), by kernel_rfl, same_row _ _ Try.underlying26 _ _ w⟩
  · exact ⟨by decide, .agg (rowc p.n 13), by kernel_rfl, same_row _ _ Try.underlying27 _ _ w⟩
  · exact ⟨by decide, .agg (idc (p.n 21) (p.n 22) (p.n 23)), by kernel_rfl, same_id _ _ _ _ w⟩
  · exact ⟨by decide, .agg (rowc p.n 24), by kernel_rfl, same_row _ _ Try.underlying26 _ _ w⟩
  · exact ⟨by decide, .bool p.r, by kernel_rfl, same_bool _ _ w⟩
  · exact ⟨by decide, .int .u32 (p.n 33 : Int), by kernel_rfl, same_int _ _ w⟩
  · exact ⟨by decide, .int .u32 (p.n 34 : Int), by kernel_rfl, same_int _ _ w⟩
  · exact ⟨by decide, .agg (frc p.f0), by kernel_rfl, same_frame d _ w⟩
  · exact ⟨by decide, .agg (frc p.f1), by kernel_rfl, same_frame d _ w⟩
  · exact ⟨by decide, .int .u32 (p.n 107 : Int), by kernel_rfl, same_int _ _ w⟩
  · exact ⟨by decide, .int .u32 (p.n 108 : Int), by kernel_rfl, same_int _ _ w⟩
  · exact ⟨by decide, .agg (frc p.f2), by kernel_rfl, same_frame d _ w⟩

theorem eql_packet (p : Pk) (w : World) : (binOp .eql 35 (.agg (pkc p)) (.agg (pkc p))).run Try.prog w = .ok (.bool true) w := by
  rw [run_eql_struct, same_packet 9995]; rfl
theorem neq_packet (p : Pk) (w : World) : (binOp .neq 35 (.agg (pkc p)) (.agg (pkc p))).run Try.prog w = .ok (.bool false) w := by
  rw [run_neq_struct, same_packet 9995]; rfl

theorem build_wpk {ops : Array Oper} {rest : List Oper} {o : Oper} {a : Act} {w : World} {Q : Exit → Act → World → Prop} (hw : Region.wanted o (yielded ops a.tmps) = true) (ho : o.op = .build 35 #[])
    (h : wpList Try.prog ops Q rest (a.put o.dst (.agg (pkc Pk.zero))) w) : wpList Try.prog ops Q (o :: rest) a w :=
  wpList_step fun _ hK => by
    rw [if_pos hw]
    refine wp_build 35 #[] ho (by simp [pk_built]) ?_
    simpa [pk_built] using hK _ _ h

theorem items_ints (d : Nat) (xs ys : Array Value) (x y : Nat → Nat) (w : World) : ∀ is : List Nat, (∀ i ∈ is, (Go.part 22 xs (i * 1)).run Try.prog w = .ok (.int .u32 (x i : Int)) w ∧ (Go.part 22 ys (i * 1)).run Try.prog w = .ok (.int .u32 (y i : Int)) w) → (Op.eqItems (d + 1) 22 1 xs ys is).run Try.prog w = .ok (is.all fun i => decide (x i = y i)) w
  | [], _ => rfl
  | i :: is, h => by
    obtain ⟨h1, h2⟩ := h i (by simp)
    have ih := items_ints d xs ys x y w is (fun j hj => h j (by simp [hj]))
    have he : (Op.equalIn (d + 1) 22 (.int .u32 (x i : Int)) (.int .u32 (y i : Int))).run Try.prog w = .ok (decide (x i = y i)) w := by
      have hb : ((x i : Int) == (y i : Int)) = decide (x i = y i) := by rw [Bool.eq_iff_iff, beq_iff_eq, decide_eq_true_iff]; omega
      simp [go_sem, hb]
    simp only [Op.eqItems, Sem.run_bind, h1, h2, he, Result.andThen_ok]
    cases hd : decide (x i = y i)
    · simp [hd]
    · simpa [hd] using ih

def rowSame (x : Nat → Nat) (a : Nat) (y : Nat → Nat) (b : Nat) : Bool := (List.range 8).all fun i => decide (x (a + i) = y (b + i))

theorem eql_counts (x : Nat → Nat) (a : Nat) (y : Nat → Nat) (b : Nat) (w : World) : (binOp .eql 27 (.agg (rowc x a)) (.agg (rowc y b))).run Try.prog w = .ok (.bool (rowSame x a y b)) w := by
  obtain ⟨i, hi⟩ : ∃ i, Try.prog.info? 22 = some i := Option.isSome_iff_exists.1 (by kernel_rfl)
  have hc : Try.prog.cellsOf 22 = 1 := by kernel_rfl
  rw [run_eql_struct, show (10000 : Nat) = 9998 + 1 + 1 from rfl, run_equalIn_array w (9998 + 1) (rowc x a) (rowc y b) Try.underlying27 hi, hc,
    items_ints 9998 (rowc x a) (rowc y b) (fun i => x (a + i)) (fun i => y (b + i)) w]
  · rfl
  · intro i hi
    have hi8 := List.mem_range.1 hi
    obtain rfl | rfl | rfl | rfl | rfl | rfl | rfl | rfl : i = 0 ∨ i = 1 ∨ i = 2 ∨ i = 3 ∨ i = 4 ∨ i = 5 ∨ i = 6 ∨ i = 7 := by omega
    all_goals exact ⟨by kernel_rfl, by kernel_rfl⟩

set_option maxHeartbeats 1000000 in
theorem turn_zero (s : ByteArray) (m : BitVec 32) (w : World) (h4 : 4 ≤ s.size) (hs : s.size ≤ 100000) :
    Calls Try.prog 17 #[.string s, .int .i64 0, .int .u32 (m.toNat : Int)] w fun e w' => ∃ f, e = .returned (.string (textOf s.size f)) ∧ Outside s 0 f ∧ f 0 = at0 s 0 ^^^ Crc.byteAt m 0 ∧ Below w.heap.size w w' := by
  have hcv := Lib.run_convert_string_bytes (P := Try.prog) w 9 66 5 s Try.underlying9 Try.underlying66 Try.underlying5
  go_enter Try.func17, Try.ntmps17
  go_wp2_with fail
  refine (rfour_any _ _).mono ?_
  rintro e w1 ⟨rfl, hb1⟩
  clear hcv
  have hh1 : Hid (Held w.heap.size s.size (at0 s) w1 ∧ Below w.heap.size w w1) := by
    have h1 := (held_bytes w 5 s).below hb1
    have h2 := (below_bytes w 5 s).trans (hb1.mono (below_bytes w 5 s).size)
    exact ⟨h1, h2⟩
  clear hb1
  have h4' : (Crc.four m).size = 4 := rfl
  go_wp2
  go_loopw [9] (fun i w' => ∃ k : Nat, k ≤ 4 ∧ i = .int .i64 k ∧ ∃ f, Hid (Held w.heap.size s.size f w' ∧ Below w.heap.size w w' ∧ Outside s 0 f ∧ (k = 0 → f 0 = at0 s 0) ∧ (0 < k → f 0 = at0 s 0 ^^^ Crc.byteAt m 0))) (fun i _ => 4 - (intOf i).toNat)
  case atStart => exact ⟨0, by omega, rfl, at0 s, hh1.out.1, hh1.out.2, fun _ _ => rfl, fun _ => rfl, fun h => by omega⟩
  case round =>
    clear hh1
    obtain ⟨k, hk, rfl, f, hf⟩ := hrel
    by_cases hlt : k < 4
    · have hq : k < s.size := by omega
      have hc := (hf.out.1.2 k hq).1
      have hz := (hf.out.1.2 k hq).2
      have hq' : (0 : Int) < (s.size : Int) - (k : Int) := by omega
      go_wp2
      go_region
      go_wp2
      rw [xor8]
      refine ⟨⟨k + 1, by omega, by go_num, _, (hf.out.1.set hq _).drew, (hf.out.2.1.setCell (Nat.le_refl _) _).drew, ?_, fun h => by omega, fun _ => ?_⟩, by simp [intOf]; omega⟩
      · have := hf.out.2.2.1.set (p := 0) hlt (f k ^^^ (Crc.four m)[k])
        rw [Nat.zero_add] at this
        exact this
      · obtain rfl | hk0 : k = 0 ∨ 0 < k := by omega
        · rw [hf.out.2.2.2.1 rfl]; rfl
        · have hne : (0 : Nat) ≠ k := by omega
          simp only [if_neg hne]
          exact hf.out.2.2.2.2 hk0
    · have kc := hf.out.1.conv (P := Try.prog) (cap := grownCap w s.size 0 5) 66 5 9 Try.underlying66 Try.underlying5 Try.underlying9
      go_wp2
      go_ret
      exact ⟨f, rfl, hf.out.2.2.1, hf.out.2.2.2.2 (by omega), hf.out.2.1⟩

theorem zero_may : Pk.zero.may = true := by kernel_rfl
theorem zero_fits : ∀ i, Pk.zero.n i < 4294967296 := fun _ => by show 0 < _; omega
theorem zero_front : Pk.zero.sealed.extract 0 8 = ⟨#[0, 0, 0, 0, 0, 0, 0, 0]⟩ := by
  apply Pack.ext_list
  rw [Pack.extract_list, sealed_list]
  rfl

theorem flipped (s : ByteArray) (h4 : 4 ≤ s.size) (hok : Crc.okL s.data.toList = true) (f : Nat → UInt8) (ho : Outside s 0 f) (h0 : f 0 = at0 s 0 ^^^ 1) : Crc.okL (textOf s.size f).data.toList = false := by
  have hb := burst s 0 f h4 hok ho
  cases h : Crc.okL (textOf s.size f).data.toList
  · rfl
  · rw [h] at hb
    have he : (textOf s.size f).toList = s.toList := by simpa using hb
    rw [ByteArray.toList_eq, ByteArray.toList_eq] at he
    have h1 : at0 (textOf s.size f) 0 = at0 s 0 := by unfold at0; rw [he]
    have h2 : at0 (textOf s.size f) 0 = f 0 := by
      unfold at0
      rw [textOf_data]
      have : 0 < s.size := by omega
      simp [List.getD, this]
    rw [h2, h0] at h1
    generalize at0 s 0 = x at h1
    exfalso
    have h3 : x ^^^ (x ^^^ 1) = x ^^^ x := by rw [h1]
    rw [← UInt8.xor_assoc, UInt8.xor_self, UInt8.zero_xor] at h3
    exact absurd h3 (by decide)

set_option maxHeartbeats 2000000 in
theorem fixed_any (w : World) : Calls Try.prog 11 #[] w fun r w' => r = .returned (.bool true) ∧ Below w.heap.size w w' := by
  have henc := fun w => encode_pk Pk.zero zero_fits w
  rw [zero_may, if_pos rfl] at henc
  have hdec := fun w => decode_sealed Pk.zero zero_may zero_fits w
  have hz := sealed_size Pk.zero
  have hfr := zero_front
  have HK : Hid (Crc.okL Pk.zero.sealed.data.toList = true) := sealed_okL Pk.zero
  generalize Pk.zero.sealed = s at henc hdec hz hfr HK
  have hlong := fun w => dec_long ⟨#[]⟩ (by rfl) w
  have hturn : ∀ w, Calls Try.prog 17 #[.string s, .int .i64 0, .int .u32 1] w fun e w' => ∃ f, e = .returned (.string (textOf s.size f)) ∧ Outside s 0 f ∧ f 0 = at0 s 0 ^^^ 1 ∧ Below w.heap.size w w' := fun w => turn_zero s 1#32 w (by omega) (by omega)
  have hz1 : ((s.size : Int) == 641) = true := by rw [hz]; rfl
  have hsl : ∀ w : World, (Instr.slice 9 (.string s) none (some (.int .i64 8)) none).run Try.prog w = .ok (.string ⟨#[0, 0, 0, 0, 0, 0, 0, 0]⟩) w := by
    intro w
    rw [← hfr]
    simp [go_sem, hz]
  have kp := eql_packet Pk.zero
  have HZ : Hid (s.size = 641) := hz
  clear hfr hz
  go_enter Try.func11, Try.ntmps11
  go_wp2_with (first | refine build_pk rfl rfl ?_)
  refine (henc _).mono ?_
  rintro r w1 ⟨rfl, hb1⟩
  clear henc
  go_wp2_with fail
  refine (hdec _).mono ?_
  rintro r w2 ⟨rfl, hb2⟩
  have b2 := hb1.trans (hb2.mono hb1.size)
  obtain ⟨W2, hW2⟩ : ∃ W, w2.alloc (.cells (pkc Pk.zero) 35) = W := ⟨_, rfl⟩
  have P2 : Blk w2.heap.size (pkc Pk.zero) 35 W2 := by rw [← hW2]; exact blk_new w2 _ _
  have c2 : Below w.heap.size w W2 := by rw [← hW2]; exact b2.alloc b2.size _
  clear hdec hb1 hb2 b2
  go_wp2_with (first | refine alloc_pk rfl rfl ?_ | (refine store_new (cells := pkc Pk.zero) rfl 35 _ _ rfl rfl rfl (by rw [pkc_size]; exact size35) rfl (pkc_one _) ?_; rw [hW2]))
  refine (hlong _).mono ?_
  rintro r w3 ⟨rfl, hb3⟩
  obtain ⟨W3, hW3⟩ : ∃ W, w3.alloc (.cells (pkc Pk.zero) 35) = W := ⟨_, rfl⟩
  have P3 : Blk w2.heap.size (pkc Pk.zero) 35 W3 := by rw [← hW3]; exact (P2.below hb3).alloc _
  have c3 : Below w.heap.size w W3 := by rw [← hW3]; exact (c2.trans (hb3.mono c2.size)).alloc (Nat.le_trans c2.size hb3.size) _
  clear hlong hb3 P2 c2 hW2
  go_wp2_with (first | refine alloc_pk rfl rfl ?_ | (refine store_new (cells := pkc Pk.zero) rfl 35 _ _ rfl rfl rfl (by rw [pkc_size]; exact size35) rfl (pkc_one _) ?_; rw [hW3]))
  refine (hturn _).mono ?_
  rintro r w4 ⟨f, rfl, ho, hf0, hb4⟩
  have P4 := P3.below hb4
  have c4 := c3.trans (hb4.mono c3.size)
  have hbad := flipped s (by rw [HZ.out]; decide) HK.out f ho hf0
  have hsum := fun w => dec_sum (textOf s.size f) (by rw [textOf_size]; exact HZ.out) hbad w
  generalize textOf s.size f = u at hsum
  clear hturn hb4 P3 c3 hW3 ho hf0 hbad
  go_wp2_with fail
  refine (hsum _).mono ?_
  rintro r w5 ⟨rfl, hb5⟩
  obtain ⟨W5, hW5⟩ : ∃ W, w5.alloc (.cells (pkc Pk.zero) 35) = W := ⟨_, rfl⟩
  have P5 : Blk w2.heap.size (pkc Pk.zero) 35 W5 := by rw [← hW5]; exact (P4.below hb5).alloc _
  have c5 : Below w.heap.size w W5 := by rw [← hW5]; exact (c4.trans (hb5.mono c4.size)).alloc (Nat.le_trans c4.size hb5.size) _
  clear hsum hb5 P4 c4
  go_wp2_with (first | refine alloc_pk rfl rfl ?_ | (refine store_new (cells := pkc Pk.zero) rfl 35 _ _ rfl rfl rfl (by rw [pkc_size]; exact size35) rfl (pkc_one _) ?_; rw [hW5]) | refine load_want (by rfl) 35 _ rfl P5 rfl Try.underlying35 rfl (by rw [pkc_size]; exact size35) ?_ | refine build_wpk (by rfl) rfl ?_)
  go_ret
  exact ⟨rfl, c5⟩

end Go.Proofs.Ytmbddjejbmjmfaa
