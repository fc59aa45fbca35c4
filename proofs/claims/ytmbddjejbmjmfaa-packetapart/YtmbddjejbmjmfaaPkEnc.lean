/-
  A packet's bytes: what Encode returns, the code's and the document's.
  Condition: the packet's numbers have 32 bits.
-/
import Derived.Test.YtmbddjejbmjmfaaPkWs
import Derived.Test.YtmbddjejbmjmfaaPkCk
import Derived.Test.YtmbddjejbmjmfaaCrcAll
import Derived.Test.YtmbddjejbmjmfaaPackAll
import Derived.Lib.QuietBelow
import Derived.BigQuiet
namespace Go.Proofs.Ytmbddjejbmjmfaa
set_option maxRecDepth 10000
open Go.RowKit Go.Sort

abbrev ba (l : List UInt8) : ByteArray := ⟨l.toArray⟩
theorem ba_append (l m : List UInt8) : ba l ++ ba m = ba (l ++ m) := by
  apply ByteArray.ext
  apply Array.toList_inj.1
  rw [ByteArray.data_append, Array.toList_append]
theorem ba_put (n k : Nat) : Pack.putB n k = ba (Pack.digits k n) := by
  apply ByteArray.ext
  apply Array.toList_inj.1
  rfl
theorem ba_size (l : List UInt8) : (ba l).size = l.length := by show l.toArray.size = _; simp
theorem ba_data (l : List UInt8) : (ba l).data.toList = l := by simp
theorem ba_of (s : ByteArray) : s = ba s.data.toList := by cases s; simp
theorem ba_fr (F : Nat → En) : Fr.bytes F = ba (Fr.bytes F).data.toList := ba_of _

theorem Blk.regrown {B : Nat} {C : Array Value} {T : TypeId} {w : World} (h : Blk B C T w) : ∀ w', (∃ p : Regrown, w' = grow (redrawn w p.d) p.os) → Blk B C T w' := by
  rintro w' ⟨p, rfl⟩
  exact h.below (below_regrown w p.d p.os)

theorem quiet_piece {o : Oper} {a : Act} {C : World → Prop} {K : Act → Prop} {B off : Nat} {D : Array Value} {T : TypeId} (cs : List Value) (ty : TypeId) {x : Operand} (ho : o.op = .load ty x) (hx : a.eval x = .pointer (some ⟨B, off, none⟩)) (hC : ∀ w, C w → Blk B D T w) (hcs : (D.extract off (off + cs.length)).toList = cs)
    {d : TypeDesc} (hu : Try.prog.underlying ty = some d) (hd : d.isRow = true) (hi : (Try.prog.info? ty).map (·.size) = some cs.length)
    (h : K (a.put o.dst (.agg cs.toArray))) : o.quiet Try.prog a C K := by
  refine ⟨_, fun w hw => ?_, h⟩
  unfold Oper.quietAt execOp
  have hr : w.rangeAt B off cs := by have := World.rangeAt_of_block (hC w hw) off cs.length; rw [hcs] at this; exact this
  simp only [ho, hx, run_loadAt_mid w B off ty cs d hr hu hd hi, Sem.run_bind, Sem.run_pure, Result.andThen_ok]
  exact ⟨rfl, rfl⟩

def Pk.sealed (p : Pk) : ByteArray := ba p.body ++ Crc.four (Crc.sum p.body)

theorem rawb_length (n : Nat → Nat) (t : Nat) (a b c : List UInt8) : (rawb n t a b c).length = 133 + a.length + b.length + c.length := by
  simp only [rawb, List.length_append, Pack.digits_length, idb_length, rown_length]; omega
theorem body_length (p : Pk) : p.body.length = 637 := by
  unfold Pk.body; rw [rawb_length, frb_length, frb_length, frb_length]
theorem sealed_size (p : Pk) : p.sealed.size = 641 := by
  unfold Pk.sealed; rw [ByteArray.size_append, ba_size, body_length]; rfl

set_option maxHeartbeats 1000000 in
theorem encode_pk (p : Pk) (hn : ∀ i, p.n i < 4294967296) (w : World) : Calls Try.prog 9 #[.agg (pkc p)] w fun e w' =>
    e = .returned (if p.may then .tuple #[.string p.sealed, .int .i64 0] else .tuple #[.string ⟨#[]⟩, .int .i64 52]) ∧ Below w.heap.size w w' := by
  have hck := fun w => check_pk p w
  obtain ⟨w0, hw0⟩ : ∃ w0, w.alloc (.cells (pkc p) 35) = w0 := ⟨_, rfl⟩
  have B0 : Blk w.heap.size (pkc p) 35 w0 := by rw [← hw0]; exact blk_new w _ _
  have b0 : Below w.heap.size w w0 := by rw [← hw0]; exact below_box _ _
  cases hm : p.may
  · rw [hm] at hck
    go_enter Try.func9, Try.ntmps9
    go_wp2_with (refine load_blk rfl 35 _ rfl B0 rfl Try.underlying35 rfl (by rw [pkc_size]; exact size35) ?_)
    refine (hck _).mono ?_
    rintro r w1 ⟨rfl, hb1⟩
    go_wp2_with fail
    go_ret2
    exact ⟨rfl, b0.trans (hb1.mono b0.size)⟩
  · rw [hm] at hck
    have hm2 := hm
    unfold Pk.may at hm2
    simp only [Bool.and_eq_true] at hm2
    have hlay := fun w => lay_pk p hm2.2.1 hm2.2.2.1 hm2.2.2.2 hn w
    have hseal : ∀ w, Calls Try.prog 21 #[.string ⟨p.body.toArray⟩] w fun e w' => e = .returned (.string p.sealed) ∧ Below w.heap.size w w' := by
      intro w
      have h := seal_any (ba p.body) w (by rw [ba_size, body_length]; omega)
      rw [ba_data] at h
      exact h
    generalize p.sealed = sl at hseal ⊢
    generalize (⟨p.body.toArray⟩ : ByteArray) = bd at hlay hseal
    clear hm hm2 hn
    go_enter Try.func9, Try.ntmps9
    go_wp2_with (refine load_blk rfl 35 _ rfl B0 rfl Try.underlying35 rfl (by rw [pkc_size]; exact size35) ?_)
    refine (hck _).mono ?_
    rintro r w1 ⟨rfl, hb1⟩
    have B1 := B0.below hb1
    have b1 := b0.trans (hb1.mono b0.size)
    clear hb1 B0 b0 hck hw0
    go_wp2_with (refine load_blk rfl 35 _ rfl B1 rfl Try.underlying35 rfl (by rw [pkc_size]; exact size35) ?_)
    refine (hlay _).mono ?_
    rintro r w2 ⟨rfl, hb2⟩
    have b2 := b1.trans (hb2.mono b1.size)
    clear hb2 B1 b1 hlay
    go_wp2_with fail
    refine (hseal _).mono ?_
    rintro r w3 ⟨rfl, hb3⟩
    go_wp2_with fail
    go_ret2
    exact ⟨rfl, b2.trans (hb3.mono b2.size)⟩

theorem rput1 (x : Nat) (hx : x < 4294967296) (w : World) : Calls Try.prog 43 #[.int .u64 (x : Int), .int .i64 1] w fun e w' => e = .returned (.string (ba (Pack.digits 1 x))) ∧ Below w.heap.size w w' := by
  rw [← ba_put]; exact rput_ok x (by omega) 1 (by decide) (by decide) w
theorem rput4 (x : Nat) (hx : x < 4294967296) (w : World) : Calls Try.prog 43 #[.int .u64 (x : Int), .int .i64 4] w fun e w' => e = .returned (.string (ba (Pack.digits 4 x))) ∧ Below w.heap.size w w' := by
  rw [← ba_put]; exact rput_ok x (by omega) 4 (by decide) (by decide) w
theorem wrap_nat (x : Nat) (hx : x < 4294967296) : IntKind.u64.wrap (x : Int) = (x : Int) := by rw [IntKind.wrap_u64]; omega

set_option maxHeartbeats 1000000 in
theorem rid_ok (x y z : Nat) (hx : x < 4294967296) (hy : y < 4294967296) (hz : z < 4294967296) (w : World) :
    Calls Try.prog 44 #[.agg (idc x y z)] w fun e w' => e = .returned (.string (ba (idb x y z))) ∧ Below w.heap.size w w' := by
  have q0 := wrap_nat x hx
  have q1 := wrap_nat y hy
  have q2 := wrap_nat z hz
  have P0 := fun w => rput4 x hx w
  have P1 := fun w => rput1 y hy w
  have P2 := fun w => rput4 z hz w
  have E : Hid (ba (Pack.digits 4 x) ++ ba (Pack.digits 1 y) ++ ba (Pack.digits 4 z) = ba (idb x y z)) := by unfold Hid; rw [ba_append, ba_append]; simp [idb]
  have z0 : (ba (Pack.digits 4 x)).size = 4 := by rw [ba_size, Pack.digits_length]
  have z1 : (ba (Pack.digits 1 y)).size = 1 := by rw [ba_size, Pack.digits_length]
  have z2 : (ba (Pack.digits 4 z)).size = 4 := by rw [ba_size, Pack.digits_length]
  generalize ba (Pack.digits 4 x) = d0 at *
  generalize ba (Pack.digits 1 y) = d1 at *
  generalize ba (Pack.digits 4 z) = d2 at *
  obtain ⟨w0, hw0⟩ : ∃ w0, w.alloc (.cells (idc x y z) 24) = w0 := ⟨_, rfl⟩
  have B0 : Blk w.heap.size (idc x y z) 24 w0 := by rw [← hw0]; exact blk_new w _ _
  have b0 : Below w.heap.size w w0 := by rw [← hw0]; exact below_box _ _
  have c0 := cell_regrown (B0.cell 0 (.int .u32 (x : Int)) rfl)
  have c1 := cell_regrown (B0.cell 1 (.int .u32 (y : Int)) rfl)
  have c2 := cell_regrown (B0.cell 2 (.int .u32 (z : Int)) rfl)
  have p0 : ∀ d os, Calls Try.prog 43 #[.int .u64 (x : Int), .int .i64 4] (grow (redrawn w0 d) os) fun e w'' => e = .returned (.string d0) ∧ ∃ p : Regrown, w'' = grow (redrawn w0 p.d) p.os := fun d os => Calls.regrown_of (P0 _)
  have p1 : ∀ d os, Calls Try.prog 43 #[.int .u64 (y : Int), .int .i64 1] (grow (redrawn w0 d) os) fun e w'' => e = .returned (.string d1) ∧ ∃ p : Regrown, w'' = grow (redrawn w0 p.d) p.os := fun d os => Calls.regrown_of (P1 _)
  have p2 : ∀ d os, Calls Try.prog 43 #[.int .u64 (z : Int), .int .i64 4] (grow (redrawn w0 d) os) fun e w'' => e = .returned (.string d2) ∧ ∃ p : Regrown, w'' = grow (redrawn w0 p.d) p.os := fun d os => Calls.regrown_of (P2 _)
  clear P0 P1 P2 hx hy hz
  go_enter Try.func44, Try.ntmps44
  go_wp2_with fail
  refine wp_region_quiet_below (by kernel_rfl) (by kernel_rfl) ?_
  repeat (go_big_quiet_step (first | with_reducible exact p0 _ _ | with_reducible exact p1 _ _ | with_reducible exact p2 _ _))
  refine wpQuiet_nil ?_
  intro _ hw'
  obtain ⟨⟨dq, osq⟩, hw''⟩ := hw'
  subst hw''
  go_wp2_with fail
  go_ret
  refine ⟨by rw [← E.out]; rfl, b0.trans ((below_regrown w0 dq osq).mono b0.size)⟩

theorem row_get (n : Nat → Nat) (o m : Nat) (hm : m < 8) : (rowc n o)[m]? = some (.int .u32 (n (o + m) : Int)) := by
  obtain rfl | rfl | rfl | rfl | rfl | rfl | rfl | rfl : m = 0 ∨ m = 1 ∨ m = 2 ∨ m = 3 ∨ m = 4 ∨ m = 5 ∨ m = 6 ∨ m = 7 := by omega
  all_goals rfl
theorem rown_get (n : Nat → Nat) (o m : Nat) (hm : m < 8) : (rown n o)[m]? = some (n (o + m)) := by
  obtain rfl | rfl | rfl | rfl | rfl | rfl | rfl | rfl : m = 0 ∨ m = 1 ∨ m = 2 ∨ m = 3 ∨ m = 4 ∨ m = 5 ∨ m = 6 ∨ m = 7 := by omega
  all_goals rfl
theorem rown_take (n : Nat → Nat) (o m : Nat) (hm : m < 8) : nums 4 ((rown n o).take (m + 1)) = nums 4 ((rown n o).take m) ++ Pack.digits 4 (n (o + m)) := by
  have hl : (rown n o).length = 8 := rfl
  have h : m < (rown n o).length := by omega
  rw [List.take_succ_eq_append_getElem h, nums_snoc]
  have := rown_get n o m hm
  rw [List.getElem?_eq_getElem h] at this
  rw [Option.some.inj this]

set_option maxHeartbeats 1000000 in
theorem reight_ok (n : Nat → Nat) (o : Nat) (hn : ∀ i, n i < 4294967296) (w : World) :
    Calls Try.prog 45 #[.agg (rowc n o)] w fun e w' => e = .returned (.string (ba (nums 4 (rown n o)))) ∧ Below w.heap.size w w' := by
  obtain ⟨w0, hw0⟩ : ∃ w0, w.alloc (.cells (rowc n o) 25) = w0 := ⟨_, rfl⟩
  have B0 : Blk w.heap.size (rowc n o) 25 w0 := by rw [← hw0]; exact blk_new w _ _
  have b0 : Below w.heap.size w w0 := by rw [← hw0]; exact below_box _ _
  obtain ⟨r, hr⟩ : ∃ r, Hid (ba (nums 4 (rown n o)) = r) := ⟨_, rfl⟩
  rw [hr.out]
  have kn : Hid (∀ i, n i < 4294967296) := hn
  clear hn
  go_enter Try.func45, Try.ntmps45
  go_wp2_with fail
  go_loopw [3, 4] (fun s i w' => ∃ m : Nat, m ≤ 8 ∧ i = .int .i64 m ∧ Below w.heap.size w w' ∧ Blk w.heap.size (rowc n o) 25 w' ∧ ∃ b : ByteArray, s = .string b ∧ b.size = 4 * m ∧ Hid (b = ba (nums 4 ((rown n o).take m)))) (fun _ i _ => 8 - (intOf i).toNat)
  case atStart => exact ⟨0, by omega, rfl, b0, B0, ⟨#[]⟩, rfl, rfl, rfl⟩
  case round =>
    clear b0 B0
    obtain ⟨m, hm, rfl, hb, hB, b, rfl, hbs, hbe⟩ := hrel
    by_cases hlt : m < 8
    · have d1 : (m : Int) < 8 := by omega
      have hc := hB.cell m _ (row_get n o m hlt)
      have hput := fun w => rput4 (n (o + m)) (kn.out _) w
      have hw := wrap_nat (n (o + m)) (kn.out _)
      have hcat : Hid (b ++ ba (Pack.digits 4 (n (o + m))) = ba (nums 4 ((rown n o).take (m + 1)))) := by
        unfold Hid; rw [hbe.out, ba_append, rown_take n o m hlt]
      have hz : (ba (Pack.digits 4 (n (o + m)))).size = 4 := by rw [ba_size, Pack.digits_length]
      have hx := kn.out (o + m)
      generalize n (o + m) = x at hc hput hw hcat hz hx
      generalize ba (Pack.digits 4 x) = dx at hput hcat hz
      go_wp2_with fail
      refine (hput _).mono ?_
      rintro e w2 ⟨rfl, hb2⟩
      have hB2 := hB.below hb2
      have hb3 := hb.trans (hb2.mono hb.size)
      clear hb hb2 hB hput hc
      go_wp2_with fail
      refine ⟨⟨m + 1, by omega, by go_num, hb3, hB2, b ++ dx, rfl, by rw [ByteArray.size_append]; omega, hcat⟩, by simp [intOf]; omega⟩
    · obtain rfl : m = 8 := by omega
      have hbr : Hid (b = r) := by unfold Hid; rw [hbe.out, ← hr.out]; rfl
      go_wp2_with fail
      go_ret
      have := hbr.out
      subst this
      exact ⟨rfl, hb⟩

theorem body_parts (p : Pk) : ((ba (Pack.digits 1 (p.n 0)) ++ ba (Pack.digits 4 (p.n 1)) ++ ba (idb (p.n 2) (p.n 3) (p.n 4)) ++ ba (nums 4 (rown p.n 5)) ++ ba (nums 4 (rown p.n 13)) ++ ba (idb (p.n 21) (p.n 22) (p.n 23)) ++ ba (nums 4 (rown p.n 24))) ++ (ba (Pack.digits 1 (if p.r then 1 else 0)) ++ ba (Pack.digits 4 (p.n 33)) ++ ba (Pack.digits 4 (p.n 34)) ++ ba ((Fr.bytes p.f0).data.toList) ++ ba ((Fr.bytes p.f1).data.toList))) ++ ba (Pack.digits 1 (p.n 107)) ++ ba (Pack.digits 4 (p.n 108)) ++ ba ((Fr.bytes p.f2).data.toList) = ba p.body := by
  simp only [ba_append, Pk.body, rawb, List.append_assoc]

theorem flag_lit (r : Bool) (w : World) : Calls Try.prog 43 #[.int .u64 (if r then 1 else 0), .int .i64 1] w fun e w' => e = .returned (.string (ba (Pack.digits 1 (if r then 1 else 0)))) ∧ Below w.heap.size w w' := by
  cases r
  · exact rput1 0 (by omega) w
  · exact rput1 1 (by omega) w

set_option maxHeartbeats 4000000 in
theorem body_pk (p : Pk) (hm0 : Fr.may p.f0 = true) (hm1 : Fr.may p.f1 = true) (hm2 : Fr.may p.f2 = true) (hn : ∀ i, p.n i < 4294967296) (w : World) :
    Calls Try.prog 23 #[.agg (pkc p)] w fun e w' => e = .returned (.string (ba p.body)) ∧ Below w.heap.size w w' := by
  have E : Hid (_ = ba p.body) := body_parts p
  have k0 := fun w => rfrEncode p.f0 w
  have k1 := fun w => rfrEncode p.f1 w
  have k2 := fun w => rfrEncode p.f2 w
  rw [hm0, if_pos rfl, ba_fr] at k0
  rw [hm1, if_pos rfl, ba_fr] at k1
  rw [hm2, if_pos rfl, ba_fr] at k2
  clear hm0 hm1 hm2
  have P0 := fun w => rput1 (p.n 0) (hn _) w
  have P1 := fun w => rput4 (p.n 1) (hn _) w
  have P2 := fun w => rid_ok (p.n 2) (p.n 3) (p.n 4) (hn _) (hn _) (hn _) w
  have P3 := fun w => reight_ok p.n 5 hn w
  have P4 := fun w => reight_ok p.n 13 hn w
  have P5 := fun w => rid_ok (p.n 21) (p.n 22) (p.n 23) (hn _) (hn _) (hn _) w
  have P6 := fun w => reight_ok p.n 24 hn w
  have P7 := fun w => flag_lit p.r w
  have P8 := fun w => rput4 (p.n 33) (hn _) w
  have P9 := fun w => rput4 (p.n 34) (hn _) w
  have P12 := fun w => rput1 (p.n 107) (hn _) w
  have P13 := fun w => rput4 (p.n 108) (hn _) w
  have q0 := wrap_nat (p.n 0) (hn _)
  have q1 := wrap_nat (p.n 1) (hn _)
  have q8 := wrap_nat (p.n 33) (hn _)
  have q9 := wrap_nat (p.n 34) (hn _)
  have q12 := wrap_nat (p.n 107) (hn _)
  have q13 := wrap_nat (p.n 108) (hn _)
  have z0 : (ba (Pack.digits 1 (p.n 0))).size = 1 := by rw [ba_size, Pack.digits_length]
  have z1 : (ba (Pack.digits 4 (p.n 1))).size = 4 := by rw [ba_size, Pack.digits_length]
  have z2 : (ba (idb (p.n 2) (p.n 3) (p.n 4))).size = 9 := by rw [ba_size, idb_length]
  have z3 : (ba (nums 4 (rown p.n 5))).size = 32 := by rw [ba_size, rown_length]
  have z4 : (ba (nums 4 (rown p.n 13))).size = 32 := by rw [ba_size, rown_length]
  have z5 : (ba (idb (p.n 21) (p.n 22) (p.n 23))).size = 9 := by rw [ba_size, idb_length]
  have z6 : (ba (nums 4 (rown p.n 24))).size = 32 := by rw [ba_size, rown_length]
  have z7 : (ba (Pack.digits 1 (if p.r then 1 else 0))).size = 1 := by rw [ba_size, Pack.digits_length]
  have z8 : (ba (Pack.digits 4 (p.n 33))).size = 4 := by rw [ba_size, Pack.digits_length]
  have z9 : (ba (Pack.digits 4 (p.n 34))).size = 4 := by rw [ba_size, Pack.digits_length]
  have z10 : (ba ((Fr.bytes p.f0).data.toList)).size = 168 := by rw [ba_size, frb_length]
  have z11 : (ba ((Fr.bytes p.f1).data.toList)).size = 168 := by rw [ba_size, frb_length]
  have z12 : (ba (Pack.digits 1 (p.n 107))).size = 1 := by rw [ba_size, Pack.digits_length]
  have z13 : (ba (Pack.digits 4 (p.n 108))).size = 4 := by rw [ba_size, Pack.digits_length]
  have z14 : (ba ((Fr.bytes p.f2).data.toList)).size = 168 := by rw [ba_size, frb_length]
  generalize ba (Pack.digits 1 (p.n 0)) = d0 at *
  generalize ba (Pack.digits 4 (p.n 1)) = d1 at *
  generalize ba (idb (p.n 2) (p.n 3) (p.n 4)) = d2 at *
  generalize ba (nums 4 (rown p.n 5)) = d3 at *
  generalize ba (nums 4 (rown p.n 13)) = d4 at *
  generalize ba (idb (p.n 21) (p.n 22) (p.n 23)) = d5 at *
  generalize ba (nums 4 (rown p.n 24)) = d6 at *
  generalize ba (Pack.digits 1 (if p.r then 1 else 0)) = d7 at *
  generalize ba (Pack.digits 4 (p.n 33)) = d8 at *
  generalize ba (Pack.digits 4 (p.n 34)) = d9 at *
  generalize ba ((Fr.bytes p.f0).data.toList) = d10 at *
  generalize ba ((Fr.bytes p.f1).data.toList) = d11 at *
  generalize ba (Pack.digits 1 (p.n 107)) = d12 at *
  generalize ba (Pack.digits 4 (p.n 108)) = d13 at *
  generalize ba ((Fr.bytes p.f2).data.toList) = d14 at *
  generalize ba p.body = bd at *
  have h0 : (rowl p.n 5).length = 8 := rfl
  obtain ⟨fl, hfl⟩ : ∃ fl : Int, (if p.r then (1 : Int) else 0) = fl := ⟨_, rfl⟩
  rw [hfl] at P7
  obtain ⟨w0, hw0⟩ : ∃ w0, w.alloc (.cells (pkc p) 35) = w0 := ⟨_, rfl⟩
  have B0 : Blk w.heap.size (pkc p) 35 w0 := by rw [← hw0]; exact blk_new w _ _
  have b0 : Below w.heap.size w w0 := by rw [← hw0]; exact below_box _ _
  have c7 := B0.cell 32 (.bool p.r) rfl
  clear hn
  have go : ∀ (Q : Exit → Act → World → Prop) (a : Act) (W : World), True := fun _ _ _ => trivial
  clear go h0
  cases hrr : p.r
  · rw [hrr] at hfl c7
    have hfl2 : fl = 0 := hfl.symm
    subst hfl2
    clear hfl hrr
    go_enter Try.func23, Try.ntmps23
    go_wp2_with (refine load_part (o := 35) rfl 33 _ rfl B0 rfl (enCells (Fr.list p.f0)) (part_f0 p) Try.underlying33 rfl (by rw [frl_length]; exact size27) ?_)
    refine (k0 _).mono ?_
    rintro e w1 ⟨rfl, hb1⟩
    have B1 := B0.below hb1
    have b1 := b0.trans (hb1.mono b0.size)
    clear hb1 B0 b0 k0
    clear c7
    go_wp2_with (refine load_part (o := 71) rfl 33 _ rfl B1 rfl (enCells (Fr.list p.f1)) (part_f1 p) Try.underlying33 rfl (by rw [frl_length]; exact size27) ?_)
    refine (k1 _).mono ?_
    rintro e w2 ⟨rfl, hb2⟩
    have B2 := B1.below hb2
    have b2 := b1.trans (hb2.mono b1.size)
    clear hb2 B1 b1 k1
    go_wp2_with (refine load_part (o := 109) rfl 33 _ rfl B2 rfl (enCells (Fr.list p.f2)) (part_f2 p) Try.underlying33 rfl (by rw [frl_length]; exact size27) ?_)
    refine (k2 _).mono ?_
    rintro e w3 ⟨rfl, hb3⟩
    have B3 := B2.below hb3
    have b3 := b2.trans (hb3.mono b2.size)
    clear hb3 B2 b2 k2
    have c0 := cell_regrown (B3.cell 0 (.int .u32 (p.n 0 : Int)) rfl)
    have c1 := cell_regrown (B3.cell 1 (.int .u32 (p.n 1 : Int)) rfl)
    have p0 : ∀ d os, Calls Try.prog 43 #[.int .u64 (p.n 0 : Int), .int .i64 1] (grow (redrawn w3 d) os) fun e w'' => e = .returned (.string d0) ∧ ∃ p : Regrown, w'' = grow (redrawn w3 p.d) p.os := fun d os => Calls.regrown_of (P0 _)
    have p1 : ∀ d os, Calls Try.prog 43 #[.int .u64 (p.n 1 : Int), .int .i64 4] (grow (redrawn w3 d) os) fun e w'' => e = .returned (.string d1) ∧ ∃ p : Regrown, w'' = grow (redrawn w3 p.d) p.os := fun d os => Calls.regrown_of (P1 _)
    have p2 : ∀ d os, Calls Try.prog 44 #[.agg (idl (p.n 2) (p.n 3) (p.n 4)).toArray] (grow (redrawn w3 d) os) fun e w'' => e = .returned (.string d2) ∧ ∃ p : Regrown, w'' = grow (redrawn w3 p.d) p.os := fun d os => Calls.regrown_of (P2 _)
    have p3 : ∀ d os, Calls Try.prog 45 #[.agg (rowl p.n 5).toArray] (grow (redrawn w3 d) os) fun e w'' => e = .returned (.string d3) ∧ ∃ p : Regrown, w'' = grow (redrawn w3 p.d) p.os := fun d os => Calls.regrown_of (P3 _)
    have p4 : ∀ d os, Calls Try.prog 45 #[.agg (rowl p.n 13).toArray] (grow (redrawn w3 d) os) fun e w'' => e = .returned (.string d4) ∧ ∃ p : Regrown, w'' = grow (redrawn w3 p.d) p.os := fun d os => Calls.regrown_of (P4 _)
    have p5 : ∀ d os, Calls Try.prog 44 #[.agg (idl (p.n 21) (p.n 22) (p.n 23)).toArray] (grow (redrawn w3 d) os) fun e w'' => e = .returned (.string d5) ∧ ∃ p : Regrown, w'' = grow (redrawn w3 p.d) p.os := fun d os => Calls.regrown_of (P5 _)
    have p6 : ∀ d os, Calls Try.prog 45 #[.agg (rowl p.n 24).toArray] (grow (redrawn w3 d) os) fun e w'' => e = .returned (.string d6) ∧ ∃ p : Regrown, w'' = grow (redrawn w3 p.d) p.os := fun d os => Calls.regrown_of (P6 _)
    have hBr := B3.regrown
    go_wp2_with fail
    refine wp_region_quiet_below (by kernel_rfl) (by kernel_rfl) ?_
    repeat (first | (go_big_quiet_want; refine quiet_piece (off := 2) (idl (p.n 2) (p.n 3) (p.n 4)) 24 rfl rfl hBr (part_id2 p) Try.underlying24 rfl sizeId ?_; simp only [Act.put, List.setIfInBounds_toArray, List.set_cons_zero, List.set_cons_succ]; go_big_quiet_on) | (go_big_quiet_want; refine quiet_piece (off := 5) (rowl p.n 5) 26 rfl rfl hBr (part_r5 p) Try.underlying26 rfl sizeMem ?_; simp only [Act.put, List.setIfInBounds_toArray, List.set_cons_zero, List.set_cons_succ]; go_big_quiet_on) | (go_big_quiet_want; refine quiet_piece (off := 13) (rowl p.n 13) 27 rfl rfl hBr (part_r13 p) Try.underlying27 rfl sizeCnt ?_; simp only [Act.put, List.setIfInBounds_toArray, List.set_cons_zero, List.set_cons_succ]; go_big_quiet_on) | (go_big_quiet_want; refine quiet_piece (off := 21) (idl (p.n 21) (p.n 22) (p.n 23)) 24 rfl rfl hBr (part_id21 p) Try.underlying24 rfl sizeId ?_; simp only [Act.put, List.setIfInBounds_toArray, List.set_cons_zero, List.set_cons_succ]; go_big_quiet_on) | (go_big_quiet_want; refine quiet_piece (off := 24) (rowl p.n 24) 26 rfl rfl hBr (part_r24 p) Try.underlying26 rfl sizeMem ?_; simp only [Act.put, List.setIfInBounds_toArray, List.set_cons_zero, List.set_cons_succ]; go_big_quiet_on) | go_big_quiet_step (first | with_reducible exact p0 _ _ | with_reducible exact p1 _ _ | with_reducible exact p2 _ _ | with_reducible exact p3 _ _ | with_reducible exact p4 _ _ | with_reducible exact p5 _ _ | with_reducible exact p6 _ _))
    refine wpQuiet_nil ?_
    intro w4 hw4
    have B4 := B3.regrown w4 hw4
    have b4 : Below w.heap.size w w4 := by
      obtain ⟨⟨dq, osq⟩, hq⟩ := hw4
      rw [hq]
      exact b3.trans ((below_regrown w3 dq osq).mono b3.size)
    clear hw4 B3 b3 c0 c1 p0 p1 p2 p3 p4 p5 p6 hBr P0 P1 P2 P3 P4 P5 P6
    have c8 := cell_regrown (B4.cell 33 (.int .u32 (p.n 33 : Int)) rfl)
    have c9 := cell_regrown (B4.cell 34 (.int .u32 (p.n 34 : Int)) rfl)
    have p7 : ∀ d os, Calls Try.prog 43 #[.int .u64 0, .int .i64 1] (grow (redrawn w4 d) os) fun e w'' => e = .returned (.string d7) ∧ ∃ p : Regrown, w'' = grow (redrawn w4 p.d) p.os := fun d os => Calls.regrown_of (P7 _)
    have p8 : ∀ d os, Calls Try.prog 43 #[.int .u64 (p.n 33 : Int), .int .i64 4] (grow (redrawn w4 d) os) fun e w'' => e = .returned (.string d8) ∧ ∃ p : Regrown, w'' = grow (redrawn w4 p.d) p.os := fun d os => Calls.regrown_of (P8 _)
    have p9 : ∀ d os, Calls Try.prog 43 #[.int .u64 (p.n 34 : Int), .int .i64 4] (grow (redrawn w4 d) os) fun e w'' => e = .returned (.string d9) ∧ ∃ p : Regrown, w'' = grow (redrawn w4 p.d) p.os := fun d os => Calls.regrown_of (P9 _)
    go_wp2_with fail
    refine wp_region_quiet_below (by kernel_rfl) (by kernel_rfl) ?_
    repeat (go_big_quiet_step (first | with_reducible exact p7 _ _ | with_reducible exact p8 _ _ | with_reducible exact p9 _ _))
    refine wpQuiet_nil ?_
    intro w5 hw5
    have B5 := B4.regrown w5 hw5
    have b5 : Below w.heap.size w w5 := by
      obtain ⟨⟨dq, osq⟩, hq⟩ := hw5
      rw [hq]
      exact b4.trans ((below_regrown w4 dq osq).mono b4.size)
    clear hw5 B4 b4 c8 c9 p7 p8 p9 P7 P8 P9
    have c12 := cell_regrown (B5.cell 107 (.int .u32 (p.n 107 : Int)) rfl)
    have c13 := cell_regrown (B5.cell 108 (.int .u32 (p.n 108 : Int)) rfl)
    have p12 : ∀ d os, Calls Try.prog 43 #[.int .u64 (p.n 107 : Int), .int .i64 1] (grow (redrawn w5 d) os) fun e w'' => e = .returned (.string d12) ∧ ∃ p : Regrown, w'' = grow (redrawn w5 p.d) p.os := fun d os => Calls.regrown_of (P12 _)
    have p13 : ∀ d os, Calls Try.prog 43 #[.int .u64 (p.n 108 : Int), .int .i64 4] (grow (redrawn w5 d) os) fun e w'' => e = .returned (.string d13) ∧ ∃ p : Regrown, w'' = grow (redrawn w5 p.d) p.os := fun d os => Calls.regrown_of (P13 _)
    go_wp2_with fail
    refine wp_region_quiet_below (by kernel_rfl) (by kernel_rfl) ?_
    repeat (go_big_quiet_step (first | with_reducible exact p12 _ _ | with_reducible exact p13 _ _))
    refine wpQuiet_nil ?_
    intro w6 hw6
    have B6 := B5.regrown w6 hw6
    have b6 : Below w.heap.size w w6 := by
      obtain ⟨⟨dq, osq⟩, hq⟩ := hw6
      rw [hq]
      exact b5.trans ((below_regrown w5 dq osq).mono b5.size)
    clear hw6 B5 b5 c12 c13 p12 p13 P12 P13
    go_wp2_with fail
    go_ret
    refine ⟨?_, b6⟩
    have hE := E.out
    subst hE
    rfl
  · rw [hrr] at hfl c7
    have hfl2 : fl = 1 := hfl.symm
    subst hfl2
    clear hfl hrr
    go_enter Try.func23, Try.ntmps23
    go_wp2_with (refine load_part (o := 35) rfl 33 _ rfl B0 rfl (enCells (Fr.list p.f0)) (part_f0 p) Try.underlying33 rfl (by rw [frl_length]; exact size27) ?_)
    refine (k0 _).mono ?_
    rintro e w1 ⟨rfl, hb1⟩
    have B1 := B0.below hb1
    have b1 := b0.trans (hb1.mono b0.size)
    clear hb1 B0 b0 k0
    clear c7
    go_wp2_with (refine load_part (o := 71) rfl 33 _ rfl B1 rfl (enCells (Fr.list p.f1)) (part_f1 p) Try.underlying33 rfl (by rw [frl_length]; exact size27) ?_)
    refine (k1 _).mono ?_
    rintro e w2 ⟨rfl, hb2⟩
    have B2 := B1.below hb2
    have b2 := b1.trans (hb2.mono b1.size)
    clear hb2 B1 b1 k1
    go_wp2_with (refine load_part (o := 109) rfl 33 _ rfl B2 rfl (enCells (Fr.list p.f2)) (part_f2 p) Try.underlying33 rfl (by rw [frl_length]; exact size27) ?_)
    refine (k2 _).mono ?_
    rintro e w3 ⟨rfl, hb3⟩
    have B3 := B2.below hb3
    have b3 := b2.trans (hb3.mono b2.size)
    clear hb3 B2 b2 k2
    have c0 := cell_regrown (B3.cell 0 (.int .u32 (p.n 0 : Int)) rfl)
    have c1 := cell_regrown (B3.cell 1 (.int .u32 (p.n 1 : Int)) rfl)
    have p0 : ∀ d os, Calls Try.prog 43 #[.int .u64 (p.n 0 : Int), .int .i64 1] (grow (redrawn w3 d) os) fun e w'' => e = .returned (.string d0) ∧ ∃ p : Regrown, w'' = grow (redrawn w3 p.d) p.os := fun d os => Calls.regrown_of (P0 _)
    have p1 : ∀ d os, Calls Try.prog 43 #[.int .u64 (p.n 1 : Int), .int .i64 4] (grow (redrawn w3 d) os) fun e w'' => e = .returned (.string d1) ∧ ∃ p : Regrown, w'' = grow (redrawn w3 p.d) p.os := fun d os => Calls.regrown_of (P1 _)
    have p2 : ∀ d os, Calls Try.prog 44 #[.agg (idl (p.n 2) (p.n 3) (p.n 4)).toArray] (grow (redrawn w3 d) os) fun e w'' => e = .returned (.string d2) ∧ ∃ p : Regrown, w'' = grow (redrawn w3 p.d) p.os := fun d os => Calls.regrown_of (P2 _)
    have p3 : ∀ d os, Calls Try.prog 45 #[.agg (rowl p.n 5).toArray] (grow (redrawn w3 d) os) fun e w'' => e = .returned (.string d3) ∧ ∃ p : Regrown, w'' = grow (redrawn w3 p.d) p.os := fun d os => Calls.regrown_of (P3 _)
    have p4 : ∀ d os, Calls Try.prog 45 #[.agg (rowl p.n 13).toArray] (grow (redrawn w3 d) os) fun e w'' => e = .returned (.string d4) ∧ ∃ p : Regrown, w'' = grow (redrawn w3 p.d) p.os := fun d os => Calls.regrown_of (P4 _)
    have p5 : ∀ d os, Calls Try.prog 44 #[.agg (idl (p.n 21) (p.n 22) (p.n 23)).toArray] (grow (redrawn w3 d) os) fun e w'' => e = .returned (.string d5) ∧ ∃ p : Regrown, w'' = grow (redrawn w3 p.d) p.os := fun d os => Calls.regrown_of (P5 _)
    have p6 : ∀ d os, Calls Try.prog 45 #[.agg (rowl p.n 24).toArray] (grow (redrawn w3 d) os) fun e w'' => e = .returned (.string d6) ∧ ∃ p : Regrown, w'' = grow (redrawn w3 p.d) p.os := fun d os => Calls.regrown_of (P6 _)
    have hBr := B3.regrown
    go_wp2_with fail
    refine wp_region_quiet_below (by kernel_rfl) (by kernel_rfl) ?_
    repeat (first | (go_big_quiet_want; refine quiet_piece (off := 2) (idl (p.n 2) (p.n 3) (p.n 4)) 24 rfl rfl hBr (part_id2 p) Try.underlying24 rfl sizeId ?_; simp only [Act.put, List.setIfInBounds_toArray, List.set_cons_zero, List.set_cons_succ]; go_big_quiet_on) | (go_big_quiet_want; refine quiet_piece (off := 5) (rowl p.n 5) 26 rfl rfl hBr (part_r5 p) Try.underlying26 rfl sizeMem ?_; simp only [Act.put, List.setIfInBounds_toArray, List.set_cons_zero, List.set_cons_succ]; go_big_quiet_on) | (go_big_quiet_want; refine quiet_piece (off := 13) (rowl p.n 13) 27 rfl rfl hBr (part_r13 p) Try.underlying27 rfl sizeCnt ?_; simp only [Act.put, List.setIfInBounds_toArray, List.set_cons_zero, List.set_cons_succ]; go_big_quiet_on) | (go_big_quiet_want; refine quiet_piece (off := 21) (idl (p.n 21) (p.n 22) (p.n 23)) 24 rfl rfl hBr (part_id21 p) Try.underlying24 rfl sizeId ?_; simp only [Act.put, List.setIfInBounds_toArray, List.set_cons_zero, List.set_cons_succ]; go_big_quiet_on) | (go_big_quiet_want; refine quiet_piece (off := 24) (rowl p.n 24) 26 rfl rfl hBr (part_r24 p) Try.underlying26 rfl sizeMem ?_; simp only [Act.put, List.setIfInBounds_toArray, List.set_cons_zero, List.set_cons_succ]; go_big_quiet_on) | go_big_quiet_step (first | with_reducible exact p0 _ _ | with_reducible exact p1 _ _ | with_reducible exact p2 _ _ | with_reducible exact p3 _ _ | with_reducible exact p4 _ _ | with_reducible exact p5 _ _ | with_reducible exact p6 _ _))
    refine wpQuiet_nil ?_
    intro w4 hw4
    have B4 := B3.regrown w4 hw4
    have b4 : Below w.heap.size w w4 := by
      obtain ⟨⟨dq, osq⟩, hq⟩ := hw4
      rw [hq]
      exact b3.trans ((below_regrown w3 dq osq).mono b3.size)
    clear hw4 B3 b3 c0 c1 p0 p1 p2 p3 p4 p5 p6 hBr P0 P1 P2 P3 P4 P5 P6
    have c8 := cell_regrown (B4.cell 33 (.int .u32 (p.n 33 : Int)) rfl)
    have c9 := cell_regrown (B4.cell 34 (.int .u32 (p.n 34 : Int)) rfl)
    have p7 : ∀ d os, Calls Try.prog 43 #[.int .u64 1, .int .i64 1] (grow (redrawn w4 d) os) fun e w'' => e = .returned (.string d7) ∧ ∃ p : Regrown, w'' = grow (redrawn w4 p.d) p.os := fun d os => Calls.regrown_of (P7 _)
    have p8 : ∀ d os, Calls Try.prog 43 #[.int .u64 (p.n 33 : Int), .int .i64 4] (grow (redrawn w4 d) os) fun e w'' => e = .returned (.string d8) ∧ ∃ p : Regrown, w'' = grow (redrawn w4 p.d) p.os := fun d os => Calls.regrown_of (P8 _)
    have p9 : ∀ d os, Calls Try.prog 43 #[.int .u64 (p.n 34 : Int), .int .i64 4] (grow (redrawn w4 d) os) fun e w'' => e = .returned (.string d9) ∧ ∃ p : Regrown, w'' = grow (redrawn w4 p.d) p.os := fun d os => Calls.regrown_of (P9 _)
    go_wp2_with fail
    refine wp_region_quiet_below (by kernel_rfl) (by kernel_rfl) ?_
    repeat (go_big_quiet_step (first | with_reducible exact p7 _ _ | with_reducible exact p8 _ _ | with_reducible exact p9 _ _))
    refine wpQuiet_nil ?_
    intro w5 hw5
    have B5 := B4.regrown w5 hw5
    have b5 : Below w.heap.size w w5 := by
      obtain ⟨⟨dq, osq⟩, hq⟩ := hw5
      rw [hq]
      exact b4.trans ((below_regrown w4 dq osq).mono b4.size)
    clear hw5 B4 b4 c8 c9 p7 p8 p9 P7 P8 P9
    have c12 := cell_regrown (B5.cell 107 (.int .u32 (p.n 107 : Int)) rfl)
    have c13 := cell_regrown (B5.cell 108 (.int .u32 (p.n 108 : Int)) rfl)
    have p12 : ∀ d os, Calls Try.prog 43 #[.int .u64 (p.n 107 : Int), .int .i64 1] (grow (redrawn w5 d) os) fun e w'' => e = .returned (.string d12) ∧ ∃ p : Regrown, w'' = grow (redrawn w5 p.d) p.os := fun d os => Calls.regrown_of (P12 _)
    have p13 : ∀ d os, Calls Try.prog 43 #[.int .u64 (p.n 108 : Int), .int .i64 4] (grow (redrawn w5 d) os) fun e w'' => e = .returned (.string d13) ∧ ∃ p : Regrown, w'' = grow (redrawn w5 p.d) p.os := fun d os => Calls.regrown_of (P13 _)
    go_wp2_with fail
    refine wp_region_quiet_below (by kernel_rfl) (by kernel_rfl) ?_
    repeat (go_big_quiet_step (first | with_reducible exact p12 _ _ | with_reducible exact p13 _ _))
    refine wpQuiet_nil ?_
    intro w6 hw6
    have B6 := B5.regrown w6 hw6
    have b6 : Below w.heap.size w w6 := by
      obtain ⟨⟨dq, osq⟩, hq⟩ := hw6
      rw [hq]
      exact b5.trans ((below_regrown w5 dq osq).mono b5.size)
    clear hw6 B5 b5 c12 c13 p12 p13 P12 P13
    go_wp2_with fail
    go_ret
    refine ⟨?_, b6⟩
    have hE := E.out
    subst hE
    rfl

set_option maxHeartbeats 1000000 in
theorem rencode_pk (p : Pk) (hn : ∀ i, p.n i < 4294967296) (w : World) : Calls Try.prog 10 #[.agg (pkc p)] w fun e w' =>
    e = .returned (if p.may then .tuple #[.string p.sealed, .int .i64 0] else .tuple #[.string ⟨#[]⟩, .int .i64 52]) ∧ Below w.heap.size w w' := by
  have hck := fun w => rcheck_pk p w
  obtain ⟨w0, hw0⟩ : ∃ w0, w.alloc (.cells (pkc p) 35) = w0 := ⟨_, rfl⟩
  have B0 : Blk w.heap.size (pkc p) 35 w0 := by rw [← hw0]; exact blk_new w _ _
  have b0 : Below w.heap.size w w0 := by rw [← hw0]; exact below_box _ _
  cases hm : p.may
  · rw [hm] at hck
    go_enter Try.func10, Try.ntmps10
    go_wp2_with (refine load_blk rfl 35 _ rfl B0 rfl Try.underlying35 rfl (by rw [pkc_size]; exact size35) ?_)
    refine (hck _).mono ?_
    rintro r w1 ⟨rfl, hb1⟩
    go_wp2_with fail
    go_ret2
    exact ⟨rfl, b0.trans (hb1.mono b0.size)⟩
  · rw [hm] at hck
    have hm2 := hm
    unfold Pk.may at hm2
    simp only [Bool.and_eq_true] at hm2
    have hlay := fun w => body_pk p hm2.2.1 hm2.2.2.1 hm2.2.2.2 hn w
    have hseal : ∀ w, Calls Try.prog 16 #[.string (ba p.body)] w fun e w' => e = .returned (.string p.sealed) ∧ Below w.heap.size w w' := by
      intro w
      have h := rseal_any (ba p.body) w (by rw [ba_size, body_length]; omega)
      rw [ba_data] at h
      exact h
    generalize p.sealed = sl at hseal ⊢
    generalize ba p.body = bd at hlay hseal
    clear hm hm2 hn
    go_enter Try.func10, Try.ntmps10
    go_wp2_with (refine load_blk rfl 35 _ rfl B0 rfl Try.underlying35 rfl (by rw [pkc_size]; exact size35) ?_)
    refine (hck _).mono ?_
    rintro r w1 ⟨rfl, hb1⟩
    have B1 := B0.below hb1
    have b1 := b0.trans (hb1.mono b0.size)
    clear hb1 B0 b0 hck hw0
    go_wp2_with (refine load_blk rfl 35 _ rfl B1 rfl Try.underlying35 rfl (by rw [pkc_size]; exact size35) ?_)
    refine (hlay _).mono ?_
    rintro r w2 ⟨rfl, hb2⟩
    have b2 := b1.trans (hb2.mono b1.size)
    clear hb2 B1 b1 hlay
    go_wp2_with fail
    refine (hseal _).mono ?_
    rintro r w3 ⟨rfl, hb3⟩
    go_wp2_with fail
    go_ret2
    exact ⟨rfl, b2.trans (hb3.mono b2.size)⟩

end Go.Proofs.Ytmbddjejbmjmfaa
