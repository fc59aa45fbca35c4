/-
  A frame's bytes: what Encode returns, the code's and the document's.
  No condition.
-/
import Derived.Test.YtmbddjejbmjmfaaFrCk
import Derived.Test.YtmbddjejbmjmfaaFrBld
import Derived.Test.YtmbddjejbmjmfaaShelf
namespace Go.Proofs.Ytmbddjejbmjmfaa
set_option maxRecDepth 10000
open Go.RowKit Go.Sort

theorem Bld.below {b : Nat} {l : List UInt8} {w w' : World} (h : Bld b l w) (hb : Below w.heap.size w w') : Bld b l w' := by
  have one : ∀ p, Lib.BuilderAtF 69 5 b b p (Lib.byteCells l) w → Lib.BuilderAtF 69 5 b b p (Lib.byteCells l) w' := by
    intro p hp
    have hlt := hp.lt
    obtain ⟨hB, v, hblk, ⟨hlen, hown⟩, hne⟩ := hp
    refine ⟨hB, v, (hb.block b hlt).trans hblk, ⟨hlen, ?_⟩, hne⟩
    rcases hown with h1 | ⟨g, cap, cur, fz, hv, hbase, hg, hrest⟩
    · exact .inl h1
    · have hgl : g < w.heap.size := by
        rcases Nat.lt_or_ge g w.heap.size with h' | h'
        · exact h'
        · simp [Array.getElem?_eq_none h'] at hg
      exact .inr ⟨g, cap, cur, fz, hv, hbase, (hb.block g hgl).trans hg, hrest⟩
  rcases h with h | h
  · exact .inl (one _ h)
  · exact .inr (one _ h)

theorem En.may_fit {e : En} (h : e.may = true) : ∃ k sv g : Nat, e.k = k ∧ e.sv = sv ∧ e.g = g ∧ k < 256 ∧ sv < 256 ∧ g < 256 ∧ e.se < 256 ^ 2 ∧ e.n < 256 ^ 4 ∧ e.t.size ≤ 16 ∧ e.bytes = Ent.bytes k sv g e.se e.n e.t := by
  obtain ⟨a, b, c, ha, hb, hc, h1, h2, h3, h4, h5, h6⟩ := Ent.may_nats h
  refine ⟨a, b, c, ha, hb, hc, h1, h2, h3, h4, h5, h6, ?_⟩
  unfold En.bytes
  rw [ha, hb, hc]
  rfl

theorem En.bytes_size (e : En) : e.bytes.size = 28 := Ent.bytes_size _ _ _ _ _ _

theorem enEncode_ok (e : En) (hm : e.may = true) (w : World) : Calls Try.prog 70 #[.agg e.vals.toArray] w fun r w' =>
    r = .returned (.tuple #[.string e.bytes, .int .i64 0]) ∧ Below w.heap.size w w' := by
  obtain ⟨a, b, c, ha, hb, hc, h1, h2, h3, h4, h5, h6, hbs⟩ := En.may_fit hm
  rw [hbs]
  have h := encode_ok a b c e.se e.n e.t (by rw [← ha, ← hb, ← hc]; exact hm) h1 h2 h3 h6 w
  rw [← ha, ← hb, ← hc] at h
  exact h
theorem enEncode_no (e : En) (hm : e.may = false) (w : World) : Calls Try.prog 70 #[.agg e.vals.toArray] w fun r w' =>
    r = .returned (.tuple #[.string ⟨#[]⟩, .int .i64 30]) ∧ Below w.heap.size w w' := encode_no e.k e.sv e.g e.se e.n e.t hm w
theorem enBytes (e : En) (hm : e.may = true) (w : World) : Calls Try.prog 61 #[.agg e.vals.toArray] w fun r w' =>
    r = .returned (.string e.bytes) ∧ Below w.heap.size w w' := by
  obtain ⟨a, b, c, ha, hb, hc, h1, h2, h3, h4, h5, h6, hbs⟩ := En.may_fit hm
  rw [hbs]
  have h := rbytes_ok a b c e.se e.n e.t h1 h2 h3 h4 h5 h6 w
  rw [← ha, ← hb, ← hc] at h
  exact h

theorem Fr.upto_length (F : Nat → En) (m : Nat) : (Fr.upto F m).length = 28 * m := by
  induction m with
  | zero => rfl
  | succ m ih =>
    show (Fr.upto F m ++ (F m).bytes.data.toList).length = _
    rw [List.length_append, ih, Array.length_toList]
    have := (F m).bytes_size
    show 28 * m + (F m).bytes.size = _
    omega
theorem Fr.bytes_size (F : Nat → En) : (Fr.bytes F).size = 168 := by
  show (Fr.upto F 6).toArray.size = 168
  rw [List.size_toArray, Fr.upto_length]

set_option maxHeartbeats 2000000 in
theorem frEncode (F : Nat → En) (w : World) : Calls Try.prog 60 #[.agg (frc F)] w fun r w' =>
    r = .returned (if Fr.may F then .tuple #[.string (Fr.bytes F), .int .i64 0] else .tuple #[.string ⟨#[]⟩, .int .i64 30]) ∧ Below w.heap.size w w' := by
  obtain ⟨c, hc⟩ : ∃ c : Value, Hid ((if Fr.may F then .tuple #[.string (Fr.bytes F), .int .i64 0] else .tuple #[.string ⟨#[]⟩, .int .i64 30]) = c) := ⟨_, rfl⟩
  rw [hc.out]
  go_enter Try.func60, Try.ntmps60
  go_wp2_with (refine load_blk rfl 33 _ rfl ((blk_new w (frc F) 33).alloc _) rfl Try.underlying33 rfl (by rw [frc_size]; exact size27) ?_)
  go_loopw [12] (fun i w' => ∃ m : Nat, m ≤ 3 ∧ i = .int .i64 m ∧ Below w.heap.size w w' ∧ Bld (w.heap.size + 1) (Fr.upto F (2 * m)) w' ∧ Hid (∀ x, x < 2 * m → (F x).may = true)) (fun i _ => 3 - (intOf i).toNat)
  case atStart =>
    have hbl := bld_new (w.alloc (.cells (frc F) 33))
    have hz : (w.alloc (.cells (frc F) 33)).heap.size = w.heap.size + 1 := by simp
    rw [hz] at hbl
    exact ⟨0, by omega, rfl, (below_box w (.cells (frc F) 33)).alloc (by simp) _, hbl, fun x hx => by omega⟩
  case round =>
    obtain ⟨m, hm, rfl, hb, hbld, hall⟩ := hrel
    by_cases hlt : m < 3
    · have kix := ix27 F m hlt
      generalize hp : F (2 * m) = p at kix
      generalize hq : F (2 * m + 1) = q at kix
      rename_i wr _ _
      go_wp2_with (first | refine store_new rfl 31 _ _ rfl rfl rfl (by rw [lnc_size]; exact size25) (by rw [lnc_size]; rfl) (lnc_one _ _) ?_ | refine load_blk rfl 31 _ rfl (blk_new _ (lnc p q) 31) rfl Try.underlying31 rfl (by rw [lnc_size]; exact size25) ?_)
      go_loopw [16] (fun i w' => ∃ j : Nat, j ≤ 2 ∧ i = .int .i64 j ∧ Below w.heap.size w w' ∧ Bld (w.heap.size + 1) (Fr.upto F (2 * m + j)) w' ∧ Hid (∀ x, x < 2 * m + j → (F x).may = true)) (fun i _ => 2 - (intOf i).toNat)
      case atStart => exact ⟨0, by omega, rfl, hb.alloc hb.size _, hbld.alloc _, fun x hx => hall.out x (by omega)⟩
      case round =>
        clear hb hall kix hbld
        obtain ⟨j, hj, rfl, hb, hbld, hall⟩ := hrel
        by_cases hjl : j < 2
        · have kj := ix25 F m j hjl
          rw [hp, hq] at kj
          generalize he : F (2 * m + j) = e at kj
          have hs : e.vals.toArray.size = 6 := rfl
          rename_i wi _ _
          go_wp2_with (first | refine store_new rfl 30 _ _ rfl rfl rfl (by rw [hs]; exact size24) (by rw [hs]; rfl) e.one ?_ | refine load_blk rfl 30 _ rfl (blk_new _ e.vals.toArray 30) rfl Try.underlying30 rfl (by rw [hs]; exact size24) ?_)
          cases hmay : e.may
          · refine (enEncode_no e hmay _).mono ?_
            rintro r w2 ⟨rfl, hb2⟩
            have hb3 := (hb.alloc hb.size (.cells e.vals.toArray 30)).trans (hb2.mono (Nat.le_trans hb.size (by simp)))
            clear hb hb2 hbld
            have hno : Fr.may F = false := by
              cases hc : Fr.may F
              · rfl
              · have := (Fr.may_all F).1 hc (2 * m + j) (by omega)
                rw [he, hmay] at this
                cases this
            go_wp2_with fail
            go_ret2
            exact ⟨by rw [← hc.out, hno]; rfl, hb3⟩
          · refine (enEncode_ok e hmay _).mono ?_
            rintro r w2 ⟨rfl, hb2⟩
            have hb3 := (hb.alloc hb.size (.cells e.vals.toArray 30)).trans (hb2.mono (Nat.le_trans hb.size (by simp)))
            have hbld2 := Bld.below (hbld.alloc (.cells e.vals.toArray 30)) hb2
            clear hb hb2 hbld
            have hlen : (Fr.upto F (2 * m + j)).length + e.bytes.size ≤ 140737488355328 := by
              rw [Fr.upto_length, e.bytes_size]; omega
            go_wp2_with fail
            refine (write_ok (w.heap.size + 1) (Fr.upto F (2 * m + j)) e.bytes _ hbld2 hlen).mono ?_
            rintro r w3 ⟨rfl, hbld3, hb4, _⟩
            have hb5 := hb3.trans (hb4.mono (by omega))
            clear hb3 hb4 hbld2 hlen
            go_wp2_with fail
            refine ⟨⟨j + 1, by omega, by go_num, hb5, ?_, fun x hx => ?_⟩, by simp [intOf]; omega⟩
            · have hu : Fr.upto F (2 * m + (j + 1)) = Fr.upto F (2 * m + j) ++ e.bytes.data.toList := by rw [← he]; rfl
              rw [hu]; exact hbld3
            · rcases Nat.lt_or_ge x (2 * m + j) with h | h
              · exact hall.out x h
              · obtain rfl : x = 2 * m + j := by omega
                rw [he]; exact hmay
        · obtain rfl : j = 2 := by omega
          go_wp2_with fail
          refine ⟨⟨m + 1, by omega, by go_num, hb, hbld, fun x hx => hall.out x (by omega)⟩, by simp [intOf]; omega⟩
    · obtain rfl : m = 3 := by omega
      have hyes : Fr.may F = true := (Fr.may_all F).2 fun x hx => hall.out x (by omega)
      rename_i wr _ _
      go_wp2_with fail
      refine (Try.Builder_String_any_k (w.heap.size + 1) (w.heap.size + 1) (Fr.upto F 6) _ hbld (Nat.le_of_lt ?_)).mono ?_
      · rcases hbld with h | h
        · exact h.lt
        · exact h.lt
      rintro r w2 ⟨rfl, _, hb2, _⟩
      have hb3 := hb.trans (hb2.mono (by omega))
      go_wp2_with fail
      go_ret2
      exact ⟨by rw [← hc.out, hyes]; rfl, hb3⟩

theorem upto_text (F : Nat → En) (m : Nat) : (⟨(Fr.upto F m).toArray⟩ : ByteArray) ++ (F m).bytes = ⟨(Fr.upto F (m + 1)).toArray⟩ := by
  apply ByteArray.ext
  apply Array.toList_inj.1
  rw [ByteArray.data_append, Array.toList_append]
  rfl

set_option maxHeartbeats 2000000 in
theorem rfrEncode (F : Nat → En) (w : World) : Calls Try.prog 42 #[.agg (frc F)] w fun r w' =>
    r = .returned (if Fr.may F then .tuple #[.string (Fr.bytes F), .int .i64 0] else .tuple #[.string ⟨#[]⟩, .int .i64 30]) ∧ Below w.heap.size w w' := by
  have hck := fun w => rfrCheck F w
  cases hall : Fr.may F
  · rw [hall] at hck
    go_enter Try.func42, Try.ntmps42
    go_wp2_with (refine load_blk rfl 33 _ rfl (blk_new w (frc F) 33) rfl Try.underlying33 rfl (by rw [frc_size]; exact size27) ?_)
    refine (hck _).mono ?_
    rintro r w1 ⟨rfl, hb1⟩
    go_wp2_with fail
    go_ret2
    exact ⟨rfl, (below_box _ _).trans (hb1.mono (below_box _ _).size)⟩
  · rw [hall] at hck
    have hmay := (Fr.may_all F).1 hall
    clear hall
    rw [if_pos rfl]
    obtain ⟨c, hc⟩ : ∃ c : ByteArray, Hid (Fr.bytes F = c) := ⟨_, rfl⟩
    rw [hc.out]
    go_enter Try.func42, Try.ntmps42
    go_wp2_with (refine load_blk rfl 33 _ rfl (blk_new w (frc F) 33) rfl Try.underlying33 rfl (by rw [frc_size]; exact size27) ?_)
    refine (hck _).mono ?_
    rintro r w1 ⟨rfl, hb1⟩
    have hB1 := (blk_new w (frc F) 33).below hb1
    have hb2 := (below_box w (.cells (frc F) 33)).trans (hb1.mono (below_box _ _).size)
    clear hb1 hck
    go_wp2_with fail
    go_loopw [4, 5] (fun s i w' => ∃ m : Nat, m ≤ 3 ∧ i = .int .i64 m ∧ Below w.heap.size w w' ∧ Blk w.heap.size (frc F) 33 w' ∧ ∃ b : ByteArray, s = .string b ∧ b.size = 56 * m ∧ Hid (b = ⟨(Fr.upto F (2 * m)).toArray⟩)) (fun _ i _ => 3 - (intOf i).toNat)
    case atStart => exact ⟨0, by omega, rfl, hb2, hB1, ⟨#[]⟩, rfl, rfl, rfl⟩
    case round =>
      clear hb2 hB1
      obtain ⟨m, hm, rfl, hb, hB, b, rfl, hbs, hbe⟩ := hrel
      by_cases hlt : m < 3
      · have d1 : (m : Int) < 3 := by omega
        go_wp2_with fail
        go_loopw [4, 6] (fun s i w' => ∃ j : Nat, j ≤ 2 ∧ i = .int .i64 j ∧ Below w.heap.size w w' ∧ Blk w.heap.size (frc F) 33 w' ∧ ∃ b : ByteArray, s = .string b ∧ b.size = 56 * m + 28 * j ∧ Hid (b = ⟨(Fr.upto F (2 * m + j)).toArray⟩)) (fun _ i _ => 2 - (intOf i).toNat)
        case atStart => exact ⟨0, by omega, rfl, hb, hB, b, rfl, by omega, hbe⟩
        case round =>
          clear hb hB hbs hbe
          obtain ⟨j, hj, rfl, hb, hB, b, rfl, hbs, hbe⟩ := hrel
          by_cases hjl : j < 2
          · have hpart := frc_part F (2 * m + j) (m * 12 + j * 6) (by omega) (by omega)
            have hme := hmay (2 * m + j) (by omega)
            have hcat : Hid (b ++ (F (2 * m + j)).bytes = ⟨(Fr.upto F (2 * m + j + 1)).toArray⟩) := by
              unfold Hid; rw [hbe.out]; exact upto_text F (2 * m + j)
            generalize he : F (2 * m + j) = e at hpart hme hcat
            have hes := e.bytes_size
            go_wp2_with (refine load_part rfl 30 _ rfl hB rfl e.vals hpart Try.underlying30 rfl size24 ?_)
            refine (enBytes e hme _).mono ?_
            rintro r w2 ⟨rfl, hb2⟩
            have hB2 := hB.below hb2
            have hb3 := hb.trans (hb2.mono hb.size)
            clear hb hb2 hB hpart
            generalize hbe2 : e.bytes = eb at hcat hes
            go_wp2_with fail
            refine ⟨⟨j + 1, by omega, by go_num, hb3, hB2, b ++ eb, rfl, by rw [ByteArray.size_append]; omega, hcat⟩, by simp [intOf]; omega⟩
          · obtain rfl : j = 2 := by omega
            go_wp2_with fail
            refine ⟨⟨m + 1, by omega, by go_num, hb, hB, b, rfl, by omega, hbe⟩, by simp [intOf]; omega⟩
      · obtain rfl : m = 3 := by omega
        go_wp2_with fail
        go_ret2
        exact ⟨by rw [hbe.out, ← hc.out]; rfl, hb⟩

end Go.Proofs.Ytmbddjejbmjmfaa
