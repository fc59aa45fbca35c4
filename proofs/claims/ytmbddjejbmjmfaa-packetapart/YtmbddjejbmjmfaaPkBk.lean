/-
  What follows of a packet's bytes: a packet that may be is decoded as it was, what is decoded has these bytes; a packet is the same as itself; counts held against counts.
  No condition.
-/
import Derived.Test.YtmbddjejbmjmfaaPkDed
import Derived.Test.YtmbddjejbmjmfaaPkPs
import Derived.Test.YtmbddjejbmjmfaaFrEq
namespace Go.Proofs.Ytmbddjejbmjmfaa
set_option maxRecDepth 10000
open Go.RowKit Go.Sort

theorem Pk.may_parts {p : Pk} (h : p.may = true) : p.n 0 < 8 ∧ p.n 107 < 8 ∧ p.n 3 < 8 ∧ p.n 22 < 8 ∧ Fr.may p.f0 = true ∧ Fr.may p.f1 = true ∧ Fr.may p.f2 = true := by
  unfold Pk.may at h
  simp only [Bool.and_eq_true, decide_eq_true_eq] at h
  exact ⟨h.1.1, h.1.2.1, h.1.2.2.1, h.1.2.2.2, h.2.1, h.2.2.1, h.2.2.2⟩

theorem decode_sealed (p : Pk) (hm : p.may = true) (hn : ∀ i, p.n i < 4294967296) (w : World) : Calls Try.prog 14 #[.string p.sealed] w fun r w' =>
    r = .returned (.tuple #[.agg (pkc p), .int .i64 0]) ∧ Below w.heap.size w w' := by
  obtain ⟨h0, h107, h3, h22, m0, m1, m2⟩ := Pk.may_parts hm
  have hd0 := fun w => decode_bytes p.f0 m0 w
  have hd1 := fun w => decode_bytes p.f1 m1 w
  have hd2 := fun w => decode_bytes p.f2 m2 w
  rw [ba_fr] at hd0 hd1 hd2
  have hr : decide ((if p.r then 1 else 0) = 1) = p.r := by cases p.r <;> rfl
  have h := dec_form p.sealed p.n (if p.r then 1 else 0) (Fr.bytes p.f0).data.toList (Fr.bytes p.f1).data.toList (Fr.bytes p.f2).data.toList (Crc.fourL (Crc.sum p.body)) p.f0 p.f1 p.f2 0 0 0 rfl (sealed_list p) (sealed_okL p) hn (by omega) (by omega) (by omega) (by omega) (by split <;> omega) (frb_length _) (frb_length _) (frb_length _) hd0 hd1 hd2 w
  have hs : spoilt (if p.r then 1 else 0) 0 0 0 = false := by cases p.r <;> rfl
  have hp : (⟨p.n, decide ((if p.r then 1 else 0) = 1), p.f0, p.f1, p.f2⟩ : Pk) = p := by rw [hr]
  rw [hp, hs, hm] at h
  exact h

theorem spoilt_no {t : Nat} {c0 c1 c2 : Int} (h : spoilt t c0 c1 c2 = false) : ¬ 1 < t ∧ c0 = 0 ∧ c1 = 0 ∧ c2 = 0 := by
  unfold spoilt at h
  simp only [Bool.or_eq_false_iff, decide_eq_false_iff_not, bne_eq_false_iff_eq] at h
  exact ⟨h.1.1.1.2, h.1.1.2, h.1.2, h.2⟩

/- What any 641 bytes that are sealed are: the fields by their places, the three frames as they are decoded. -/
theorem sealed_back (s : ByteArray) (hs : s.size = 641) (hok : Crc.okL s.data.toList = true) (G0 G1 G2 : Nat → En) (c0 c1 c2 : Int) (t : Nat) (ht : t = Pack.val (seg s.data.toList 119 1))
    (f0 : (c0 = 0 ∧ Fr.may G0 = true ∧ ba (seg s.data.toList 128 168) = Fr.bytes G0) ∨ (¬ c0 = 0)) (f1 : (c1 = 0 ∧ Fr.may G1 = true ∧ ba (seg s.data.toList 296 168) = Fr.bytes G1) ∨ (¬ c1 = 0)) (f2 : (c2 = 0 ∧ Fr.may G2 = true ∧ ba (seg s.data.toList 469 168) = Fr.bytes G2) ∨ (¬ c2 = 0))
    (hsp : spoilt t c0 c1 c2 = false) : s = Pk.sealed ⟨tab s.data.toList, decide (t = 1), G0, G1, G2⟩ := by
  have hl : s.data.toList.length = 641 := by rw [Pack.size_list, hs]
  obtain ⟨h1, e0, e1, e2⟩ := spoilt_no hsp
  have b0 : seg s.data.toList 128 168 = (Fr.bytes G0).data.toList := by
    rcases f0 with ⟨_, _, h⟩ | h
    · rw [← h]
    · exact absurd e0 h
  have b1 : seg s.data.toList 296 168 = (Fr.bytes G1).data.toList := by
    rcases f1 with ⟨_, _, h⟩ | h
    · rw [← h]
    · exact absurd e1 h
  have b2 : seg s.data.toList 469 168 = (Fr.bytes G2).data.toList := by
    rcases f2 with ⟨_, _, h⟩ | h
    · rw [← h]
    · exact absurd e2 h
  refine sealed_of s _ (s.data.toList.drop 637) (by rw [List.length_drop, hl]) ?_ hok
  have hp := parse_raw s.data.toList hl
  have hflag : t = (if decide (t = 1) then 1 else 0) := by
    rcases Nat.lt_or_ge t 1 with h | h
    · have : t = 0 := by omega
      subst this; rfl
    · have : t = 1 := by omega
      subst this; rfl
  rw [← ht, b0, b1, b2] at hp
  unfold Pk.body
  show _ = rawb (tab s.data.toList) (if decide (t = 1) then 1 else 0) (Fr.bytes G0).data.toList (Fr.bytes G1).data.toList (Fr.bytes G2).data.toList ++ _
  rw [← hflag]
  exact hp

theorem tab_narrow (l : List UInt8) : tab l 0 < 256 ∧ tab l 3 < 256 ∧ tab l 22 < 256 ∧ tab l 107 < 256 := ⟨tab_lt l 0, tab_lt l 3, tab_lt l 22, tab_lt l 107⟩
theorem one_narrow (l : List UInt8) (o : Nat) : Pack.val (seg l o 1) < 256 := Nat.lt_of_lt_of_le (Pack.val_lt _) (Nat.pow_le_pow_right (n := 256) (by decide) (seg_le l o 1))

theorem decode_all_pk (s : ByteArray) : ∃ (P : Pk) (c : Int),
    (∀ w, Calls Try.prog 14 #[.string s] w fun r w' => r = .returned (.tuple #[.agg (pkc P), .int .i64 c]) ∧ Below w.heap.size w w') ∧ (∀ i, P.n i < 4294967296) ∧
    ((c = 0 ∧ P.may = true ∧ s = P.sealed) ∨ (¬ c = 0)) := by
  by_cases hs : s.size = 641
  · cases hok : Crc.okL s.data.toList
    · exact ⟨Pk.zero, 51, dec_sum s hs hok, fun _ => by show 0 < _; omega, .inr (by decide)⟩
    · have hl : s.data.toList.length = 641 := by rw [Pack.size_list, hs]
      obtain ⟨G0, c0, k0, _, f0⟩ := decode_full (ba (seg s.data.toList 128 168))
      obtain ⟨G1, c1, k1, _, f1⟩ := decode_full (ba (seg s.data.toList 296 168))
      obtain ⟨G2, c2, k2, _, f2⟩ := decode_full (ba (seg s.data.toList 469 168))
      have tn := tab_narrow s.data.toList
      have h := dec_form s (tab s.data.toList) (Pack.val (seg s.data.toList 119 1)) _ _ _ (s.data.toList.drop 637) G0 G1 G2 c0 c1 c2 (by rw [List.length_drop, hl]) (parse_raw s.data.toList hl) hok (tab_wide _) tn.1 tn.2.1 tn.2.2.1 tn.2.2.2 (one_narrow _ _) (seg_length _ _ _ (by omega)) (seg_length _ _ _ (by omega)) (seg_length _ _ _ (by omega)) k0 k1 k2
      cases hg : (!spoilt (Pack.val (seg s.data.toList 119 1)) c0 c1 c2 && Pk.may ⟨tab s.data.toList, decide (Pack.val (seg s.data.toList 119 1) = 1), G0, G1, G2⟩)
      · rw [hg] at h
        exact ⟨Pk.zero, 52, h, fun _ => by show 0 < _; omega, .inr (by decide)⟩
      · rw [hg, if_pos rfl] at h
        simp only [Bool.and_eq_true, Bool.not_eq_true'] at hg
        exact ⟨_, 0, h, tab_wide _, .inl ⟨rfl, hg.2, sealed_back s hs hok G0 G1 G2 c0 c1 c2 _ rfl f0 f1 f2 hg.1⟩⟩
  · exact ⟨Pk.zero, 50, dec_long s (by rw [beq_eq_false_iff_ne]; omega), fun _ => by show 0 < _; omega, .inr (by decide)⟩

theorem fields_same (d : Nat) (xs : Array Value) (w : World) : ∀ fs : List Field, (∀ f ∈ fs, f.name ≠ "_" ∧ ∃ v, (Go.part f.type xs f.offset).run Try.prog w = .ok v w ∧ (Op.equalIn d f.type v v).run Try.prog w = .ok true w) → (Op.eqFields d xs xs fs).run Try.prog w = .ok true w
  | [], _ => rfl
  | f :: fs, h => by
    obtain ⟨hn, v, h1, h2⟩ := h f (by simp)
    have ih := fields_same d xs w fs (fun g hg => h g (by simp [hg]))
    simp only [Op.eqFields, hn, ne_eq, not_false_eq_true, if_true, Sem.run_bind, h1, h2, Result.andThen_ok]
    simpa using ih

theorem same_int (d : Nat) (x : Int) (w : World) : (Op.equalIn (d + 1) 22 (.int .u32 x) (.int .u32 x)).run Try.prog w = .ok true w := by simp [go_sem]
theorem same_bool (d : Nat) (b : Bool) (w : World) : (Op.equalIn (d + 1) 4 (.bool b) (.bool b)).run Try.prog w = .ok true w := by simp [go_sem]
theorem same_id (d : Nat) (x y z : Nat) (w : World) : (Op.equalIn (d + 2) 24 (.agg (idc x y z)) (.agg (idc x y z))).run Try.prog w = .ok true w := by simp [go_sem, idc, idl]
theorem same_row (d : Nat) (T : TypeId) (hu : Try.prog.underlying T = some (.array 8 22)) (n : Nat → Nat) (o : Nat) (w : World) : (Op.equalIn (d + 2) T (.agg (rowc n o)) (.agg (rowc n o))).run Try.prog w = .ok true w := by
  obtain ⟨i, hi⟩ : ∃ i, Try.prog.info? 22 = some i := Option.isSome_iff_exists.1 (by kernel_rfl)
  have hc : Try.prog.cellsOf 22 = 1 := by kernel_rfl
  rw [run_equalIn_array w (d + 1) (rowc n o) (rowc n o) hu hi, hc]
  apply items_same
  intro i hi
  have hi8 := List.mem_range.1 hi
  refine ⟨.int .u32 (n (o + i) : Int), ?_, same_int d _ w⟩
  obtain rfl | rfl | rfl | rfl | rfl | rfl | rfl | rfl : i = 0 ∨ i = 1 ∨ i = 2 ∨ i = 3 ∨ i = 4 ∨ i = 5 ∨ i = 6 ∨ i = 7 := by omega
  all_goals kernel_rfl

end Go.Proofs.Ytmbddjejbmjmfaa
