/-
  What frame any bytes are: what Decode returns, the code's and the document's.
  No condition.
-/
import Derived.Test.YtmbddjejbmjmfaaFrWk
namespace Go.Proofs.Ytmbddjejbmjmfaa
set_option maxRecDepth 10000
open Go.RowKit Go.Sort

def part (s : ByteArray) (x : Nat) : ByteArray := s.extract (28 * x) (28 * x + 28)
def goodUp (D : Nat → Option En) : Bool := (List.range 6).all fun x => (D x).isSome
def soFar (D : Nat → Option En) (x : Nat) : Nat → En := fun y => if y < x then (D y).getD En.zero else En.zero

/- What one entry's Decode says, the code's or the document's. -/
def Tells (fn : Nat) (s : ByteArray) (o : Option En) : Prop := ∀ w, Calls Try.prog fn #[.string s] w fun r w' =>
  r = .returned (.tuple #[.agg (o.getD En.zero).vals.toArray, .int .i64 (if o.isSome then 0 else 30)]) ∧ Below w.heap.size w w'

theorem goodUp_iff (D : Nat → Option En) : goodUp D = true ↔ ∀ x, x < 6 → (D x).isSome = true := by
  simp [goodUp]

theorem soFar_set (D : Nat → Option En) (x : Nat) (e : En) (h : D x = some e) : (fun y => if y = x then e else soFar D x y) = soFar D (x + 1) := by
  funext y
  unfold soFar
  by_cases h1 : y = x
  · subst h1; simp [h]
  · by_cases h2 : y < x
    · have h3 : y < x + 1 := by omega
      simp [h1, h2, h3]
    · have h3 : ¬ y < x + 1 := by omega
      simp [h1, h2, h3]

set_option maxHeartbeats 2000000 in
theorem frDecode_long (s : ByteArray) (hs : ((s.size : Int) == 168) = false) (w : World) : Calls Try.prog 65 #[.string s] w fun r w' =>
    r = .returned (.tuple #[.agg (frc zeroFr), .int .i64 40]) ∧ Below w.heap.size w w' := by
  go_enter Try.func65, Try.ntmps65
  go_wp2_with (first | refine alloc_fr rfl rfl ?_ | refine build_fr rfl rfl ?_ | refine store_new rfl 33 _ _ rfl rfl rfl (by rw [frc_size]; exact size27) rfl (frc_one zeroFr) ?_)
  refine bodyPost_ret (ret_fr Try.results65 rfl (blk_new w (frc zeroFr) 33) (frc_size _) rfl) rfl ⟨rfl, below_box _ _⟩

set_option maxHeartbeats 2000000 in
theorem frDecode_gen (s : ByteArray) (hs : s.size = 168) (D : Nat → Option En) (hD : ∀ x, x < 6 → Tells 74 (part s x) (D x)) (w : World) : Calls Try.prog 65 #[.string s] w fun r w' =>
    r = .returned (if goodUp D then .tuple #[.agg (frc (soFar D 6)), .int .i64 0] else .tuple #[.agg (frc zeroFr), .int .i64 30]) ∧ Below w.heap.size w w' := by
  obtain ⟨c, hc⟩ : ∃ c : Value, Hid ((if goodUp D then .tuple #[.agg (frc (soFar D 6)), .int .i64 0] else .tuple #[.agg (frc zeroFr), .int .i64 30]) = c) := ⟨_, rfl⟩
  rw [hc.out]
  have hlen : ((s.size : Int) == 168) = true := by rw [hs]; rfl
  go_enter Try.func65, Try.ntmps65
  go_wp2_with (refine alloc_fr rfl rfl ?_)
  go_loopw [0, 13] (fun t i w' => ∃ m : Nat, m ≤ 3 ∧ i = .int .i64 m ∧ Below w.heap.size w w' ∧ Blk w.heap.size (frc zeroFr) 33 w' ∧ Blk (w.heap.size + 1) (frc (soFar D (2 * m))) 33 w' ∧ Hid (∀ x, x < 2 * m → (D x).isSome = true) ∧ ∃ b : ByteArray, t = .string b ∧ Hid (b = s.extract (56 * m) s.size)) (fun _ i _ => 3 - (intOf i).toNat)
  case atStart =>
    have z1 : (w.alloc (.cells (frc zeroFr) 33)).heap.size = w.heap.size + 1 := by simp
    refine ⟨0, by omega, rfl, (below_box w _).alloc (by simp) _, (blk_new w (frc zeroFr) 33).alloc _, ?_, fun x hx => by omega, s, rfl, ?_⟩
    · rw [← z1]; exact blk_new (w.alloc (.cells (frc zeroFr) 33)) (frc zeroFr) 33
    · unfold Hid; simp
  case round =>
    obtain ⟨m, hm, rfl, hb, hR, hF, hall, b, rfl, hbe⟩ := hrel
    by_cases hlt : m < 3
    · have d1 : (m : Int) < 3 := by omega
      go_wp2_with fail
      go_loopw [0, 16] (fun t i w' => ∃ j : Nat, j ≤ 2 ∧ i = .int .i64 j ∧ Below w.heap.size w w' ∧ Blk w.heap.size (frc zeroFr) 33 w' ∧ Blk (w.heap.size + 1) (frc (soFar D (2 * m + j))) 33 w' ∧ Hid (∀ x, x < 2 * m + j → (D x).isSome = true) ∧ ∃ b : ByteArray, t = .string b ∧ Hid (b = s.extract (56 * m + 28 * j) s.size)) (fun _ i _ => 2 - (intOf i).toNat)
      case atStart => exact ⟨0, by omega, rfl, hb, hR, hF, hall, b, rfl, hbe⟩
      case round =>
        clear hb hR hF hall hbe
        obtain ⟨j, hj, rfl, hb, hR, hF, hall, b, rfl, hbe⟩ := hrel
        by_cases hjl : j < 2
        · have d2 : (j : Int) < 2 := by omega
          have hbz : b.size = 168 - (56 * m + 28 * j) := by rw [hbe.out, ByteArray.size_extract, hs]; omega
          have hge : 28 ≤ b.size := by omega
          have hT := hD (2 * m + j) (by omega)
          have hpt : b.extract 0 28 = part s (2 * m + j) := by
            rw [hbe.out, ByteArray.extract_extract, part]
            congr 1 <;> omega
          rw [← hpt] at hT
          have hnx : Hid (b.extract 28 b.size = s.extract (56 * m + 28 * (j + 1)) s.size) := by
            unfold Hid
            rw [hbz, hbe.out, ByteArray.extract_extract]
            congr 1 <;> omega
          clear hpt hbe hbz
          go_wp2_with fail
          refine (hT _).mono ?_
          clear hT
          rintro r w2 ⟨rfl, hb2⟩
          have hR2 := (hR.below hb2)
          have hF2 := (hF.below hb2)
          have hb3 := hb.trans (hb2.mono hb.size)
          clear hb hb2 hR hF
          cases hd : D (2 * m + j) with
          | none =>
            have hno : goodUp D = false := by
              cases hg : goodUp D
              · rfl
              · have := (goodUp_iff D).1 hg (2 * m + j) (by omega)
                rw [hd] at this
                cases this
            have hs6 : En.zero.vals.toArray.size = 6 := rfl
            have hR3 := hR2.alloc (.cells En.zero.vals.toArray 30)
            have hb4 := hb3.alloc hb3.size (.cells En.zero.vals.toArray 30)
            have vz : ((none : Option En).getD En.zero) = En.zero := rfl
            have iz : (none : Option En).isSome = false := rfl
            rw [vz, iz]
            clear hd
            go_wp2_with (first | refine build_fr rfl rfl ?_ | refine store_new rfl 30 _ _ rfl rfl rfl (by rw [hs6]; exact size24) (by rw [hs6]; rfl) En.zero.one ?_ | refine store_blk rfl 33 _ _ rfl hR3 rfl rfl (by rw [frc_size]; exact size27) rfl (frc_one zeroFr) ?_)
            refine bodyPost_ret (ret_fr Try.results65 rfl (hR3.setRow (frc zeroFr)) (frc_size _) rfl) rfl ⟨?_, below_setRow hb4 (Nat.le_refl _) _⟩
            rw [← hc.out, hno]; rfl
          | some e =>
            have hs6 : e.vals.toArray.size = 6 := rfl
            have vz : (some e : Option En).getD En.zero = e := rfl
            have iz : (some e : Option En).isSome = true := rfl
            rw [vz, iz]
            clear vz iz
            go_wp2_with (first | refine store_new rfl 30 _ _ rfl rfl rfl (by rw [hs6]; exact size24) (by rw [hs6]; rfl) e.one ?_)
            have hR3 := hR2.alloc (.cells e.vals.toArray 30)
            have hF3 := hF2.alloc (.cells e.vals.toArray 30)
            have hb4 := hb3.alloc hb3.size (.cells e.vals.toArray 30)
            have hE := (blk_new w2 e.vals.toArray 30).at6 0 e rfl
            have hO := hF3.at6 (m * 12 + j * 6) En.zero (by
              have h := frc_part (soFar D (2 * m + j)) (2 * m + j) (m * 12 + j * 6) (by omega) (by omega)
              have hz : soFar D (2 * m + j) (2 * m + j) = En.zero := by simp [soFar]
              rw [hz] at h; exact h)
            have hP := hF3.free6 (m * 12 + j * 6)
            have n1 : (0 : Int) ≤ (m : Int) := by omega
            have n2 : (0 : Int) ≤ (j : Int) := by omega
            obtain ⟨k, sv, g, se, n, t⟩ := e
            obtain ⟨p0, p1, p2, p3, p4, p5⟩ := hE
            obtain ⟨q0, q1, q2, q3, q4, q5⟩ := hO
            obtain ⟨f0, f1, f2, f3, f4, f5⟩ := hP
            go_region
            all_goals go_wp2_with fail
            have vs : ∀ W : World, W.setCells (w.heap.size + 1) (m * 12 + j * 6) (En.vals ⟨k, sv, g, se, n, t⟩) = (((((W.setCell ⟨w.heap.size + 1, m * 12 + j * 6, none⟩ (.int .i64 k)).setCell ⟨w.heap.size + 1, m * 12 + j * 6 + 1, none⟩ (.int .i64 sv)).setCell ⟨w.heap.size + 1, m * 12 + j * 6 + 2, none⟩ (.int .i64 g)).setCell ⟨w.heap.size + 1, m * 12 + j * 6 + 3, none⟩ (.int .u64 se)).setCell ⟨w.heap.size + 1, m * 12 + j * 6 + 4, none⟩ (.int .u64 n)).setCell ⟨w.heap.size + 1, m * 12 + j * 6 + 5, none⟩ (.string t) := fun _ => rfl
            rw [← vs]
            have b5 := (below_cells (Nat.le_succ _) (En.vals ⟨k, sv, g, se, n, t⟩) (m * 12 + j * 6) hb4).drew
            have r5 := (hR3.setCells_other (Nat.ne_of_lt (Nat.lt_succ_self _)) (En.vals ⟨k, sv, g, se, n, t⟩) (m * 12 + j * 6)).drew
            have f5 := (hF3.setCells (En.vals ⟨k, sv, g, se, n, t⟩) (m * 12 + j * 6)).drew
            rw [frc_put (soFar D (2 * m + j)) ⟨k, sv, g, se, n, t⟩ (2 * m + j) (m * 12 + j * 6) (by omega) (by omega), soFar_set D (2 * m + j) _ hd] at f5
            generalize (World.setCells _ _ _ _).drew = W5 at b5 r5 f5 ⊢
            refine ⟨⟨j + 1, by omega, by go_num, b5, r5, f5, fun x hx => ?_, _, rfl, hnx⟩, by simp [intOf]; omega⟩
            · rcases Nat.lt_or_ge x (2 * m + j) with h | h
              · exact hall.out x h
              · obtain rfl : x = 2 * m + j := by omega
                rw [hd]; rfl
        · obtain rfl : j = 2 := by omega
          go_wp2_with fail
          refine ⟨⟨m + 1, by omega, by go_num, hb, hR, hF, hall, b, rfl, hbe⟩, by simp [intOf]; omega⟩
    · obtain rfl : m = 3 := by omega
      have hyes : goodUp D = true := (goodUp_iff D).2 fun x hx => hall.out x (by omega)
      go_wp2_with (first | refine load_blk rfl 33 _ rfl hF rfl Try.underlying33 rfl (by rw [frc_size]; exact size27) ?_ | refine store_blk rfl 33 _ _ rfl hR rfl rfl (by rw [frc_size]; exact size27) (by rw [frc_size, frc_size]) (frc_one _) ?_)
      refine bodyPost_ret (ret_fr Try.results65 rfl (hR.setRow (frc (soFar D 6))) (frc_size _) rfl) rfl ⟨?_, below_setRow hb (Nat.le_refl _) _⟩
      rw [← hc.out, hyes]; rfl

end Go.Proofs.Ytmbddjejbmjmfaa
