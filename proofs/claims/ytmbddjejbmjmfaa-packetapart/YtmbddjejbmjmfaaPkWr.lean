/-
  The writer's methods: what numbers, id, flag and frame lay behind the bytes that lie there, and what lay returns of a packet that may be.
  Condition: far fewer bytes than a text may have lie there.
-/
import Derived.Test.YtmbddjejbmjmfaaPkMath
import Derived.Test.YtmbddjejbmjmfaaPkBld
import Derived.Test.YtmbddjejbmjmfaaFrEnc
import Derived.Deep.RegionWith
namespace Go.Proofs.Ytmbddjejbmjmfaa
set_option maxRecDepth 10000
open Go.RowKit Go.Sort

theorem others_below {e : TypeId} {b : Option Nat} {w w' : World} (h : Below w.heap.size w w') : Lib.OthersKept e b w w' := by
  intro k o hk _ _
  have hlt : k < w.heap.size := by
    rcases Nat.lt_or_ge k w.heap.size with h' | h'
    · exact h'
    · simp [Array.getElem?_eq_none h'] at hk
  rw [h.block k hlt]; exact hk

theorem Wr.below {b : Nat} {l : List UInt8} {w w' : World} (h : Wr b l w) (hb : Below w.heap.size w w') : Wr b l w' := by
  have one : ∀ p, Lib.BuilderAtF 71 5 b b p (Lib.byteCells l) w → Lib.BuilderAtF 71 5 b b p (Lib.byteCells l) w' := by
    intro p hp
    have hlt := hp.lt
    obtain ⟨hB, v, hblk, ⟨hlen, hown⟩, hne⟩ := hp
    refine ⟨hB, v, (hb.block b hlt).trans hblk, ⟨hlen, ?_⟩, hne⟩
    rcases hown with h1 | ⟨g, cap, cur, fz, hv, hbase, hg, hrest⟩
    · exact .inl h1
    · have hgl : g < w.heap.size := by
        rcases Nat.lt_or_ge g w.heap.size with h' | h'
        · exact h'
        · simp [Array.getElem?_eq_none h'] at hg
      exact .inr ⟨g, cap, cur, fz, hv, hbase, (hb.block g hgl).trans hg, hrest⟩
  rcases h with h | h
  · exact .inl (one _ h)
  · exact .inr (one _ h)

/- What a call that writes to the writer at b leaves: the bytes that lie there now, and all that is none of its own. -/
def Wrote (b : Nat) (l : List UInt8) (w w' : World) : Prop := Wr b l w' ∧ Below b w w' ∧ Lib.OthersKept 5 (some b) w w'

theorem Blk.others {A b : Nat} {C : Array Value} {T : TypeId} {w w' : World} (h : Blk A C T w) (hk : Lib.OthersKept 5 (some b) w w') (hne : A ≠ b) (hT : T ≠ 5) : Blk A C T w' :=
  hk A _ h (fun e => hne (Option.some.inj e)) (fun c fz e => hT (by cases e; rfl))

theorem Wrote.after {b : Nat} {l : List UInt8} {u w w' : World} (h : Wrote b l w w') (hb : Below u.heap.size u w) (hlt : b ≤ u.heap.size) : Wrote b l u w' :=
  ⟨h.1, (hb.mono hlt).trans h.2.1, (others_below hb).trans h.2.2⟩
theorem Wrote.trans {b : Nat} {l m : List UInt8} {u w w' : World} (h : Wrote b l u w) (k : Wrote b m w w') : Wrote b m u w' :=
  ⟨k.1, h.2.1.trans k.2.1, h.2.2.trans k.2.2⟩

def nums (k : Nat) (L : List Nat) : List UInt8 := L.flatMap (Pack.digits k)
theorem nums_snoc (k : Nat) (L : List Nat) (x : Nat) : nums k (L ++ [x]) = nums k L ++ Pack.digits k x := by simp [nums]
theorem nums_length (k : Nat) (L : List Nat) : (nums k L).length = k * L.length := by
  induction L with
  | nil => simp [nums]
  | cons x L ih =>
    show (Pack.digits k x ++ nums k L).length = _
    rw [List.length_append, ih, Pack.digits_length, List.length_cons, Nat.mul_succ]; omega

set_option maxHeartbeats 2000000 in
theorem numbers_ok (b k : Nat) (h1 : 1 ≤ k) (h8 : k ≤ 8) (l : List UInt8) (B o cap : Nat) (C : Array Value) (T : TypeId) (L : List Nat) (w : World) (hW : Wr b l w) (hB : Blk B C T w) (hne : B ≠ b) (hT : T ≠ 5)
    (hL : ∀ (i x : Nat), L[i]? = some x → x < 4294967296 ∧ C[o + i]? = some (.int .u32 (x : Int))) (hll : l.length + k * L.length ≤ 140737488351232) :
    Calls Try.prog 37 #[.pointer (some ⟨b, 0, none⟩), .int .i64 (k : Int), .slice (some ⟨B, o, none⟩) L.length cap] w fun e w' => e = .returned (.tuple #[]) ∧ Wrote b (l ++ nums k L) w w' := by
  have hlen8 : L.length ≤ 140737488351232 := by
    have : L.length ≤ k * L.length := Nat.le_mul_of_pos_left _ h1
    omega
  have hbw := hW.lt
  go_enter Try.func37, Try.ntmps37
  go_wp2_with fail
  go_loopw [10] (fun i w' => ∃ m : Nat, m ≤ L.length ∧ i = .int .i64 m ∧ Hid (Wrote b (l ++ nums k (L.take m)) w w' ∧ Blk B C T w')) (fun i _ => L.length - (intOf i).toNat)
  case atStart => exact ⟨0, by omega, rfl, ⟨by simpa [nums] using hW, Below.refl _ _, .refl _ _ _⟩, hB⟩
  case round =>
    obtain ⟨m, hm, rfl, hrel⟩ := hrel
    obtain ⟨hwr, hB2⟩ := hrel.out
    by_cases hlt : m < L.length
    · obtain ⟨hx, hc⟩ := hL m L[m] (List.getElem?_eq_getElem hlt)
      have hcell := hB2.cell (o + m) _ hc
      have hput := fun w => put_ok L[m] k h1 h8 w
      have hnext : nums k (L.take (m + 1)) = nums k (L.take m) ++ Pack.digits k L[m] := by
        rw [List.take_succ_eq_append_getElem hlt, nums_snoc]
      have hsz : (l ++ nums k (L.take m)).length + (Pack.putB L[m] k).size ≤ 140737488355328 := by
        rw [Pack.putB_size, List.length_append, nums_length, List.length_take, Nat.min_eq_left (by omega)]
        have h3 : k * (m + 1) ≤ k * L.length := Nat.mul_le_mul_left _ hlt
        rw [Nat.mul_succ] at h3
        omega
      have hdat : (Pack.putB L[m] k).data.toList = Pack.digits k L[m] := rfl
      generalize hxe : L[m] = x at *
      generalize Pack.putB x k = ps at *
      have hwrap : IntKind.u64.wrap (x : Int) = (x : Int) := by rw [IntKind.wrap_u64]; omega
      have HL : Hid (L.length ≤ 140737488351232) := hlen8
      have HS : Hid ((l ++ nums k (L.take m)).length + ps.size ≤ 140737488355328) := hsz
      have HD : Hid (ps.data.toList = Pack.digits k x) := hdat
      have HN : Hid (nums k (L.take (m + 1)) = nums k (L.take m) ++ Pack.digits k x) := hnext
      have HW : Hid (Wrote b (l ++ nums k (L.take m)) w wr) := hwr
      clear hL hc hll hlen8 hrel hsz hx hdat hnext hwr hW hB hbw
      go_wp2_with fail
      refine wp_region_held_drew (S := fun _ => True) (by kernel_rfl) trivial (fun hHeld => ?_)
      refine wpAnyH_take (i := 0) (v := ?v0) rfl (by kernel_rfl) (by kernel_rfl) (by kernel_rfl) (fun _ _ _ h => h) (Or.inl ⟨by rfl, ?hy0⟩) hHeld ?rest0
      case hy0 => (intro w hSw; clear hSw; go_simp; try with_reducible rfl)
      try simp only [List.getElem_toArray]
      try simp only [List.getElem_cons_succ]
      try simp only [List.getElem_cons_zero]
      try simp only [Act.put]
      try simp only [List.setIfInBounds_toArray]
      try simp only [List.set_cons_succ]
      try simp only [List.set_cons_zero]
      refine wpAnyH_take (i := 1) (v := ?v1) rfl (by kernel_rfl) (by kernel_rfl) (by kernel_rfl) (fun _ _ _ h => h) (Or.inl ⟨by rfl, ?hy1⟩) hHeld ?rest1
      case hy1 => (intro w hSw; clear hSw; go_simp; try with_reducible rfl)
      try simp only [List.getElem_toArray]
      try simp only [List.getElem_cons_succ]
      try simp only [List.getElem_cons_zero]
      try simp only [Act.put]
      try simp only [List.setIfInBounds_toArray]
      try simp only [List.set_cons_succ]
      try simp only [List.set_cons_zero]
      refine wpAnyH_take (i := 2) (v := ?v2) rfl (by kernel_rfl) (by kernel_rfl) (by kernel_rfl) (fun _ _ _ h => h) (Or.inl ⟨by rfl, ?hy2⟩) hHeld ?rest2
      case hy2 => (intro w hSw; clear hSw; go_simp; try with_reducible rfl)
      try simp only [List.getElem_toArray]
      try simp only [List.getElem_cons_succ]
      try simp only [List.getElem_cons_zero]
      try simp only [Act.put]
      try simp only [List.setIfInBounds_toArray]
      try simp only [List.set_cons_succ]
      try simp only [List.set_cons_zero]
      refine wpAnyH_take (i := 3) (v := ?v3) rfl (by kernel_rfl) (by kernel_rfl) (by kernel_rfl) (fun _ _ _ h => h) (Or.inl ⟨by rfl, ?hy3⟩) hHeld ?rest3
      case hy3 => (intro w hSw; clear hSw; go_simp; try with_reducible rfl)
      try simp only [List.getElem_toArray]
      try simp only [List.getElem_cons_succ]
      try simp only [List.getElem_cons_zero]
      try simp only [Act.put]
      try simp only [List.setIfInBounds_toArray]
      try simp only [List.set_cons_succ]
      try simp only [List.set_cons_zero]
      refine wpAnyH_take (i := 4) (v := ?v4) rfl (by kernel_rfl) (by kernel_rfl) (by kernel_rfl) (fun _ _ _ h => h) (Or.inl ⟨by rfl, ?hy4⟩) hHeld ?rest4
      case hy4 => (intro w hSw; clear hSw; go_simp; try with_reducible rfl)
      try simp only [List.getElem_toArray]
      try simp only [List.getElem_cons_succ]
      try simp only [List.getElem_cons_zero]
      try simp only [Act.put]
      try simp only [List.setIfInBounds_toArray]
      try simp only [List.set_cons_succ]
      try simp only [List.set_cons_zero]
      refine wpAnyH_take (i := 5) (v := ?v5) rfl (by kernel_rfl) (by kernel_rfl) (by kernel_rfl) (fun _ _ _ h => h) (Or.inl ⟨by rfl, ?hy5⟩) hHeld ?rest5
      case hy5 => (intro w hSw; clear hSw; go_simp; try with_reducible rfl)
      try simp only [List.getElem_toArray]
      try simp only [List.getElem_cons_succ]
      try simp only [List.getElem_cons_zero]
      try simp only [Act.put]
      try simp only [List.setIfInBounds_toArray]
      try simp only [List.set_cons_succ]
      try simp only [List.set_cons_zero]
      refine wpAnyH_ready (rs := [6]) (by kernel_rfl) (by simp) ?_
      refine AllReadyH.cons rfl (fun K hK => ?_) AllReadyH.nil
      go_simp
      go_wp2_with (refine (hput _).mono ?_; rintro r w6 ⟨rfl, hb1⟩)
      refine hK.out _ _ trivial (fun hHeld => ?_)
      clear hK K
      have hb2 : Below wr.heap.size wr w6 := (Below.drew (Below.refl _ wr)).trans hb1
      have hw1 : Wr b (l ++ nums k (L.take m)) w6 := Wr.below HW.out.1 hb2
      clear hb1 hput
      refine wpAnyH_ready (rs := [7]) (by kernel_rfl) (by simp) ?_
      refine AllReadyH.cons rfl (fun K hK => ?_) AllReadyH.nil
      go_simp
      go_wp2_with (refine (wwrite_ok b _ ps _ hw1 HS.out).mono ?_; rintro r w7 ⟨rfl, hw3⟩)
      refine hK.out _ _ trivial (fun hHeld => ?_)
      clear hK K
      refine wpAnyH_done (by kernel_rfl) ?_ _
      have hl8 := HL.out
      go_wp2_with fail
      have hgo : Wrote b (l ++ nums k (L.take m) ++ ps.data.toList) wr w7 := Wrote.after hw3 hb2 (Nat.le_of_lt HW.out.1.lt)
      rw [HD.out, List.append_assoc, ← HN.out] at hgo
      have hgo2 := HW.out.trans hgo
      have hB3 := hB2.others hgo.2.2 hne hT
      clear hgo HW hw3 HD HS HN hB2 hw1 hb2
      have hm1 : m + 1 ≤ L.length := hlt
      refine ⟨⟨m + 1, hm1, by go_num, hgo2, hB3⟩, ?_⟩
      simp [intOf]; omega
    · obtain rfl : m = L.length := by omega
      rw [List.take_length] at hwr
      go_wp2_with fail
      go_end0
      exact ⟨rfl, hwr⟩

end Go.Proofs.Ytmbddjejbmjmfaa
