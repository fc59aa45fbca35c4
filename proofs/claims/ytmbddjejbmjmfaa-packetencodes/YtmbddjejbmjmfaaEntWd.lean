/-
  What Decode returns, the code's and the document's, at any bytes: an entry that may be, whose bytes they are, or the error. Of the memory that was there nothing turns.
  No condition.
-/
import Derived.Test.YtmbddjejbmjmfaaEntRb
import Derived.Test.YtmbddjejbmjmfaaEntMb
import Derived.Test.YtmbddjejbmjmfaaPackBa
namespace Go.Proofs.Ytmbddjejbmjmfaa
set_option maxRecDepth 10000
open Go.RowKit Go.Sort

theorem take_at (n : Nat) (r : ByteArray) (hr : r.size ≤ 140737488351232) (k : Nat) (h1 : 1 ≤ k) (h8 : k ≤ 8) (hn : n < 256 ^ k) (w : World) :
    Calls Try.prog 63 #[.string (Pack.putB n k ++ r), .int .i64 (k : Int)] w fun e w' => e = .returned (.tuple #[.int .u64 (n : Int), .string r, .bool true]) ∧ Below w.heap.size w w' := by
  have h := num_back n r hr k h1 h8 w
  rw [Nat.mod_eq_of_lt hn] at h
  exact h

theorem rtake_at (n : Nat) (r : ByteArray) (hr : r.size ≤ 140737488351232) (k : Nat) (h1 : 1 ≤ k) (h8 : k ≤ 8) (hn : n < 256 ^ k) (w : World) :
    Calls Try.prog 54 #[.string (Pack.putB n k ++ r), .int .i64 (k : Int)] w fun e w' => e = .returned (.tuple #[.int .u64 (n : Int), .string r, .bool true]) ∧ Below w.heap.size w w' := by
  have h := rnum_back n r hr k h1 h8 w
  rw [Nat.mod_eq_of_lt hn] at h
  exact h

theorem tail_ne {x : ByteArray} (h : ¬ x = ⟨#[0, 0]⟩) : (x.toList == [0, 0]) = false := by
  rw [beq_eq_false_iff_ne, ByteArray.toList_eq]
  intro e
  exact h (ByteArray.ext (Array.ext' e))

theorem decode_any (s : ByteArray) :
    ((∀ w, Calls Try.prog 74 #[.string s] w fun e w' => e = .returned (.tuple #[.agg #[.int .i64 0, .int .i64 0, .int .i64 0, .int .u64 0, .int .u64 0, .string ⟨#[]⟩], .int .i64 30]) ∧ Below w.heap.size w w') ∧
     (∀ w, Calls Try.prog 55 #[.string s] w fun e w' => e = .returned (.tuple #[.agg #[.int .i64 0, .int .i64 0, .int .i64 0, .int .u64 0, .int .u64 0, .string ⟨#[]⟩], .int .i64 30]) ∧ Below w.heap.size w w')) ∨
    (∃ (k sv g se n : Nat) (t : ByteArray), s = Ent.bytes k sv g se n t ∧ Ent.may k sv g se n t = true ∧
     (∀ w, Calls Try.prog 74 #[.string s] w fun e w' => e = .returned (.tuple #[.agg #[.int .i64 (k : Int), .int .i64 (sv : Int), .int .i64 (g : Int), .int .u64 (se : Int), .int .u64 (n : Int), .string t], .int .i64 0]) ∧ Below w.heap.size w w') ∧
     (∀ w, Calls Try.prog 55 #[.string s] w fun e w' => e = .returned (.tuple #[.agg #[.int .i64 (k : Int), .int .i64 (sv : Int), .int .i64 (g : Int), .int .u64 (se : Int), .int .u64 (n : Int), .string t], .int .i64 0]) ∧ Below w.heap.size w w')) := by
  by_cases h28 : s.size = 28
  · have c28 : ((s.size : Int) == 28) = true := by rw [beq_iff_eq]; omega
    obtain ⟨k, sv, g, se, n, s5, hk, hv, hg, hs, hn, z5, rfl⟩ := Ent.parse s h28
    obtain ⟨t, x, b, hc, hr, hcase⟩ := takeText_known s5 (by rw [z5]; omega) 16 (by decide)
    rcases hcase with rfl | ⟨rfl, h5, ht⟩
    · exact Or.inl ⟨fun w => decode_no _ (fun w => read_no _ _ _ _ _ _ t x k sv g se n c28 (fun w => take_at k _ (by simp only [ByteArray.size_append, Pack.putB_size, z5]; omega) 1 (by decide) (by decide) (by simpa using hk) w) (fun w => take_at sv _ (by simp only [ByteArray.size_append, Pack.putB_size, z5]; omega) 1 (by decide) (by decide) (by simpa using hv) w) (fun w => take_at g _ (by simp only [ByteArray.size_append, Pack.putB_size, z5]; omega) 1 (by decide) (by decide) (by simpa using hg) w) (fun w => take_at se _ (by simp only [ByteArray.size_append, Pack.putB_size, z5]; omega) 2 (by decide) (by decide) hs w) (fun w => take_at n _ (by rw [z5]; omega) 4 (by decide) (by decide) hn w) hc w) w,
        fun w => rdecode_no _ _ _ _ _ _ t x k sv g se n c28 (by rw [IntKind.wrap_i64]; omega) (by rw [IntKind.wrap_i64]; omega) (by rw [IntKind.wrap_i64]; omega) (fun w => rtake_at k _ (by simp only [ByteArray.size_append, Pack.putB_size, z5]; omega) 1 (by decide) (by decide) (by simpa using hk) w) (fun w => rtake_at sv _ (by simp only [ByteArray.size_append, Pack.putB_size, z5]; omega) 1 (by decide) (by decide) (by simpa using hv) w) (fun w => rtake_at g _ (by simp only [ByteArray.size_append, Pack.putB_size, z5]; omega) 1 (by decide) (by decide) (by simpa using hg) w) (fun w => rtake_at se _ (by simp only [ByteArray.size_append, Pack.putB_size, z5]; omega) 2 (by decide) (by decide) hs w) (fun w => rtake_at n _ (by rw [z5]; omega) 4 (by decide) (by decide) hn w) hr w⟩
    · by_cases hx : x = ⟨#[0, 0]⟩
      · subst hx
        cases hm : Ent.may k sv g se n t
        · exact Or.inl ⟨fun w => decode_may _ k sv g se n t hm (fun w => read_ok _ _ _ _ _ _ t k sv g se n c28 (by rw [IntKind.wrap_i64]; omega) (by rw [IntKind.wrap_i64]; omega) (by rw [IntKind.wrap_i64]; omega) (fun w => take_at k _ (by simp only [ByteArray.size_append, Pack.putB_size, z5]; omega) 1 (by decide) (by decide) (by simpa using hk) w) (fun w => take_at sv _ (by simp only [ByteArray.size_append, Pack.putB_size, z5]; omega) 1 (by decide) (by decide) (by simpa using hv) w) (fun w => take_at g _ (by simp only [ByteArray.size_append, Pack.putB_size, z5]; omega) 1 (by decide) (by decide) (by simpa using hg) w) (fun w => take_at se _ (by simp only [ByteArray.size_append, Pack.putB_size, z5]; omega) 2 (by decide) (by decide) hs w) (fun w => take_at n _ (by rw [z5]; omega) 4 (by decide) (by decide) hn w) hc w) w,
            fun w => rdecode_may _ _ _ _ _ _ t k sv g se n hm c28 (by rw [IntKind.wrap_i64]; omega) (by rw [IntKind.wrap_i64]; omega) (by rw [IntKind.wrap_i64]; omega) (fun w => rtake_at k _ (by simp only [ByteArray.size_append, Pack.putB_size, z5]; omega) 1 (by decide) (by decide) (by simpa using hk) w) (fun w => rtake_at sv _ (by simp only [ByteArray.size_append, Pack.putB_size, z5]; omega) 1 (by decide) (by decide) (by simpa using hv) w) (fun w => rtake_at g _ (by simp only [ByteArray.size_append, Pack.putB_size, z5]; omega) 1 (by decide) (by decide) (by simpa using hg) w) (fun w => rtake_at se _ (by simp only [ByteArray.size_append, Pack.putB_size, z5]; omega) 2 (by decide) (by decide) hs w) (fun w => rtake_at n _ (by rw [z5]; omega) 4 (by decide) (by decide) hn w) hr w⟩
        · refine Or.inr ⟨k, sv, g, se, n, t, ?_, hm, fun w => decode_ok _ k sv g se n t hm (fun w => read_ok _ _ _ _ _ _ t k sv g se n c28 (by rw [IntKind.wrap_i64]; omega) (by rw [IntKind.wrap_i64]; omega) (by rw [IntKind.wrap_i64]; omega) (fun w => take_at k _ (by simp only [ByteArray.size_append, Pack.putB_size, z5]; omega) 1 (by decide) (by decide) (by simpa using hk) w) (fun w => take_at sv _ (by simp only [ByteArray.size_append, Pack.putB_size, z5]; omega) 1 (by decide) (by decide) (by simpa using hv) w) (fun w => take_at g _ (by simp only [ByteArray.size_append, Pack.putB_size, z5]; omega) 1 (by decide) (by decide) (by simpa using hg) w) (fun w => take_at se _ (by simp only [ByteArray.size_append, Pack.putB_size, z5]; omega) 2 (by decide) (by decide) hs w) (fun w => take_at n _ (by rw [z5]; omega) 4 (by decide) (by decide) hn w) hc w) w,
            fun w => rdecode_ok _ _ _ _ _ _ t k sv g se n hm c28 (by rw [IntKind.wrap_i64]; omega) (by rw [IntKind.wrap_i64]; omega) (by rw [IntKind.wrap_i64]; omega) (fun w => rtake_at k _ (by simp only [ByteArray.size_append, Pack.putB_size, z5]; omega) 1 (by decide) (by decide) (by simpa using hk) w) (fun w => rtake_at sv _ (by simp only [ByteArray.size_append, Pack.putB_size, z5]; omega) 1 (by decide) (by decide) (by simpa using hv) w) (fun w => rtake_at g _ (by simp only [ByteArray.size_append, Pack.putB_size, z5]; omega) 1 (by decide) (by decide) (by simpa using hg) w) (fun w => rtake_at se _ (by simp only [ByteArray.size_append, Pack.putB_size, z5]; omega) 2 (by decide) (by decide) hs w) (fun w => rtake_at n _ (by rw [z5]; omega) 4 (by decide) (by decide) hn w) hr w⟩
          rw [Ent.bytes_chain, h5]
      · have hx' := tail_ne hx
        exact Or.inl ⟨fun w => decode_no _ (fun w => read_tail _ _ _ _ _ _ t x hx' k sv g se n c28 (fun w => take_at k _ (by simp only [ByteArray.size_append, Pack.putB_size, z5]; omega) 1 (by decide) (by decide) (by simpa using hk) w) (fun w => take_at sv _ (by simp only [ByteArray.size_append, Pack.putB_size, z5]; omega) 1 (by decide) (by decide) (by simpa using hv) w) (fun w => take_at g _ (by simp only [ByteArray.size_append, Pack.putB_size, z5]; omega) 1 (by decide) (by decide) (by simpa using hg) w) (fun w => take_at se _ (by simp only [ByteArray.size_append, Pack.putB_size, z5]; omega) 2 (by decide) (by decide) hs w) (fun w => take_at n _ (by rw [z5]; omega) 4 (by decide) (by decide) hn w) hc w) w,
          fun w => rdecode_tail _ _ _ _ _ _ t x k sv g se n hx' c28 (by rw [IntKind.wrap_i64]; omega) (by rw [IntKind.wrap_i64]; omega) (by rw [IntKind.wrap_i64]; omega) (fun w => rtake_at k _ (by simp only [ByteArray.size_append, Pack.putB_size, z5]; omega) 1 (by decide) (by decide) (by simpa using hk) w) (fun w => rtake_at sv _ (by simp only [ByteArray.size_append, Pack.putB_size, z5]; omega) 1 (by decide) (by decide) (by simpa using hv) w) (fun w => rtake_at g _ (by simp only [ByteArray.size_append, Pack.putB_size, z5]; omega) 1 (by decide) (by decide) (by simpa using hg) w) (fun w => rtake_at se _ (by simp only [ByteArray.size_append, Pack.putB_size, z5]; omega) 2 (by decide) (by decide) hs w) (fun w => rtake_at n _ (by rw [z5]; omega) 4 (by decide) (by decide) hn w) hr w⟩
  · have c28 : ((s.size : Int) == 28) = false := by rw [beq_eq_false_iff_ne]; omega
    exact Or.inl ⟨fun w => decode_no s (fun w => read_size s c28 w) w, fun w => rdecode_size s c28 w⟩

theorem decode_back (k sv g se n : Nat) (t : ByteArray) (hm : Ent.may k sv g se n t = true) (hk : k < 256) (hv : sv < 256) (hg : g < 256) (hs : se < 256 ^ 2) (hn : n < 256 ^ 4) (ht : t.size ≤ 16) (w : World) :
    Calls Try.prog 74 #[.string (Ent.bytes k sv g se n t)] w fun e w' => e = .returned (.tuple #[.agg #[.int .i64 (k : Int), .int .i64 (sv : Int), .int .i64 (g : Int), .int .u64 (se : Int), .int .u64 (n : Int), .string t], .int .i64 0]) ∧ Below w.heap.size w w' := by
  have c28 : (((Ent.bytes k sv g se n t).size : Int) == 28) = true := by rw [Ent.bytes_size]; rfl
  rw [Ent.bytes_chain] at c28 ⊢
  have z5 : (Pack.textB t 16 ++ ⟨#[0, 0]⟩ : ByteArray).size = 19 := by rw [ByteArray.size_append, Pack.textB_size]; rfl
  exact decode_ok _ k sv g se n t hm (fun w => read_ok _ _ _ _ _ _ t k sv g se n c28 (by rw [IntKind.wrap_i64]; omega) (by rw [IntKind.wrap_i64]; omega) (by rw [IntKind.wrap_i64]; omega) (fun w => take_at k _ (by simp only [ByteArray.size_append, Pack.putB_size, z5]; omega) 1 (by decide) (by decide) (by simpa using hk) w) (fun w => take_at sv _ (by simp only [ByteArray.size_append, Pack.putB_size, z5]; omega) 1 (by decide) (by decide) (by simpa using hv) w) (fun w => take_at g _ (by simp only [ByteArray.size_append, Pack.putB_size, z5]; omega) 1 (by decide) (by decide) (by simpa using hg) w) (fun w => take_at se _ (by simp only [ByteArray.size_append, Pack.putB_size, z5]; omega) 2 (by decide) (by decide) hs w) (fun w => take_at n _ (by rw [z5]; omega) 4 (by decide) (by decide) hn w) (fun w => text_back t ⟨#[0, 0]⟩ (by decide) 16 (by decide) ht w) w) w

end Go.Proofs.Ytmbddjejbmjmfaa
