/-
  What follows of what is missing: what is left behind a later place; each place is the next one of its daemon, behind the one ahead of it; in the end the union is reached. A slice without its first ones.
  No condition.
-/
import Derived.Test.YtodemfkjieonoaaCtM
namespace Go.Proofs.Ytodemfkjieonoaa
set_option maxRecDepth 10000
open Go.RowKit Go.Sort

theorem fstM_all (c most m : Nat → Nat) (h : ∀ d ∈ lst m, most d ≤ c d) : fstM c most m = none := by
  cases hf : fstM c most m with
  | none => rfl
  | some p =>
    obtain ⟨d, hd, _, hlt, _⟩ := fstM_some c most m p hf
    have := h d hd
    omega
theorem missL_more (most m : Nat → Nat) : ∀ (n N : Nat) (c : Nat → Nat), (missL most m n c).length < n → n ≤ N → missL most m N c = missL most m n c
  | 0, _, _, h, _ => by omega
  | n + 1, N, c, h, hN => by
    cases hf : fstM c most m with
    | none => rw [missL_none _ _ _ _ hf, missL_none _ _ _ _ hf]
    | some p =>
      obtain ⟨M, rfl⟩ : ∃ M, N = M + 1 := ⟨N - 1, by omega⟩
      rw [missL_some _ _ _ _ _ hf] at h
      rw [missL_some _ _ _ _ _ hf, missL_some _ _ _ _ _ hf, missL_more most m n M _ (by simpa using h) (by omega)]

def dropW (l : Pl) (L : List Pl) : List Pl := L.dropWhile fun q => befB q l
theorem dropW_nil (l : Pl) : dropW l [] = [] := rfl
theorem dropW_yes (l p : Pl) (L : List Pl) (h : befB p l = true) : dropW l (p :: L) = dropW l L := by simp [dropW, h]
theorem dropW_no (l p : Pl) (L : List Pl) (h : befB p l = false) : dropW l (p :: L) = p :: L := by simp [dropW, h]
theorem gone_true (g : Pl) (r d : Nat) : goneB g true ⟨r, (d : Int), 0⟩ = befB ⟨r, (d : Int), 0⟩ g := by simp [goneB]

theorem drop_later (most m : Nat → Nat) (l : Pl) : ∀ (n : Nat) (c : Nat → Nat) (g : Pl) (s : Bool), n ≤ 100 → Jv c noMb most (lst m) g s → (∀ r d : Nat, goneB g s ⟨r, (d : Int), 0⟩ = true → befB ⟨r, (d : Int), 0⟩ l = true) → (missL most m n c).length < n → dropW l (missL most m n c) = missL most m 100 (aheadC l)
  | 0, _, _, _, _, _, _, h => by omega
  | n + 1, c, g, s, hn, hJ, hG, hl => by
    have hA := Jv.ahead l most m
    cases hf : fstM c most m with
    | none =>
      rw [missL_none _ _ _ _ hf, dropW_nil]
      refine (missL_none _ _ _ _ (fstM_all _ _ _ fun d hd => ?_)).symm
      have h1 := fstM_none c most m hf d hd
      rcases Nat.eq_zero_or_pos (most d) with h0 | h0
      · omega
      · have h2 := ((hJ d hd).2 (most d) h0 (Nat.le_refl _)).1 h1
        exact ((hA d hd).2 (most d) h0 (Nat.le_refl _)).2 (by rw [gone_true]; exact hG _ _ h2)
    | some p =>
      rw [missL_some _ _ _ _ _ hf] at hl ⊢
      cases hp : befB p l with
      | true =>
        rw [dropW_yes l p _ hp]
        refine drop_later most m l n _ p false (by omega) (hJ.step p hf) (fun r d hg => ?_) (by simpa using hl)
        obtain ⟨d0, _, _, _, rfl, _⟩ := fstM_some c most m p hf
        rw [gone_iff] at hg
        rw [bef_yes] at hp ⊢
        dsimp only at hg hp ⊢
        simp only [true_and] at hg
        omega
      | false =>
        rw [dropW_no l p _ hp, ← missL_some _ _ _ _ _ hf]
        have hJ2 : Jv c noMb most (lst m) l true := fun d hd => ⟨Nat.zero_le _, fun r h1 h2 => by
          rw [gone_true]
          constructor
          · intro hr
            exact hG r d (((hJ d hd).2 r h1 h2).1 hr)
          · intro hb
            rcases Nat.lt_or_ge (c d) r with hr | hr
            · exfalso
              obtain ⟨d0, _, _, _, rfl, hmin⟩ := fstM_some c most m p hf
              have hm := hmin d hd (by omega)
              rw [bef_no] at hm hp
              rw [bef_yes] at hb
              dsimp only at hm hp hb
              omega
            · exact hr⟩
        have e1 := from_eq noMb most m (n + 1) c l true hJ2
        have e2 := from_eq noMb most m (n + 1) (aheadC l) l true hA
        rw [← e1, e2]
        refine (missL_more most m (n + 1) 100 _ ?_ hn).symm
        rw [← e2, e1, missL_some _ _ _ _ _ hf]
        exact hl
theorem rest_later (most m : Nat → Nat) (g l : Pl) (h : befB l g = false) (hl : (missL most m 100 (aheadC g)).length < 100) : dropW l (missL most m 100 (aheadC g)) = missL most m 100 (aheadC l) := by
  refine drop_later most m l 100 _ g true (Nat.le_refl _) (Jv.ahead g most m) (fun r d hg => ?_) hl
  rw [gone_true] at hg
  rw [bef_yes] at hg ⊢
  rw [bef_no] at h
  dsimp only at hg ⊢
  omega

/- One step of what is missing, and what stays true. -/
theorem miss_step (most m : Nat → Nat) (c : Nat → Nat) (p : Pl) (h : fstM c most m = some p) (e : Nat) (he : e ∈ lst m) (hc : putC c p.f.toNat p.r e < most e) : befB p ⟨putC c p.f.toNat p.r e + 1, (e : Int), 0⟩ = true := by
  obtain ⟨d0, _, _, hlt, rfl, hmin⟩ := fstM_some c most m p h
  rw [bef_yes]
  simp only [Int.toNat_natCast, putC] at hc ⊢
  by_cases x : e = d0
  · subst x
    rw [if_pos rfl]
    exact .inl (Nat.lt_succ_self _)
  · rw [if_neg x] at hc ⊢
    have hm := hmin e he hc
    rw [bef_no] at hm
    dsimp only at hm
    omega

section
variable {α : Type} {f : α → List Value} {k : Nat}

/- 'l[i:]': the slice without its first ones. -/
theorem cut_li {P : Program} (hk : ∀ x, (f x).length = k) {ops : Array Oper} {rest : List Oper} {op : Oper} {a : Act} {Q : Exit → Act → World → Prop} (hgd : op.guard = none) (x y : Operand) {t T : TypeId} (ho : op.op = .slice t x (some y) none none)
    (ht : P.underlying t = some (.slice (P.elem t))) (hT : P.elem t = T) (hsz : ∀ w, (sizeOf T).run P w = .ok k w) {B : Nat} {ad : Option Addr} {L : List α} {i n c : Nat} {w : World} (h : Li f B ad L w) (hn : L.length = n) (hi : i ≤ n) (hc : n ≤ c) (hx : a.eval x = .slice ad n c) (hy : a.eval y = .int .i64 (i : Int))
    (hK : ∀ ad', Li f B ad' (L.drop i) w → wpList P ops Q rest (a.put op.dst (.slice ad' (n - i) (c - i))) w) : wpList P ops Q (op :: rest) a w := by
  refine wpList_plain hgd fun K hK' => ?_
  have hr : (Instr.slice t (.slice ad n c) (some (.int .i64 (i : Int))) none none).run P w = .ok (.slice (if c = i then ad else ad.map (·.add (i * k))) (n - i) (c - i)) w := by
    rw [run_slice_l w t ad n c ht .i64 i (by omega) (by omega), hT, hsz w]
    simp only [Result.andThen, sliced, Int.toNat_natCast]
  have hL : Li f B (if c = i then ad else ad.map (·.add (i * k))) (L.drop i) w := by
    by_cases h1 : c = i
    · have : L.drop i = [] := List.drop_eq_nil_of_le (by omega)
      rw [this]
      exact Li.nil _ _ _
    · rw [if_neg h1]
      rcases h with h | ⟨b, o, rfl, hB, hlt, hr⟩
      · subst h
        rw [List.drop_nil]
        exact Li.nil _ _ _
      · have := range_drop hk hr i (by omega)
        exact .inr ⟨b, o + i * k, by simp [Addr.add_mid], hB, hlt, this⟩
  have hk2 := hK' _ _ (hK _ hL)
  unfold Oper.wp execOp
  simp only [ho, Option.map_some, Option.map_none, hx, hy, Sem.run_bind, run_sliceAt_slice _ _ _ _ _ _ ht, hr, Result.andThen_ok, Sem.run_pure]
  exact hk2

end

end Go.Proofs.Ytodemfkjieonoaa
