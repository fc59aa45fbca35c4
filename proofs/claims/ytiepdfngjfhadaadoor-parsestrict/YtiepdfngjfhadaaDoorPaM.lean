/-
  Requests: which calls may be, and their prints, as plain functions; unlike calls have unlike prints.
  No condition.
-/
import Derived.Test.YtiepdfngjfhadaaDoorPa
import Derived.Test.YtiepdfngjfhadaaDoorDg
namespace Go.Proofs.YtiepdfngjfhadaaDoor
set_option maxRecDepth 10000
open Go.RowKit Go.Sort

/- The first words: open, close, mint, revoke, join, leave, send; the services' words: fifo, causal, agreed, safe. -/
def kindW (d : Nat) : List UInt8 := match d with
  | 0 => [111, 112, 101, 110]
  | 1 => [99, 108, 111, 115, 101]
  | 2 => [109, 105, 110, 116]
  | 3 => [114, 101, 118, 111, 107, 101]
  | 4 => [106, 111, 105, 110]
  | 5 => [108, 101, 97, 118, 101]
  | _ => [115, 101, 110, 100]
def servW (s : Nat) : List UInt8 := match s with
  | 0 => [102, 105, 102, 111]
  | 1 => [99, 97, 117, 115, 97, 108]
  | 2 => [97, 103, 114, 101, 101, 100]
  | _ => [115, 97, 102, 101]
def noT : ByteArray := ⟨#[]⟩
/- What a call of each kind asks for: nothing else. -/
def MayC (c : Ca) : Prop :=
  (c.d = 0 ∧ c = ⟨0, 0, 0, 0, 0, 0, noT⟩) ∨ (c.d = 1 ∧ c = ⟨1, c.h, 0, 0, 0, 0, noT⟩) ∨ (c.d = 2 ∧ 1 ≤ c.g ∧ c.g ≤ 7 ∧ c = ⟨2, c.h, 0, c.g, 0, 0, noT⟩) ∨ (c.d = 3 ∧ c = ⟨3, c.h, c.o, 0, 0, 0, noT⟩) ∨
  (c.d = 4 ∧ 0 ≤ c.gr ∧ c.gr ≤ 7 ∧ c = ⟨4, c.h, 0, 0, c.gr, 0, noT⟩) ∨ (c.d = 5 ∧ 0 ≤ c.gr ∧ c.gr ≤ 7 ∧ c = ⟨5, c.h, 0, 0, c.gr, 0, noT⟩) ∨
  (c.d = 6 ∧ 0 ≤ c.gr ∧ c.gr ≤ 7 ∧ 0 ≤ c.sv ∧ c.sv ≤ 3 ∧ c.t.size ≤ 16 ∧ c = ⟨6, c.h, 0, 0, c.gr, c.sv, c.t⟩)
/- What stands behind the first word. -/
def behC (c : Ca) : List UInt8 :=
  if c.d = 0 then [] else 32 :: (digs c.h ++
    (if c.d = 2 then 32 :: sgns c.g else if c.d = 3 then 32 :: digs c.o else if 3 < c.d then 32 :: (sgns c.gr ++ (if c.d = 6 then 32 :: (servW c.sv.toNat ++ 32 :: 61 :: bL c.t) else [])) else []))
def printL (c : Ca) : List UInt8 := kindW c.d.toNat ++ behC c
theorem kindW_no (d : Nat) : (32 : UInt8) ∉ kindW d := by
  unfold kindW
  split <;> decide
theorem servW_no (d : Nat) : (32 : UInt8) ∉ servW d := by
  unfold servW
  split <;> decide
theorem kindW_inj {a b : Nat} (ha : a ≤ 6) (hb : b ≤ 6) (h : kindW a = kindW b) : a = b := by
  have h1 : a = 0 ∨ a = 1 ∨ a = 2 ∨ a = 3 ∨ a = 4 ∨ a = 5 ∨ a = 6 := by omega
  have h2 : b = 0 ∨ b = 1 ∨ b = 2 ∨ b = 3 ∨ b = 4 ∨ b = 5 ∨ b = 6 := by omega
  rcases h1 with rfl | rfl | rfl | rfl | rfl | rfl | rfl <;> rcases h2 with rfl | rfl | rfl | rfl | rfl | rfl | rfl <;> first | rfl | (exfalso; revert h; decide)
theorem servW_inj {a b : Nat} (ha : a ≤ 3) (hb : b ≤ 3) (h : servW a = servW b) : a = b := by
  have h1 : a = 0 ∨ a = 1 ∨ a = 2 ∨ a = 3 := by omega
  have h2 : b = 0 ∨ b = 1 ∨ b = 2 ∨ b = 3 := by omega
  rcases h1 with rfl | rfl | rfl | rfl <;> rcases h2 with rfl | rfl | rfl | rfl <;> first | rfl | (exfalso; revert h; decide)
/- A word up to the first x, or to the end. -/
theorem word_inj {x : UInt8} {a b : List UInt8} (ha : x ∉ a) (hb : x ∉ b) {r s : List UInt8} (hr : r = [] ∨ ∃ q, r = x :: q) (hs : s = [] ∨ ∃ q, s = x :: q) (h : a ++ r = b ++ s) : a = b ∧ r = s := by
  rcases hr with rfl | ⟨q, rfl⟩ <;> rcases hs with rfl | ⟨p, rfl⟩
  · exact ⟨by simpa using h, rfl⟩
  · rw [List.append_nil] at h
    exact absurd (by rw [h]; simp) ha
  · rw [List.append_nil] at h
    exact absurd (by rw [← h]; simp) hb
  · obtain ⟨h1, h2⟩ := cut_inj ha hb h
    exact ⟨h1, by rw [h2]⟩
theorem behC_or (c : Ca) : behC c = [] ∨ ∃ q, behC c = 32 :: q := by
  unfold behC
  split
  · exact .inl rfl
  · exact .inr ⟨_, rfl⟩
theorem MayC.range {c : Ca} (h : MayC c) : 0 ≤ c.d ∧ c.d ≤ 6 := by
  rcases h with h | h | h | h | h | h | h <;> omega
theorem tl_or (c : Ca) : (if c.d = 2 then 32 :: sgns c.g else if c.d = 3 then 32 :: digs c.o else if 3 < c.d then 32 :: (sgns c.gr ++ (if c.d = 6 then 32 :: (servW c.sv.toNat ++ 32 :: 61 :: bL c.t) else [])) else []) = ([] : List UInt8) ∨ ∃ q, (if c.d = 2 then 32 :: sgns c.g else if c.d = 3 then 32 :: digs c.o else if 3 < c.d then 32 :: (sgns c.gr ++ (if c.d = 6 then 32 :: (servW c.sv.toNat ++ 32 :: 61 :: bL c.t) else [])) else []) = (32 : UInt8) :: q := by
  split
  · exact .inr ⟨_, rfl⟩
  · split
    · exact .inr ⟨_, rfl⟩
    · split
      · exact .inr ⟨_, rfl⟩
      · exact .inl rfl
theorem d32 : isDig 32 = false := rfl
/- Unlike calls have unlike prints. -/
theorem printL_inj {a b : Ca} (ha : MayC a) (hb : MayC b) (h : printL a = printL b) : a = b := by
  have ra := ha.range
  have rb := hb.range
  unfold printL at h
  obtain ⟨h1, h2⟩ := word_inj (kindW_no _) (kindW_no _) (behC_or a) (behC_or b) h
  have hd : a.d = b.d := by
    have := kindW_inj (by omega) (by omega) h1
    omega
  clear h h1
  unfold behC at h2
  by_cases h0 : a.d = 0
  · rcases ha with ⟨_, ha⟩ | h | h | h | h | h | h
    · rcases hb with ⟨_, hb⟩ | h | h | h | h | h | h
      · rw [ha, hb]
      all_goals omega
    all_goals omega
  · have h0' : ¬ b.d = 0 := by omega
    rw [if_neg h0, if_neg h0'] at h2
    have h2 := (List.cons.inj h2).2
    obtain ⟨h3, h4⟩ := word_inj (digs_no d32 _) (digs_no d32 _) (tl_or a) (tl_or b) h2
    have hh : a.h = b.h := digs_inj h3
    clear h2 h3
    rcases ha with ⟨q, ha⟩ | ⟨q, ha⟩ | ⟨q, a1, a2, ha⟩ | ⟨q, ha⟩ | ⟨q, a1, a2, ha⟩ | ⟨q, a1, a2, ha⟩ | ⟨q, a1, a2, a3, a4, a5, ha⟩ <;> rcases hb with ⟨p, hb⟩ | ⟨p, hb⟩ | ⟨p, b1, b2, hb⟩ | ⟨p, hb⟩ | ⟨p, b1, b2, hb⟩ | ⟨p, b1, b2, hb⟩ | ⟨p, b1, b2, b3, b4, b5, hb⟩ <;> first | omega | skip
    · rw [ha, hb, hh]
    · rw [if_pos q, if_pos p] at h4
      rw [ha, hb, hh, sgns_inj (List.cons.inj h4).2]
    · rw [if_neg (by omega), if_pos q, if_neg (by omega), if_pos p] at h4
      rw [ha, hb, hh, digs_inj (List.cons.inj h4).2]
    · rw [if_neg (by omega), if_neg (by omega), if_pos (by omega), if_neg (by omega), if_neg (by omega), if_neg (by omega), if_pos (by omega), if_neg (by omega), List.append_nil, List.append_nil] at h4
      rw [ha, hb, hh, sgns_inj (List.cons.inj h4).2]
    · rw [if_neg (by omega), if_neg (by omega), if_pos (by omega), if_neg (by omega), if_neg (by omega), if_neg (by omega), if_pos (by omega), if_neg (by omega), List.append_nil, List.append_nil] at h4
      rw [ha, hb, hh, sgns_inj (List.cons.inj h4).2]
    · rw [if_neg (by omega), if_neg (by omega), if_pos (by omega), if_pos q, if_neg (by omega), if_neg (by omega), if_pos (by omega), if_pos p] at h4
      have h5 := (List.cons.inj h4).2
      obtain ⟨h6, h7⟩ := cut_inj (sgns_no d32 (by decide) _) (sgns_no d32 (by decide) _) h5
      obtain ⟨h8, h9⟩ := cut_inj (servW_no _) (servW_no _) h7
      have hs : a.sv = b.sv := by
        have := servW_inj (by omega) (by omega) h8
        omega
      have h10 := (List.cons.inj h9).2
      rw [ha, hb, hh, sgns_inj h6, hs, bL_inj h10]
/- What request says what: as far as there is one. -/
def IsCall (s : List UInt8) (o : Option Ca) : Prop := match o with | some c => MayC c ∧ c.h < 18446744073709551616 ∧ c.o < 18446744073709551616 ∧ printL c = s | none => ∀ c, MayC c → c.h < 18446744073709551616 → c.o < 18446744073709551616 → printL c ≠ s
theorem IsCall.one {s : List UInt8} {o p : Option Ca} (h : IsCall s o) (k : IsCall s p) : o = p := by
  cases o with
  | none =>
    cases p with
    | none => rfl
    | some c => exact absurd k.2.2.2 (h c k.1 k.2.1 k.2.2.1)
  | some c =>
    cases p with
    | none => exact absurd h.2.2.2 (k c h.1 h.2.1 h.2.2.1)
    | some b => rw [printL_inj h.1 k.1 (h.2.2.2.trans k.2.2.2.symm)]

end Go.Proofs.YtiepdfngjfhadaaDoor
