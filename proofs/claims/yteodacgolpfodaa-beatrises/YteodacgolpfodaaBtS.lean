/-
  A clock that is at its beginning, or came of one by ticks and by daemons that were heard: what holds of it; lists of who is heard.
  No condition.
-/
import Derived.Test.YteodacgolpfodaaBtP
namespace Go.Proofs.Yteodacgolpfodaa
set_option maxRecDepth 10000
open Go.ChangeShapes Go.WideShapes Go.ChangeAt Go.RowKit Go.WideElems Go.Sort

structure Inv (b : Bt) : Prop where
  top : ∀ k, k < 8 → b.hd k ≤ b.now
  nil : ∀ k, k < 8 → (b.hd k = 0 ↔ b.inc k = 0)
structure Stp (b c : Bt) : Prop where
  inv : Inv c
  now : b.now ≤ c.now
  hd : ∀ k, k < 8 → b.hd k ≤ c.hd k
  inc : ∀ k, k < 8 → b.inc k ≤ c.inc k
theorem inv_zero : Inv Bt.zero := ⟨fun _ _ => Nat.le_refl _, fun _ _ => Iff.rfl⟩
theorem Stp.refl {b : Bt} (h : Inv b) : Stp b b := ⟨h, Nat.le_refl _, fun _ _ => Nat.le_refl _, fun _ _ => Nat.le_refl _⟩
theorem stp_tick {b : Bt} (h : Inv b) : Stp b (tickB b) := by
  have e : b.now ≤ (tickB b).now := by
    show b.now ≤ if b.now < 4294967295 then b.now + 1 else b.now
    split <;> omega
  exact ⟨⟨fun k hk => Nat.le_trans (h.top k hk) e, h.nil⟩, e, fun _ _ => Nat.le_refl _, fun _ _ => Nat.le_refl _⟩
theorem stp_hear {b : Bt} (h : Inv b) (i : Int) (n : Nat) : Stp b (hearB b i n) := by
  cases hh : hearsB b i n with
  | false => rw [hearB_no hh]; exact Stp.refl h
  | true =>
    rw [hearB_yes hh]
    obtain ⟨h0, h1, h2, h3, h4⟩ := hearsB_iff.1 hh
    refine ⟨⟨fun k hk => ?_, fun k hk => ?_⟩, Nat.le_refl _, fun k hk => ?_, fun k hk => ?_⟩
    · by_cases e : k = i.toNat
      · subst e; exact Nat.le_of_eq (put8_same _ _ _)
      · exact Nat.le_trans (Nat.le_of_eq (put8_ne _ _ _ _ e)) (h.top k hk)
    · by_cases e : k = i.toNat
      · subst e
        simp only [put8_same]
        omega
      · simp only [put8_ne _ _ _ _ e]
        exact h.nil k hk
    · by_cases e : k = i.toNat
      · subst e; exact Nat.le_trans (h.top _ hk) (Nat.le_of_eq (put8_same _ _ _).symm)
      · exact Nat.le_of_eq (put8_ne _ _ _ _ e).symm
    · by_cases e : k = i.toNat
      · subst e; exact Nat.le_trans h4 (Nat.le_of_eq (put8_same _ _ _).symm)
      · exact Nat.le_of_eq (put8_ne _ _ _ _ e).symm

def hp (x : Int × Nat) : List Value := hv x.1 x.2
theorem hp_length (x : Int × Nat) : (hp x).length = 2 := rfl

/- An element's two cells. -/
def Hx (b o : Nat) (i : Int) (n : Nat) (w : World) : Prop := b < w.heap.size ∧ w.cell? ⟨b, o, none⟩ = some (.int .i64 i) ∧ w.cell? ⟨b, o + 1, none⟩ = some (.int .u32 (n : Int))
theorem Hx.of_block {b o : Nat} {i : Int} {n : Nat} {w w' : World} (h : Hx b o i n w) (hs : w.heap.size ≤ w'.heap.size) (hb : w'.heap[b]? = w.heap[b]?) : Hx b o i n w' :=
  ⟨Nat.lt_of_lt_of_le h.1 hs, (World.cell?_of_block (w := w) (w' := w') (a := ⟨b, o, none⟩) hb).trans h.2.1, (World.cell?_of_block (w := w) (w' := w') (a := ⟨b, o + 1, none⟩) hb).trans h.2.2⟩
theorem Hx.below {b o : Nat} {i : Int} {n : Nat} {w w' : World} (h : Hx b o i n w) (hb : Below w.heap.size w w') : Hx b o i n w' := h.of_block hb.size (hb.block b h.1)
theorem Hx.kp {b o : Nat} {i : Int} {n : Nat} {S : List Nat} {w w' : World} (h : Hx b o i n w) (hb : Kp S w w') (hne : b ∉ S) : Hx b o i n w' := h.of_block hb.size (hb.block b h.1 hne)
theorem Hx.drew {b o : Nat} {i : Int} {n : Nat} {w : World} (h : Hx b o i n w) : Hx b o i n w.drew := h
theorem Hx.range {b o : Nat} {x : Int × Nat} {w : World} (hb : b < w.heap.size) (h : w.rangeAt b o (hp x)) : Hx b o x.1 x.2 w := ⟨hb, h 0 _ rfl, h 1 _ rfl⟩

section
variable {H : Type} {enc : TypeId × Value → H} {W : World} {base : Nat} {spare : Nat → Bool} {held : Bool}

theorem open_hds {v : Value} {d : DataW H} {p : List MemPlace} (hv' : ∃ a n c, v = .slice a n c) (h : DataW.Trod enc Try.prog W base spare held 35 v d p) :
    ∃ (a : Option Addr) (L : List (Int × Nat)) (c : Nat), v = .slice a L.length c ∧ L.length ≤ maxLen ∧ Li hp 0 a L W :=
  open_li (0, 0) hp_length (by decide) Try.underlying35 (by kernel_rfl) (fun h => by obtain ⟨i, n, e, _⟩ := hd_cells rfl h; exact ⟨(i, n), e⟩) hv' h
end

end Go.Proofs.Yteodacgolpfodaa
