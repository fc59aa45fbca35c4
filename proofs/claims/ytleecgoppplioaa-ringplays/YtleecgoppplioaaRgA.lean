/-
  Rings: what one holds, as a list; what New, Many, Room and place return.
  Condition, where one is: each theorem says its own.
-/
import Derived.Test.YtleecgoppplioaaEn
namespace Go.Proofs.Ytleecgoppplioaa
set_option maxRecDepth 10000
open Go.RowKit Go.Sort

theorem below_draws (B : Nat) (w : World) (n : Nat) : Below B w (w.drewN n) := ⟨rfl, rfl, rfl, Nat.le_refl _, fun _ _ => rfl⟩

def rgc (G room first many : Nat) : Array Value := #[.slice (some ⟨G, 0, none⟩) room room, .int .i64 (first : Int), .int .i64 (many : Int)]
/- The ring at R, with its buffers at G, holds the entries L. -/
def Rg (R G room : Nat) (L : List En) (w : World) : Prop :=
  ∃ (first : Nat) (bufs : List En), Blk R (rgc G room first L.length) 50 w ∧ Blk G (flat En.vals bufs).toArray 30 w ∧ R ≠ G ∧ bufs.length = room ∧ L.length ≤ room ∧ room ≤ 64 ∧
    (first < room ∨ (room = 0 ∧ first = 0)) ∧ ∀ i x, L[i]? = some x → bufs[(first + i) % room]? = some x

theorem Rg.kp {R G room : Nat} {L : List En} {S : List Nat} {w w' : World} (h : Rg R G room L w) (hk : Kp S w w') (hR : R ∉ S) (hG : G ∉ S) : Rg R G room L w' := by
  obtain ⟨first, bufs, h1, h2, h3⟩ := h
  exact ⟨first, bufs, h1.kp hk hR, h2.kp hk hG, h3⟩
theorem Rg.below {R G room : Nat} {L : List En} {w w' : World} (h : Rg R G room L w) (hb : Below w.heap.size w w') : Rg R G room L w' := h.kp (S := []) (Kp.of_below hb) (by simp) (by simp)
theorem Rg.lt {R G room : Nat} {L : List En} {w : World} (h : Rg R G room L w) : R < w.heap.size ∧ G < w.heap.size := by
  obtain ⟨_, _, h1, h2, _⟩ := h
  exact ⟨h1.lt, h2.lt⟩
theorem Rg.le {R G room : Nat} {L : List En} {w : World} (h : Rg R G room L w) : L.length ≤ room ∧ room ≤ 64 := by
  obtain ⟨_, _, _, _, _, _, h1, h2, _⟩ := h
  exact ⟨h1, h2⟩

theorem rg_cells {R G room first many : Nat} {T : TypeId} {w : World} (h : Blk R (rgc G room first many) T w) :
    w.cell? ⟨R, 0, none⟩ = some (.slice (some ⟨G, 0, none⟩) room room) ∧ w.cell? ⟨R, 1, none⟩ = some (.int .i64 (first : Int)) ∧ w.cell? ⟨R, 2, none⟩ = some (.int .i64 (many : Int)) :=
  ⟨h.cell 0 _ rfl, h.cell 1 _ rfl, h.cell 2 _ rfl⟩

theorem many_ok {R G room : Nat} {L : List En} {w : World} (h : Rg R G room L w) : Calls Try.prog 17 #[.pointer (some ⟨R, 0, none⟩)] w fun r w' => r = .returned (.int .i64 (L.length : Int)) ∧ w' = w := by
  obtain ⟨first, bufs, h1, _⟩ := h
  obtain ⟨c0, c1, c2⟩ := rg_cells h1
  go_enter Try.func17, Try.ntmps17
  go_wp2_with fail
  go_ret
  exact ⟨rfl, rfl⟩

theorem room_ok {R G room : Nat} {L : List En} {w : World} (h : Rg R G room L w) : Calls Try.prog 18 #[.pointer (some ⟨R, 0, none⟩)] w fun r w' => r = .returned (.int .i64 (room : Int)) ∧ w' = w := by
  obtain ⟨first, bufs, h1, _⟩ := h
  obtain ⟨c0, c1, c2⟩ := rg_cells h1
  go_enter Try.func18, Try.ntmps18
  go_wp2_with fail
  go_ret
  exact ⟨rfl, rfl⟩

theorem place_ok {R G room first many : Nat} {w : World} (h : Blk R (rgc G room first many) 50 w) (hr : room ≤ 64) (hf : first < room) (i : Nat) (hi : i ≤ 64) :
    Calls Try.prog 20 #[.pointer (some ⟨R, 0, none⟩), .int .i64 (i : Int)] w fun r w' => r = .returned (.int .i64 (((first + i) % room : Nat) : Int)) ∧ Below w.heap.size w w' := by
  obtain ⟨c0, c1, c2⟩ := rg_cells h
  have k0 : ¬ (room : Int) = 0 := by omega
  have k1 : IntKind.i64.wrap ((first : Int) + (i : Int)) = (first : Int) + (i : Int) := IntWalk.i64_in _ (by omega)
  have k2 : ((first : Int) + (i : Int)).tmod (room : Int) = (((first + i) % room : Nat) : Int) := by
    rw [show (first : Int) + (i : Int) = ((first + i : Nat) : Int) by omega]
    rfl
  go_enter Try.func20, Try.ntmps20
  go_wp2_with fail
  go_quiet (fail)
  have hb := below_draws w.heap.size w nq
  generalize w.drewN nq = w2 at hb ⊢
  go_wp2_with fail
  go_ret
  exact ⟨rfl, hb⟩

end Go.Proofs.Ytleecgoppplioaa
