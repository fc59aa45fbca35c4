/-
  Two entries beside one that are laid as copies of it; and plain facts on the bytes of entries that differ in the text or the number alone.
  No condition.
-/
import Derived.Test.YtokkjnlccgmpiaaEntFx
namespace Go.Proofs.Ytokkjnlccgmpiaa
open Go.RowKit Go.Sort

def Pair (B : Nat) (k sv g se n : Int) (t : ByteArray) (w : World) (pf pg : Value) (wx : World) : Prop :=
  ∃ F G : Nat, pf = .pointer (some ⟨F, 0, none⟩) ∧ pg = .pointer (some ⟨G, 0, none⟩) ∧ F ≠ G ∧ B < F ∧ B < G ∧ F < wx.heap.size ∧ G < wx.heap.size ∧
    EntAt F k sv g se n t wx ∧ EntAt G k sv g se n t wx ∧ EntFree F wx ∧ EntFree G wx ∧ EntAt B k sv g se n t wx ∧ Below B w wx

theorem drew_at {B : Nat} {k sv g se n : Int} {t : ByteArray} {w : World} (h : EntAt B k sv g se n t w) : EntAt B k sv g se n t w.drew := h
theorem drew_free {B : Nat} {w : World} (h : EntFree B w) : EntFree B w.drew := h

theorem trio (w : World) (k sv g se n : Int) (t : ByteArray) (T : TypeId) (a : Bool) :
    Pair w.heap.size k sv g se n t w (.pointer (some ⟨if a then w.heap.size + 1 else w.heap.size + 1 + 1, 0, none⟩)) (.pointer (some ⟨if a then w.heap.size + 1 + 1 else w.heap.size + 1, 0, none⟩))
      ((((w.alloc (.cells #[.int .i64 k, .int .i64 sv, .int .i64 g, .int .u64 se, .int .u64 n, .string t] T)).alloc (.cells #[.int .i64 k, .int .i64 sv, .int .i64 g, .int .u64 se, .int .u64 n, .string t] T)).alloc (.cells #[.int .i64 k, .int .i64 sv, .int .i64 g, .int .u64 se, .int .u64 n, .string t] T)).drew) := by
  have s1 : (w.alloc (.cells #[.int .i64 k, .int .i64 sv, .int .i64 g, .int .u64 se, .int .u64 n, .string t] T)).heap.size = w.heap.size + 1 := by simp
  have s2 : ((w.alloc (.cells #[.int .i64 k, .int .i64 sv, .int .i64 g, .int .u64 se, .int .u64 n, .string t] T)).alloc (.cells #[.int .i64 k, .int .i64 sv, .int .i64 g, .int .u64 se, .int .u64 n, .string t] T)).heap.size = w.heap.size + 2 := by simp
  have s3 : (((w.alloc (.cells #[.int .i64 k, .int .i64 sv, .int .i64 g, .int .u64 se, .int .u64 n, .string t] T)).alloc (.cells #[.int .i64 k, .int .i64 sv, .int .i64 g, .int .u64 se, .int .u64 n, .string t] T)).alloc (.cells #[.int .i64 k, .int .i64 sv, .int .i64 g, .int .u64 se, .int .u64 n, .string t] T)).heap.size = w.heap.size + 3 := by simp
  have b1 := below_box w (.cells #[.int .i64 k, .int .i64 sv, .int .i64 g, .int .u64 se, .int .u64 n, .string t] T)
  have b2 := below_box (w.alloc (.cells #[.int .i64 k, .int .i64 sv, .int .i64 g, .int .u64 se, .int .u64 n, .string t] T)) (.cells #[.int .i64 k, .int .i64 sv, .int .i64 g, .int .u64 se, .int .u64 n, .string t] T)
  have b3 := below_box ((w.alloc (.cells #[.int .i64 k, .int .i64 sv, .int .i64 g, .int .u64 se, .int .u64 n, .string t] T)).alloc (.cells #[.int .i64 k, .int .i64 sv, .int .i64 g, .int .u64 se, .int .u64 n, .string t] T)) (.cells #[.int .i64 k, .int .i64 sv, .int .i64 g, .int .u64 se, .int .u64 n, .string t] T)
  have e1 := ((ent_box w k sv g se n t T).below (by rw [s1]; omega) b2).below (by rw [s2]; omega) b3
  have e2 := (ent_box (w.alloc (.cells #[.int .i64 k, .int .i64 sv, .int .i64 g, .int .u64 se, .int .u64 n, .string t] T)) k sv g se n t T).below (by rw [s2, s1]; omega) b3
  have e3 := ent_box ((w.alloc (.cells #[.int .i64 k, .int .i64 sv, .int .i64 g, .int .u64 se, .int .u64 n, .string t] T)).alloc (.cells #[.int .i64 k, .int .i64 sv, .int .i64 g, .int .u64 se, .int .u64 n, .string t] T)) k sv g se n t T
  have f2 := (ent_free (w.alloc (.cells #[.int .i64 k, .int .i64 sv, .int .i64 g, .int .u64 se, .int .u64 n, .string t] T)) #[.int .i64 k, .int .i64 sv, .int .i64 g, .int .u64 se, .int .u64 n, .string t] T).below (by rw [s2, s1]; omega) b3
  have f3 := ent_free ((w.alloc (.cells #[.int .i64 k, .int .i64 sv, .int .i64 g, .int .u64 se, .int .u64 n, .string t] T)).alloc (.cells #[.int .i64 k, .int .i64 sv, .int .i64 g, .int .u64 se, .int .u64 n, .string t] T)) #[.int .i64 k, .int .i64 sv, .int .i64 g, .int .u64 se, .int .u64 n, .string t] T
  rw [s1] at e2 f2
  rw [s2] at e3 f3
  have hb : Below w.heap.size w ((((w.alloc (.cells #[.int .i64 k, .int .i64 sv, .int .i64 g, .int .u64 se, .int .u64 n, .string t] T)).alloc (.cells #[.int .i64 k, .int .i64 sv, .int .i64 g, .int .u64 se, .int .u64 n, .string t] T)).alloc (.cells #[.int .i64 k, .int .i64 sv, .int .i64 g, .int .u64 se, .int .u64 n, .string t] T)).drew) :=
    (b1.trans ((b2.mono (by rw [s1]; omega)).trans (b3.mono (by rw [s2]; omega)))).drew
  have hs : ((((w.alloc (.cells #[.int .i64 k, .int .i64 sv, .int .i64 g, .int .u64 se, .int .u64 n, .string t] T)).alloc (.cells #[.int .i64 k, .int .i64 sv, .int .i64 g, .int .u64 se, .int .u64 n, .string t] T)).alloc (.cells #[.int .i64 k, .int .i64 sv, .int .i64 g, .int .u64 se, .int .u64 n, .string t] T)).drew).heap.size = w.heap.size + 3 := s3
  cases a
  · exact ⟨w.heap.size + 1 + 1, w.heap.size + 1, rfl, rfl, by omega, by omega, by omega, by rw [hs]; omega, by rw [hs]; omega, drew_at e3, drew_at e2, drew_free f3, drew_free f2, drew_at e1, hb⟩
  · exact ⟨w.heap.size + 1, w.heap.size + 1 + 1, rfl, rfl, by omega, by omega, by omega, by rw [hs]; omega, by rw [hs]; omega, drew_at e2, drew_at e3, drew_free f2, drew_free f3, drew_at e1, hb⟩

theorem text_set {F G B : Nat} {k sv g se n m : Int} {t x : ByteArray} {w : World} (hFG : F ≠ G) (hBF : B < F) (hBG : B < G)
    (eF : EntAt F k sv g se n t w) (eG : EntAt G k sv g se n t w) (eB : EntAt B k sv g se n t w) :
    EntAt F k sv g se n x ((w.setCell ⟨F, 5, none⟩ (.string x)).setCell ⟨G, 4, none⟩ (.int .u64 m)) ∧
    EntAt G k sv g se m t ((w.setCell ⟨F, 5, none⟩ (.string x)).setCell ⟨G, 4, none⟩ (.int .u64 m)) ∧
    EntAt B k sv g se n t ((w.setCell ⟨F, 5, none⟩ (.string x)).setCell ⟨G, 4, none⟩ (.int .u64 m)) := by
  obtain ⟨a0, a1, a2, a3, a4, a5⟩ := eF
  obtain ⟨b0, b1, b2, b3, b4, b5⟩ := eG
  obtain ⟨c0, c1, c2, c3, c4, c5⟩ := eB
  have n1 : ¬ F = G := hFG
  have n2 : ¬ G = F := fun e => hFG e.symm
  have n3 : ¬ B = F := by omega
  have n4 : ¬ B = G := by omega
  have n5 : ¬ F = B := by omega
  have n6 : ¬ G = B := by omega
  refine ⟨⟨?_, ?_, ?_, ?_, ?_, ?_⟩, ⟨?_, ?_, ?_, ?_, ?_, ?_⟩, ⟨?_, ?_, ?_, ?_, ?_, ?_⟩⟩
  all_goals simp [World.cell?_setCell_same', World.cell?_setCell_other, *]

namespace Ent
def head5 (k sv g se : Nat) : ByteArray := Pack.putB k 1 ++ Pack.putB sv 1 ++ Pack.putB g 1 ++ Pack.putB se 2
theorem head5_size (k sv g se : Nat) : (head5 k sv g se).size = 5 := by
  unfold head5
  simp only [ByteArray.size_append, Pack.putB_size]
theorem bytes_5 (k sv g se n : Nat) (t : ByteArray) : bytes k sv g se n t = head5 k sv g se ++ (Pack.putB n 4 ++ (Pack.textB t 16 ++ ⟨#[0, 0]⟩)) := by
  unfold bytes head5
  simp only [ByteArray.append_assoc]
theorem bytes_9 (k sv g se n : Nat) (t : ByteArray) : bytes k sv g se n t = (head5 k sv g se ++ Pack.putB n 4) ++ (Pack.textB t 16 ++ ⟨#[0, 0]⟩) := by
  rw [bytes_5, ByteArray.append_assoc]
theorem head9_size (k sv g se n : Nat) : (head5 k sv g se ++ Pack.putB n 4).size = 9 := by
  rw [ByteArray.size_append, head5_size, Pack.putB_size]
theorem front_9 (k sv g se n : Nat) (t x : ByteArray) : (bytes k sv g se n t).extract 0 9 = (bytes k sv g se n x).extract 0 9 := by
  rw [bytes_9, bytes_9, Pack.front _ _ 9 (head9_size _ _ _ _ _), Pack.front _ _ 9 (head9_size _ _ _ _ _)]
theorem front_5 (k sv g se n m : Nat) (t : ByteArray) : (bytes k sv g se n t).extract 0 5 = (bytes k sv g se m t).extract 0 5 := by
  rw [bytes_5, bytes_5, Pack.front _ _ 5 (head5_size _ _ _ _), Pack.front _ _ 5 (head5_size _ _ _ _)]
theorem behind_9 (k sv g se n m : Nat) (t : ByteArray) : (bytes k sv g se n t).extract 9 28 = (bytes k sv g se m t).extract 9 28 := by
  have h1 := Pack.behind _ (Pack.textB t 16 ++ ⟨#[0, 0]⟩) 9 (head9_size k sv g se n)
  have h2 := Pack.behind _ (Pack.textB t 16 ++ ⟨#[0, 0]⟩) 9 (head9_size k sv g se m)
  rw [← bytes_9, bytes_size] at h1 h2
  rw [h1, h2]
end Ent
end Go.Proofs.Ytokkjnlccgmpiaa
