/-
  What the document's Push, Peek and Drop return, of a ring that is a list.
  Condition, where one is: the list has at most 64 entries.
-/
import Derived.Test.YtleecgoppplioaaRgF
namespace Go.Proofs.Ytleecgoppplioaa
set_option maxRecDepth 10000
open Go.RowKit Go.Sort

theorem rpush_full (a : Option Addr) (L : List En) (w : World) (c room : Nat) (hge : room ≤ L.length) (e : En) :
    Calls Try.prog 9 #[.slice a L.length c, .int .i64 (room : Int), .agg e.arr] w fun r w' => r = .returned (.tuple #[.slice a L.length c, .bool false]) ∧ Below w.heap.size w w' := by
  have hs := e.arr_size
  have hb := below_box w (.cells e.arr 30)
  generalize e.arr = C at *
  generalize L.length = n at *
  have h1 : (room : Int) ≤ (n : Int) := by omega
  go_enter Try.func9, Try.ntmps9
  go_wp2_with fail
  go_ret2
  exact ⟨rfl, hb⟩

def Grew (L : List En) (e : En) (w : World) (r : Ending) (w' : World) : Prop := ∃ a c, r = .returned (.tuple #[.slice a (L ++ [e]).length c, .bool true]) ∧ Li En.vals w.heap.size a (L ++ [e]) w' ∧ Below w.heap.size w w' ∧ (L ++ [e]).length ≤ c

/- The first of two appends onto an empty row: what there is behind it. -/
theorem grown_once {w W w1 : World} {e : En} {g g1 c1 : Nat} {L : List En} (hg : w.heap.size < g) (ow : Ow En.vals 6 30 g1 c1 ([] ++ L) w1) (k1 : Kp [g] W w1) (hg1 : g1 = g ∨ W.heap.size ≤ g1) (kb : Kp [] w W) (hW : g < W.heap.size) (hbx : Blk w.heap.size e.arr 30 W) :
    Ow En.vals 6 30 g1 c1 L (w1.alloc (.cells e.arr 30)) ∧ Blk w.heap.size e.arr 30 w1 ∧ Kp [] w (w1.alloc (.cells e.arr 30)) ∧ w.heap.size < g1 ∧
      Src Try.prog 6 27 (.slice (some ⟨w1.heap.size, 0, none⟩) 1 1) 1 (flat En.vals [e]) (w1.alloc (.cells e.arr 30)) := by
  rw [List.nil_append] at ow
  refine ⟨ow.kp (Kp.alloc [] w1 _) (by simp), hbx.kp k1 (by simp; omega), (kb.new k1 (by omega)).trans (Kp.alloc _ _ _), by omega, ?_⟩
  exact (li_box (f := En.vals) w1 e 30 0 (Nat.zero_le _)).src (P := Try.prog) En.vals_length En.vals_one Try.underlying27 1

theorem grown_two {w W w2 : World} {e : En} {g g2 c2 : Nat} {L : List En} (hg : w.heap.size < g) (ow : Ow En.vals 6 30 g2 c2 (L ++ [e]) w2) (k2 : Kp [g] W w2) (hg2 : g2 = g ∨ W.heap.size ≤ g2) (kb : Kp [] w W) : Grew L e w (.returned (.tuple #[.slice (some ⟨g2, 0, none⟩) (L ++ [e]).length c2, .bool true])) w2 := by
  have hs := kb.size
  exact ⟨_, _, rfl, ow.li (by omega), (kb.new k2 (by omega)).all, ow.cap⟩

set_option maxHeartbeats 4000000 in
theorem rpush_room {B : Nat} {a : Option Addr} {L : List En} {w : World} (hL : Li En.vals B a L w) (c room : Nat) (hr : room ≤ 64) (hlt : L.length < room) (e : En) :
    Calls Try.prog 9 #[.slice a L.length c, .int .i64 (room : Int), .agg e.arr] w (Grew L e w) := by
  obtain ⟨i, z, hi, hz, hs, hby, hzs⟩ := infoEn
  have h6 := e.arr_size
  have ho := e.arr_one
  have h1 : ¬ (room : Int) ≤ (L.length : Int) := by omega
  have hb1 := (below_box w (.cells e.arr 30)).alloc (by simp) (.cells #[] 30)
  have hL1 := hL.below hb1
  have hz1 : (w.alloc (.cells e.arr 30)).heap.size = w.heap.size + 1 := by simp
  have hE := blk_new (w.alloc (.cells e.arr 30)) #[] 30
  rw [hz1] at hE
  have ow0 : Ow En.vals 6 30 (w.heap.size + 1) 0 [] ((w.alloc (.cells e.arr 30)).alloc (.cells #[] 30)) := Ow.empty hE
  have hbx : Blk w.heap.size e.arr 30 ((w.alloc (.cells e.arr 30)).alloc (.cells #[] 30)) := (blk_new _ _ _).alloc _
  have src0 := hL1.src (P := Try.prog) En.vals_length En.vals_one Try.underlying27 c
  have kb1 : Kp [] w ((w.alloc (.cells e.arr 30)).alloc (.cells #[] 30)) := Kp.of_below hb1
  have wz : w.heap.size < w.heap.size + 1 := by omega
  have wz2 : w.heap.size + 1 < ((w.alloc (.cells e.arr 30)).alloc (.cells #[] 30)).heap.size := by simp
  have hm : maxLen = 9223372036854775807 := rfl
  have Hm : Hid (maxLen = 9223372036854775807) := hm
  clear hE hz1 hb1 hL hL1 hm
  go_enter Try.func9, Try.ntmps9
  go_wp2_with (first
    | (at_builtin; refine append_ow (M := [e]) En.vals_length rfl (.tmp 17) (.tmp 19) rfl Try.underlying27 hi hz hs hby hzs ow1 rfl src1 rfl (by simp; omega) (by rw [Hm.out]; simp; omega) ?_; intro g2 c2 w2 ow2 k2 hg2; have hfin := grown_two lt1 ow2 k2 hg2 kw1; clear ow2 k2 hg2 ow1 src1 hbx1; obtain ⟨n2, hn2⟩ : ∃ n, Hid ((L ++ [e]).length = n) := ⟨_, rfl⟩; rw [hn2.out] at hfin ⊢)
    | refine load_blk rfl 30 _ rfl hbx1 rfl Try.underlying30 rfl e.size ?_
    | refine box_en rfl _ rfl e rfl ?_
    | (at_builtin; refine append_ow En.vals_length rfl (.tmp 14) (.tmp 15) rfl Try.underlying27 hi hz hs hby hzs ow0 rfl src0 rfl (by simp; omega) (by rw [Hm.out]; simp; omega) ?_; intro g1 c1 w1 ow1 k1 hg1; obtain ⟨ow1, hbx1, kw1, lt1, src1⟩ := grown_once wz ow1 k1 hg1 kb1 wz2 hbx))
  go_ret2
  exact hfin

end Go.Proofs.Ytleecgoppplioaa
