/-
  Acts as plain data, and lists of them as arguments; a ring beside the document's list.
  No condition.
-/
import Derived.Test.YtleecgoppplioaaRgS
import Derived.Test.YtleecgoppplioaaRgU
namespace Go.Proofs.Ytleecgoppplioaa
set_option maxRecDepth 10000
open Go.ChangeShapes Go.WideShapes Go.ChangeAt Go.RowKit Go.WideElems Go.Sort

structure Ac where
  d : Int
  i : Int
  e : En
  s : Nat

def Ac.vals (x : Ac) : List Value := [.int .i64 x.d, .int .i64 x.i] ++ x.e.vals ++ [.int .u64 (x.s : Int)]
def Ac.arr (x : Ac) : Array Value := x.vals.toArray
def Ac.zero : Ac := ⟨0, 0, En.zero, 0⟩
theorem Ac.vals_length (x : Ac) : x.vals.length = 9 := rfl
theorem Ac.vals_one (x : Ac) : ∀ v ∈ x.vals, v.oneCell' = true := by
  intro v hv
  simp only [Ac.vals, List.mem_append, List.mem_cons, List.not_mem_nil, or_false] at hv
  rcases hv with ((rfl | rfl) | hv) | rfl
  · rfl
  · rfl
  · exact x.e.vals_one v hv
  · rfl
theorem Ac.arr_one (x : Ac) : x.arr.all (·.oneCell') = true := all_oneCell_toArray x.vals_one
theorem sizeAc : (Try.prog.info? 32).map (·.size) = some 9 := by kernel_rfl
theorem Ac.size (x : Ac) : (Try.prog.info? 32).map (·.size) = some x.arr.size := sizeAc
theorem zeroAc : (Try.prog.info? 32).map (fun i => (i.zero, i.size)) = some (some (.agg Ac.zero.arr), 9) := by kernel_rfl
theorem Ac.part (x : Ac) : (x.arr.extract 2 (2 + x.e.vals.length)).toList = x.e.vals := by kernel_rfl
theorem ac_cells {V : Nat} {x : Ac} {T : TypeId} {w : World} (h : Blk V x.arr T w) : w.cell? ⟨V, 0, none⟩ = some (.int .i64 x.d) ∧ w.cell? ⟨V, 1, none⟩ = some (.int .i64 x.i) ∧ w.cell? ⟨V, 8, none⟩ = some (.int .u64 (x.s : Int)) :=
  ⟨h.cell 0 _ rfl, h.cell 1 _ rfl, h.cell 8 _ rfl⟩

section
variable {H : Type} {enc : TypeId × Value → H} {W : World} {base : Nat} {spare : Nat → Bool} {held : Bool}

theorem cellsAc {cs : List Value} {fuel : Nat} {x : DataW H × List MemPlace} (h : DataW.trod enc Try.prog W base spare held fuel 32 cs = some x) : ∃ a : Ac, cs = a.vals := by
  have hC : Try.prog.cellsOf 32 = 9 := by kernel_rfl
  have h3 : Try.prog.cellsOf 3 = 1 := by kernel_rfl
  have h22 : Try.prog.cellsOf 28 = 1 := by kernel_rfl
  have h30 : Try.prog.cellsOf 30 = 6 := by kernel_rfl
  obtain ⟨xs, m, _, _, hlen, hl, hg⟩ := DataW.trod_struct Try.underlying32 h
  rw [hC] at hlen
  match cs, hlen with
  | [c0, c1, c2, c3, c4, c5, c6, c7, c8], _ =>
    match xs, hl with
    | [y0, y1, y2, y3], _ =>
      have g0 := hg 0 _ rfl
      have g1 := hg 1 _ rfl
      have g2 := hg 2 _ rfl
      have g3 := hg 3 _ rfl
      simp [h3, h22, h30] at g0 g1 g2 g3
      obtain ⟨d, e0, _, _⟩ := DataW.trod_int Try.underlying3 g0
      obtain ⟨i, e1, _, _⟩ := DataW.trod_int Try.underlying3 g1
      obtain ⟨e, e2⟩ := cellsEn g2
      obtain ⟨s, e3, _, w3⟩ := DataW.trod_int Try.underlying28 g3
      obtain ⟨a, rfl, _⟩ := u64nat w3
      simp at e0 e1 e3
      subst e0 e1 e3
      refine ⟨⟨d, i, e, a⟩, ?_⟩
      show _ = [.int .i64 d, .int .i64 i] ++ e.vals ++ [.int .u64 (a : Int)]
      rw [← e2]
      rfl

theorem open_acts {v : Value} {d : DataW H} {p : List MemPlace} (hv : ∃ a n c, v = .slice a n c) (h : DataW.Trod enc Try.prog W base spare held 22 v d p) :
    ∃ (a : Option Addr) (L : List Ac) (c : Nat), v = .slice a L.length c ∧ L.length ≤ maxLen ∧ Li Ac.vals 0 a L W :=
  open_li Ac.zero Ac.vals_length (by decide) Try.underlying22 (by kernel_rfl) cellsAc hv h
end

structure Pl (R G room B : Nat) (L : List En) (a : Option Addr) (M : List En) (w w' : World) : Prop where
  rg : Rg R G room L w'
  li : Li En.vals B a M w'
  k : Kp [] w w'
  lo : w.heap.size ≤ R ∧ w.heap.size ≤ G
  hi : R < B ∧ G < B ∧ B ≤ w'.heap.size

theorem Pl.below {R G room B : Nat} {L M : List En} {a : Option Addr} {w w1 w2 : World} (h : Pl R G room B L a M w w1) (hb : Below w1.heap.size w1 w2) : Pl R G room B L a M w w2 :=
  ⟨h.rg.below hb, h.li.below hb, h.k.trans (Kp.of_below hb), h.lo, h.hi.1, h.hi.2.1, Nat.le_trans h.hi.2.2 hb.size⟩
theorem Pl.alloc {R G room B : Nat} {L M : List En} {a : Option Addr} {w w1 : World} (h : Pl R G room B L a M w w1) (o : Obj) : Pl R G room B L a M w (w1.alloc o) := h.below (below_box _ _)
theorem Pl.ring {R G room B : Nat} {L L' M : List En} {a : Option Addr} {w w1 w2 : World} (h : Pl R G room B L a M w w1) (hr : Rg R G room L' w2) (hk : Kp [R, G] w1 w2) : Pl R G room B L' a M w w2 :=
  ⟨hr, h.li.kp hk (by have := h.hi; simp; omega), h.k.over hk h.lo.1 h.lo.2, h.lo, h.hi.1, h.hi.2.1, Nat.le_trans h.hi.2.2 hk.size⟩
theorem Pl.list {R G room B : Nat} {L M M' : List En} {a a' : Option Addr} {w w1 : World} (h : Pl R G room B L a M w w1) (hl : Li En.vals B a' M' w1) : Pl R G room B L a' M' w w1 := ⟨h.rg, hl, h.k, h.lo, h.hi⟩
theorem Pl.fresh {R G room B : Nat} {L M M' : List En} {a a' : Option Addr} {w w1 w2 : World} (h : Pl R G room B L a M w w1) (hb : Below w1.heap.size w1 w2) (hl : Li En.vals w1.heap.size a' M' w2) : Pl R G room B L a' M' w w2 := (h.below hb).list (hl.mono h.hi.2.2)
theorem Pl.ne {R G room B : Nat} {L M : List En} {a : Option Addr} {w w1 : World} (h : Pl R G room B L a M w w1) {V : Nat} (hV : w1.heap.size ≤ V) : V ∉ [R, G] := by
  have := h.rg.lt; simp; omega

theorem elemL : Try.prog.elem 27 = 30 := by kernel_rfl
theorem underL : Try.prog.underlying 27 = some (.slice (Try.prog.elem 27)) := by rw [elemL]; exact Try.underlying27
theorem sizeRun (w : World) : (sizeOf 30).run Try.prog w = .ok 6 w := Try.sizeOf30 w

theorem peek_head_nil : peekE [] 0 = En.zero := rfl
theorem peek_head_cons (y : En) (M : List En) : peekE (y :: M) 0 = y := by
  unfold peekE
  rw [if_pos (by simp)]
  rfl

theorem rpeek0_nil (a : Option Addr) (w : World) (c : Nat) : Calls Try.prog 11 #[.slice a 0 c, .int .i64 0] w fun r w' => r = .returned (.tuple #[.agg En.zero.arr, .bool false]) ∧ Below w.heap.size w w' := rpeek_none a [] w c 0 (by simp)
theorem rpeek0_cons {B : Nat} {a : Option Addr} {y : En} {M : List En} {w : World} (h : Li En.vals B a (y :: M) w) (c : Nat) : Calls Try.prog 11 #[.slice a (M.length + 1) c, .int .i64 0] w fun r w' => r = .returned (.tuple #[.agg y.arr, .bool true]) ∧ Below w.heap.size w w' := by
  have h := rpeek_some h c 0 (by simp)
  refine h.mono fun r w' hp => ?_
  obtain ⟨h1, h2⟩ := hp
  refine ⟨?_, h2⟩
  rw [h1, decide_eq_true (by simp)]
  have e := peek_head_cons y M
  exact congrArg (fun z : En => Ending.returned (.tuple #[.agg z.arr, .bool true])) e

theorem peek_as {R G room : Nat} {L : List En} {w : World} (h : Rg R G room L w) (i : Int) {e : En} {t : Bool} (he : Hid (peekE L i = e)) (ht : Hid (decide (0 ≤ i ∧ i < (L.length : Int)) = t)) : Calls Try.prog 13 #[.pointer (some ⟨R, 0, none⟩), .int .i64 i] w fun r w' => r = .returned (.tuple #[.agg e.arr, .bool t]) ∧ Below w.heap.size w w' := by
  rw [← he.out, ← ht.out]
  exact peek_ok h i
theorem rpeek_as {B : Nat} {a : Option Addr} {L : List En} {w : World} (h : Li En.vals B a L w) (c : Nat) (i : Int) {e : En} {t : Bool} (he : Hid (peekE L i = e)) (ht : Hid (decide (0 ≤ i ∧ i < (L.length : Int)) = t)) : Calls Try.prog 11 #[.slice a L.length c, .int .i64 i] w fun r w' => r = .returned (.tuple #[.agg e.arr, .bool t]) ∧ Below w.heap.size w w' := by
  rw [← he.out, ← ht.out]
  exact rpeek_ok h c i

end Go.Proofs.Ytleecgoppplioaa
