/-
  For the laws: what is kept since a world; elements of lists that lie somewhere; lists of frames and of events as arguments.
  No condition.
-/
import Derived.Test.YthgmecgknhphmaaCeU
import Derived.Test.YthgmecgknhphmaaBase
namespace Go.RowKit

theorem Below.below {u w w' : World} (h : Below u.heap.size u w) (hb : Below w.heap.size w w') : Below u.heap.size u w' := h.trans (hb.mono h.size)

end Go.RowKit
namespace Go.Proofs.Ythgmecgknhphmaa
set_option maxRecDepth 10000
open Go.ChangeShapes Go.WideShapes Go.ChangeAt Go.RowKit Go.WideElems Go.Sort

theorem below_kp {b : Nat} {u w w' : World} (h : Below u.heap.size u w) (hk : Kp [b] w w') (hb : u.heap.size ≤ b) : Below u.heap.size u w' := h.trans (hk.below1 hb h.size)
theorem Li.rng {α : Type} {f : α → List Value} {k : Nat} (hk : ∀ x, (f x).length = k) {B b o : Nat} {L : List α} {w : World} (h : Li f B (some ⟨b, o, none⟩) L w) (i : Nat) (x : α) (hx : L[i]? = some x) : w.rangeAt b (o + i * k) (f x) := by
  obtain ⟨b', o', e, _, _, hr⟩ := h.at hk i x hx
  injection e with e
  injection e with e1 e2 e3
  subst e1 e2
  exact hr
theorem Li.cel {α : Type} {f : α → List Value} {k : Nat} (hk : ∀ x, (f x).length = k) {B b o : Nat} {L : List α} {w : World} (h : Li f B (some ⟨b, o, none⟩) L w) (i : Nat) (x : α) (hx : L[i]? = some x) (j : Nat) (v : Value) (hv : (f x)[j]? = some v) : w.cell? ⟨b, o + i * k + j, none⟩ = some v := h.rng hk i x hx j v hv

/- An event. -/
structure Ev where
  t : Bool
  f : Nat → En
  p : Pk
def Ev.vals (x : Ev) : List Value := .bool x.t :: (frv x.f ++ pkl x.p)
def Ev.arr (x : Ev) : Array Value := x.vals.toArray
def Ev.zero : Ev := ⟨false, noFr, Pk.zero⟩
theorem Ev.vals_length (x : Ev) : x.vals.length = 182 := rfl
theorem Ev.arr_one (x : Ev) : x.arr.all (·.oneCell') = true := by kernel_rfl
theorem sizeEv : (Try.prog.info? 61).map (·.size) = some 182 := by kernel_rfl
theorem zeroEv : (Try.prog.info? 61).map (fun i => (i.zero, i.size)) = some (some (.agg Ev.zero.arr), 182) := by kernel_rfl
theorem Ev.get_t (x : Ev) : x.arr[0]? = some (.bool x.t) := rfl
theorem Ev.p_f (x : Ev) : (x.arr.extract 1 (1 + (frv x.f).length)).toList = frv x.f := by kernel_rfl
theorem Ev.p_p (x : Ev) : (x.arr.extract 37 (37 + (pkl x.p).length)).toList = pkl x.p := by kernel_rfl
theorem Ev.all (x y : Ev) : putAt x.arr 0 y.arr.toList = y.arr := putAt_all _ _ rfl

section
variable {H : Type} {enc : TypeId × Value → H} {W : World} {base : Nat} {spare : Nat → Bool} {held : Bool}

theorem cellsFr {cs : List Value} {fuel : Nat} {x : DataW H × List MemPlace} (h : DataW.trod enc Try.prog W base spare held fuel 41 cs = some x) : ∃ e : Nat → En, cs = frv e := fr_cells rfl h
theorem open_frs {v : Value} {d : DataW H} {p : List MemPlace} (hv : ∃ a n c, v = .slice a n c) (h : DataW.Trod enc Try.prog W base spare held 68 v d p) :
    ∃ (a : Option Addr) (L : List (Nat → En)) (c : Nat), v = .slice a L.length c ∧ L.length ≤ maxLen ∧ Li frv 0 a L W :=
  open_li noFr frv_length (by decide) Try.underlying68 (by kernel_rfl) cellsFr hv h
theorem pk_cells {l : List Value} {fuel : Nat} {o : DataW H × List MemPlace} (h : DataW.trod enc Try.prog W base spare held fuel 50 l = some o) : ∃ p : Pk, l = pkl p := by
  obtain ⟨p, e⟩ := open_packet (v := .agg l.toArray) (d := o.1) (p := o.2) ⟨_, rfl⟩ ⟨fuel, by simpa [Value.cells] using h⟩
  exact ⟨p, by injection e with e; simpa [pkc] using congrArg Array.toList e⟩
theorem cellsEv {cs : List Value} {fuel : Nat} {x : DataW H × List MemPlace} (h : DataW.trod enc Try.prog W base spare held fuel 61 cs = some x) : ∃ e : Ev, cs = e.vals := by
  have hC : Try.prog.cellsOf 61 = 182 := by kernel_rfl
  have h1 : Try.prog.cellsOf 4 = 1 := by kernel_rfl
  have h2 : Try.prog.cellsOf 41 = 36 := by kernel_rfl
  have h3 : Try.prog.cellsOf 50 = 145 := by kernel_rfl
  obtain ⟨xs, k, _, _, hlen, hl, hg⟩ := DataW.trod_struct Try.underlying61 h
  have hl3 : xs.length = 3 := hl
  have g0 := hg 0 _ rfl
  have g1 := hg 1 _ rfl
  have g2 := hg 2 _ rfl
  rw [hC] at hlen
  obtain ⟨b, e0⟩ := bool_cell (by rw [List.getElem?_eq_getElem (by omega)]; rfl) g0
  obtain ⟨f, e1⟩ := fr_cells (by rw [List.getElem?_eq_getElem (by omega)]; rfl) g1
  change (cs.drop 0).take (Try.prog.cellsOf 4) = _ at e0
  change (cs.drop 1).take (Try.prog.cellsOf 41) = _ at e1
  rw [h1] at e0
  rw [h2] at e1
  change DataW.trod enc Try.prog W base spare held k 50 ((cs.drop 37).take (Try.prog.cellsOf 50)) = _ at g2
  rw [h3] at g2
  obtain ⟨y, hy⟩ : ∃ y, xs[2]? = some y := ⟨_, List.getElem?_eq_getElem (by omega)⟩
  rw [hy] at g2
  obtain ⟨p, e2⟩ := pk_cells g2
  have z : cs.drop 182 = [] := List.drop_eq_nil_of_le (by omega)
  have e : cs = (cs.drop 0).take 1 ++ ((cs.drop 1).take 36 ++ (cs.drop 37).take 145) := by
    conv => lhs; rw [← List.drop_zero (l := cs), more cs 0 1, more cs 1 36, more cs 37 145, z, List.append_nil]
  refine ⟨⟨b, f, p⟩, ?_⟩
  rw [e, e0, e1, e2]
  rfl
theorem open_evs {v : Value} {d : DataW H} {p : List MemPlace} (hv : ∃ a n c, v = .slice a n c) (h : DataW.Trod enc Try.prog W base spare held 57 v d p) :
    ∃ (a : Option Addr) (L : List Ev) (c : Nat), v = .slice a L.length c ∧ L.length ≤ maxLen ∧ Li Ev.vals 0 a L W :=
  open_li Ev.zero Ev.vals_length (by decide) Try.underlying57 (by kernel_rfl) cellsEv hv h

end

theorem u32_of (n : Int) (h : (Lit.int .u32 n).wf = true) : ∃ x : Nat, n = (x : Int) ∧ x < 4294967296 := by
  simp [Lit.wf, IntKind.min, IntKind.max, IntKind.signed, IntKind.bits] at h
  exact ⟨n.toNat, by omega, by omega⟩

end Go.Proofs.Ythgmecgknhphmaa
