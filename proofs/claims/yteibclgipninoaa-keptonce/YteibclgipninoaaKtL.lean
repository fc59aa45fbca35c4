/-
  Take, the program's and the document's, in one form: taken or not.
  Conditions: what is kept takes no more bytes than a list may.
-/
import Derived.Test.YteibclgipninoaaKtF
import Derived.Test.YteibclgipninoaaKtI
namespace Go.Proofs.Yteibclgipninoaa
set_option maxRecDepth 10000
open Go.RowKit Go.Sort

def takeK (L : List Kt) (c m : Nat → Nat) (x : Kt) : List Kt := if takesB c m x = true then takeL L x else L
def takeKC (c m : Nat → Nat) (x : Kt) : Nat → Nat := if takesB c m x = true then takeC c x else c

theorem takeK_len (L : List Kt) (c m : Nat → Nat) (x : Kt) : (takeK L c m x).length ≤ L.length + 1 := by
  unfold takeK
  split
  · exact takeL_len x L
  · omega

theorem take_ok (L : List Kt) (la : Option Addr) (lc : Nat) (c m : Nat → Nat) (x : Kt) (hc : ∀ i, c i < 4294967296) (hl : (L.length + 1) * 352 ≤ 140737488355328) (w : World) (lS : Li Kt.vals 0 la L w) :
    Calls Try.prog 8 #[.slice la L.length lc, .agg (mbc c), .agg (mbc m), .agg x.arr] w fun e w' => Took (takeK L c m x) (takeKC c m x) (takesB c m x) w.heap.size e w' ∧ Below w.heap.size w w' := by
  unfold takeK takeKC
  cases h : takesB c m x with
  | true => simpa using take_yes L la lc c m x hc hl h w lS
  | false => simpa using take_no L la lc c m x hc (by omega) h w lS
theorem rtake_ok (L : List Kt) (la : Option Addr) (lc : Nat) (c m : Nat → Nat) (x : Kt) (hc : ∀ i, c i < 4294967296) (hl : (L.length + 1) * 352 ≤ 140737488355328) (w : World) (lS : Li Kt.vals 0 la L w) :
    Calls Try.prog 9 #[.slice la L.length lc, .agg (mbc c), .agg (mbc m), .agg x.arr] w fun e w' => Took (takeK L c m x) (takeKC c m x) (takesB c m x) 0 e w' ∧ Below w.heap.size w w' := by
  unfold takeK takeKC
  cases h : takesB c m x with
  | true =>
    refine (rtake_yes L la lc c m x hc hl h w lS).mono fun e w' h => ⟨?_, h.2⟩
    obtain ⟨a, cp, e1, h1⟩ := h.1
    exact ⟨a, cp, by simpa using e1, by simpa using h1.mono (Nat.zero_le _)⟩
  | false => simpa using rtake_no L la lc c m x hc h w lS

end Go.Proofs.Yteibclgipninoaa
