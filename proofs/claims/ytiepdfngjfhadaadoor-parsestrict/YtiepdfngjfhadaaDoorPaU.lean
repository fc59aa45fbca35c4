/-
  What the variables of the library and of the program hold where the call begins.
  No condition.
-/
import Derived.Test.YtiepdfngjfhadaaDoorPaX
import Derived.Test.YtiepdfngjfhadaaDoorRows
import Derived.Stop.LaidErr
import Derived.LaidLaws
import Derived.Lib.LaidU8
namespace Go.Proofs.YtiepdfngjfhadaaDoor
set_option maxRecDepth 10000
open Go.RowKit Go.Sort Go.ChangeShapes
set_option linter.unusedVariables false
set_option linter.unusedSimpArgs false

theorem err_row (u : TypeId) (hu : Tryd.prog.typeName? 3 u = some "*errors.errorString") : u = 112 :=
  typeName_ptr_named (nm := "errors.errorString") (by kernel_rfl) (by kernel_rfl) (by decide) u hu
theorem typePow : (Tryd.prog.globals[2]?).map (·.type) = some 97 := by kernel_rfl
theorem cellsPow : Tryd.prog.cellsOf 97 = 20 := by kernel_rfl
theorem cellsU64 : Tryd.prog.cellsOf 22 = 1 := by kernel_rfl
theorem named64 : Tryd.prog.globalNamed "math/bits.deBruijn64tab" = some 7 := by kernel_rfl
theorem tab_datum : (Rows.laid_internal_strconv_uint64pow10 : DataW Unit) = Lib.tabData .u64 Lib.pow10Tab := by kernel_rfl
/- Two fields, a string and an int, as they read. -/
theorem form_elem {W : World} {fuel : Nat} {cs : List Value} {b : ByteArray} {n : Int} {q : List MemPlace} (h : DataW.trod (fun _ => ()) Tryd.prog W 0 (fun _ => true) false fuel 55 cs = some (.agg [.lit (.string b.data.toList), .lit (.int .i64 n)], q)) : cs = [.string b, .int .i64 n] := by
  have hC : Tryd.prog.cellsOf 55 = 2 := by kernel_rfl
  have hcs : Tryd.prog.cellsOf 9 = 1 := by kernel_rfl
  have hci : Tryd.prog.cellsOf 3 = 1 := by kernel_rfl
  obtain ⟨xs, m, _, hx, hlen, hl, hg⟩ := DataW.trod_struct Tryd.underlying55 h
  rw [hC] at hlen
  match cs, hlen with
  | [c0, c1], _ =>
    match xs, hl with
    | [y0, y1], _ =>
      have g0 := hg 0 _ rfl
      have g1 := hg 1 _ rfl
      simp [hcs, hci] at g0 g1
      obtain ⟨x0, e0, z0, _⟩ := DataW.trod_string Tryd.underlying9 g0
      obtain ⟨x1, e1, z1, _⟩ := DataW.trod_int Tryd.underlying3 g1
      simp at e0 e1
      subst e0 e1 z0 z1
      simp at hx
      obtain ⟨⟨h0, h1⟩, _⟩ := hx
      have hb : x0 = b := ByteArray.ext h0.symm
      rw [hb, h1]
theorem str_elem {W : World} {fuel : Nat} {cs : List Value} {b : ByteArray} {q : List MemPlace} (h : DataW.trod (fun _ => ()) Tryd.prog W 0 (fun _ => true) false fuel 9 cs = some (.lit (.string b.data.toList), q)) : cs = [.string b] := by
  obtain ⟨x0, e0, z0, _⟩ := DataW.trod_string Tryd.underlying9 h
  simp at z0
  have hb : x0 = b := ByteArray.ext z0.1.symm
  rw [e0, hb]
def formDs : List (DataW Unit) := (List.range 7).map fun d => .agg [.lit (.string (kB d).data.toList), .lit (.int .i64 (saysN d))]
def servDs : List (DataW Unit) := (List.range 4).map fun d => .lit (.string (sB d).data.toList)
theorem form_datum : (Rows.laid_congress_parse_forms : DataW Unit) = .agg formDs := by kernel_rfl
theorem serv_datum : (Rows.laid_congress_parse_services : DataW Unit) = .agg servDs := by kernel_rfl
theorem formDs_get (d : Nat) (h : d < 7) : formDs[d]? = some (.agg [.lit (.string (kB d).data.toList), .lit (.int .i64 (saysN d))]) := by simp [formDs, h]
theorem servDs_get (d : Nat) (h : d < 4) : servDs[d]? = some (.lit (.string (sB d).data.toList)) := by simp [servDs, h]
theorem forms_of {W : World} (h : Lib.VarReads Tryd.prog W "congress/parse.forms" Rows.laid_congress_parse_forms) : W.rangeAt 0 0 formV := by
  obtain ⟨g, t, cs, fuel, p, hg, hty, hvar, hd⟩ := h
  obtain rfl := Option.some.inj ((show Tryd.prog.globalNamed "congress/parse.forms" = some 0 by kernel_rfl).symm.trans hg)
  obtain rfl := Option.some.inj ((show (Tryd.prog.globals[0]?).map (·.type) = some 56 by kernel_rfl).symm.trans hty)
  rw [form_datum] at hd
  have hce : Tryd.prog.cellsOf 55 = 2 := by kernel_rfl
  have key : ∀ i, i < 7 → (cs.toList.drop (i * 2)).take 2 = [.string (kB i), .int .i64 (saysN i)] := fun i hi => by
    obtain ⟨f', d, q, h1, h2⟩ := Lib.array_elem Tryd.underlying56 hd i hi
    rw [formDs_get i hi] at h1
    rw [← Option.some.inj h1, hce] at h2
    exact form_elem h2
  intro j v hv
  have hj : j < 14 := (List.getElem?_eq_some_iff.1 hv).1
  have hc := World.var?_cell (P := Tryd.prog) (n := "congress/parse.forms") hg hvar j
  rw [Nat.zero_add, hc, ← Array.getElem?_toList]
  have k := key (j / 2) (by omega)
  have k2 : cs.toList[j]? = ((cs.toList.drop (j / 2 * 2)).take 2)[j % 2]? := by
    rw [List.getElem?_take, if_pos (by omega), List.getElem?_drop, show j / 2 * 2 + j % 2 = j by omega]
  rw [k2, k, ← hv]
  have : j = 0 ∨ j = 1 ∨ j = 2 ∨ j = 3 ∨ j = 4 ∨ j = 5 ∨ j = 6 ∨ j = 7 ∨ j = 8 ∨ j = 9 ∨ j = 10 ∨ j = 11 ∨ j = 12 ∨ j = 13 := by omega
  rcases this with rfl | rfl | rfl | rfl | rfl | rfl | rfl | rfl | rfl | rfl | rfl | rfl | rfl | rfl <;> rfl
theorem servs_of {W : World} (h : Lib.VarReads Tryd.prog W "congress/parse.services" Rows.laid_congress_parse_services) : W.rangeAt 1 0 servV := by
  obtain ⟨g, t, cs, fuel, p, hg, hty, hvar, hd⟩ := h
  obtain rfl := Option.some.inj ((show Tryd.prog.globalNamed "congress/parse.services" = some 1 by kernel_rfl).symm.trans hg)
  obtain rfl := Option.some.inj ((show (Tryd.prog.globals[1]?).map (·.type) = some 69 by kernel_rfl).symm.trans hty)
  rw [serv_datum] at hd
  have hce : Tryd.prog.cellsOf 9 = 1 := by kernel_rfl
  have key : ∀ i, i < 4 → (cs.toList.drop (i * 1)).take 1 = [.string (sB i)] := fun i hi => by
    obtain ⟨f', d, q, h1, h2⟩ := Lib.array_elem Tryd.underlying69 hd i hi
    rw [servDs_get i hi] at h1
    rw [← Option.some.inj h1, hce] at h2
    exact str_elem h2
  intro j v hv
  have hj : j < 4 := (List.getElem?_eq_some_iff.1 hv).1
  have hc := World.var?_cell (P := Tryd.prog) (n := "congress/parse.services") hg hvar j
  rw [Nat.zero_add, hc, ← Array.getElem?_toList]
  have k := key j hj
  have k2 : cs.toList[j]? = ((cs.toList.drop (j * 1)).take 1)[0]? := by
    rw [List.getElem?_take, if_pos (by omega), List.getElem?_drop, Nat.mul_one, Nat.add_zero]
  rw [k2, k, ← hv]
  have : j = 0 ∨ j = 1 ∨ j = 2 ∨ j = 3 := by omega
  rcases this with rfl | rfl | rfl | rfl <;> rfl
theorem te_of {W : World} {r : List (String × DataW Unit)} (h : laidMet Tryd.prog (("math/bits.deBruijn32tab", Rows.laid_math_bits_deBruijn32tab) :: ("math/bits.deBruijn64tab", Rows.laid_math_bits_deBruijn64tab) :: ("internal/strconv.uint64pow10", Rows.laid_internal_strconv_uint64pow10) :: ("strconv.ErrRange", Rows.laid_strconv_ErrRange) :: ("strconv.ErrSyntax", Rows.laid_strconv_ErrSyntax) :: ("congress/parse.forms", Rows.laid_congress_parse_forms) :: ("congress/parse.services", Rows.laid_congress_parse_services) :: r) W) : Te W := by
  have h2 := h.tail
  have h3 := h2.tail
  have hr := h3.tail
  have hs := hr.tail
  obtain ⟨a1, s1, v1, _⟩ := laid_sentinel hr (g := 5) (ti := 66) (tp := 112) (te := 114) (by kernel_rfl) (by kernel_rfl) Tryd.underlying66 err_row Tryd.underlying112 Tryd.underlying114 rfl rfl Tryd.underlying9 (by kernel_rfl) (by kernel_rfl)
  obtain ⟨a0, s0, v0, _⟩ := laid_sentinel hs (g := 4) (ti := 66) (tp := 112) (te := 114) (by kernel_rfl) (by kernel_rfl) Tryd.underlying66 err_row Tryd.underlying112 Tryd.underlying114 rfl rfl Tryd.underlying9 (by kernel_rfl) (by kernel_rfl)
  have hbig : 8 ≤ W.heap.size := by
    obtain ⟨ps, ⟨g, t, cs, fuel, p, q, hg, ht, hv, _⟩, _⟩ := h2
    rw [named64] at hg
    cases hg
    unfold World.var? at hv
    rw [named64] at hv
    simp only [Option.bind_some] at hv
    rcases Nat.lt_or_ge 7 W.heap.size with h' | h'
    · omega
    · rw [Array.getElem?_eq_none h'] at hv; cases hv
  rw [tab_datum] at h3
  exact ⟨Lib.tabIs_of_head namedPow typePow Tryd.underlying97 Tryd.underlying22 cellsU64 cellsPow h3,
    ⟨_, _, World.var?_cell (P := Tryd.prog) (n := "strconv.ErrSyntax") (by kernel_rfl) v0 0⟩, ⟨_, _, World.var?_cell (P := Tryd.prog) (n := "strconv.ErrRange") (by kernel_rfl) v1 0⟩,
    forms_of (Lib.laidMet.reads h (by simp)), servs_of (Lib.laidMet.reads h (by simp)), hbig⟩

end Go.Proofs.YtiepdfngjfhadaaDoor
