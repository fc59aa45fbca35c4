/-
  Entries as plain data: their six cells; two of them compared; an entry, and a list of entries, as arguments.
  No condition.
-/
import Derived.Test.YtmnpbjaofemelaaLi
namespace Go.Proofs.Ytmnpbjaofemelaa
set_option maxRecDepth 10000
open Go.ChangeShapes Go.WideShapes Go.ChangeAt Go.RowKit Go.WideElems Go.Sort

structure En where
  k : Int
  sv : Int
  g : Int
  se : Nat
  n : Nat
  t : ByteArray

def En.vals (e : En) : List Value := [.int .i64 e.k, .int .i64 e.sv, .int .i64 e.g, .int .u64 (e.se : Int), .int .u64 (e.n : Int), .string e.t]
def En.zero : En := ⟨0, 0, 0, 0, 0, ⟨#[]⟩⟩
def En.arr (e : En) : Array Value := e.vals.toArray

theorem En.vals_length (e : En) : e.vals.length = 6 := rfl
theorem En.arr_size (e : En) : e.arr.size = 6 := rfl
theorem En.vals_one (e : En) : ∀ v ∈ e.vals, v.oneCell' = true := by
  intro v hv
  simp [En.vals] at hv
  rcases hv with rfl | rfl | rfl | rfl | rfl | rfl <;> rfl
theorem En.arr_one (e : En) : e.arr.all (·.oneCell') = true := all_oneCell_toArray e.vals_one

theorem sizeEn : (Try.prog.info? 45).map (·.size) = some 6 := by kernel_rfl
theorem En.size (e : En) : (Try.prog.info? 45).map (·.size) = some e.arr.size := sizeEn
theorem zeroEn : (Try.prog.info? 45).map (fun i => (i.zero, i.size)) = some (some (.agg En.zero.arr), 6) := by kernel_rfl
theorem builtEn : Try.prog.built 45 [] = some En.zero.arr := by kernel_rfl
theorem infoEn : ∃ i z, Try.prog.info? 45 = some i ∧ i.zero = some z ∧ i.size = 6 ∧ i.bytes = 56 ∧ z.cells.size = 6 := by
  have h : (Try.prog.info? 45).map (fun i => (i.zero, i.size, i.bytes)) = some (some (.agg En.zero.arr), 6, 56) := by kernel_rfl
  obtain ⟨i, hi, h0, h1, h2⟩ := info_parts h
  exact ⟨i, _, hi, h0, h1, h2, rfl⟩

theorem bsEn (e : En) (w : World) : (Instr.buildSlice 24 1 #[(0, .agg e.arr)]).run Try.prog w = .ok (.slice (some ⟨w.heap.size, 0, none⟩) 1 1) (w.alloc (.cells e.arr 45)) := by kernel_rfl
theorem box_en {ops : Array Oper} {rest : List Oper} {op : Oper} {a : Act} {w : World} {Q : Exit → Act → World → Prop} (hgd : op.guard = none) (x : Operand) (ho : op.op = .buildSlice 24 1 #[(0, x)]) (e : En) (hx : a.eval x = .agg e.arr)
    (h : wpList Try.prog ops Q rest (a.put op.dst (.slice (some ⟨w.heap.size, 0, none⟩) 1 1)) (w.alloc (.cells e.arr 45))) : wpList Try.prog ops Q (op :: rest) a w :=
  wpList_plain hgd fun _ hK => by
    have hk := hK _ _ h
    unfold Oper.wp execOp
    simp only [ho, List.map_toArray, List.map_cons, List.map_nil, hx, Sem.run_bind, Sem.run_pure, bsEn, Result.andThen_ok]
    exact hk

def En.same (a b : En) : Bool := decide (a.k = b.k ∧ a.sv = b.sv ∧ a.g = b.g ∧ a.se = b.se ∧ a.n = b.n ∧ a.t = b.t)
theorem En.same_iff (a b : En) : En.same a b = true ↔ a = b := by
  unfold En.same
  rw [decide_eq_true_eq]
  constructor
  · rintro ⟨h0, h1, h2, h3, h4, h5⟩
    cases a; cases b
    simp_all
  · rintro rfl
    exact ⟨rfl, rfl, rfl, rfl, rfl, rfl⟩
theorem En.same_self (a : En) : En.same a a = true := (En.same_iff a a).2 rfl

theorem bytesNe {a b : ByteArray} (h : ¬ a = b) : ¬ a.toList = b.toList := by
  intro e
  rw [ByteArray.toList_eq, ByteArray.toList_eq] at e
  exact h (ByteArray.ext (Array.ext' e))

theorem equalEn (a b : En) (w : World) : (Op.equal 45 (.agg a.arr) (.agg b.arr)).run Try.prog w = .ok (En.same a b) w := by
  obtain ⟨k, sv, g, se, n, t⟩ := a
  obtain ⟨k', sv', g', se', n', t'⟩ := b
  by_cases h1 : k = k'
  · by_cases h2 : sv = sv'
    · by_cases h3 : g = g'
      · by_cases h4 : se = se'
        · by_cases h5 : n = n'
          · by_cases h6 : t = t'
            · simp [go_sem, Op.equal, Op.maxDepth, En.arr, En.vals, En.same, *]
            · have h7 := bytesNe h6
              simp [go_sem, Op.equal, Op.maxDepth, En.arr, En.vals, En.same, *]
          · simp [go_sem, Op.equal, Op.maxDepth, En.arr, En.vals, En.same, Int.ofNat_inj, *]
        · simp [go_sem, Op.equal, Op.maxDepth, En.arr, En.vals, En.same, Int.ofNat_inj, *]
      · simp [go_sem, Op.equal, Op.maxDepth, En.arr, En.vals, En.same, *]
    · simp [go_sem, Op.equal, Op.maxDepth, En.arr, En.vals, En.same, *]
  · simp [go_sem, Op.equal, Op.maxDepth, En.arr, En.vals, En.same, *]

theorem eqlEn (a b : En) (c : Bool) (h : En.same a b = c) (w : World) : (binOp .eql 45 (.agg a.arr) (.agg b.arr)).run Try.prog w = .ok (.bool c) w := by
  simp only [binOp]
  simp [equalEn, h]
theorem neqEn (a b : En) (c : Bool) (h : En.same a b = c) (w : World) : (binOp .neq 45 (.agg a.arr) (.agg b.arr)).run Try.prog w = .ok (.bool (!c)) w := by
  simp only [binOp]
  simp [equalEn, h]

section
variable {H : Type} {enc : TypeId × Value → H} {W : World} {base : Nat} {spare : Nat → Bool} {held : Bool}

theorem u64nat {n : Int} (h : (Lit.int .u64 n).wf = true) : ∃ x : Nat, n = (x : Int) ∧ x < 18446744073709551616 := by
  have hb := bounds_u64 h
  exact ⟨n.toNat, by omega, by omega⟩

theorem cellsEn {cs : List Value} {fuel : Nat} {x : DataW H × List MemPlace} (h : DataW.trod enc Try.prog W base spare held fuel 45 cs = some x) : ∃ e : En, cs = e.vals := by
  have hC : Try.prog.cellsOf 45 = 6 := by kernel_rfl
  have h3 : Try.prog.cellsOf 3 = 1 := by kernel_rfl
  have h22 : Try.prog.cellsOf 43 = 1 := by kernel_rfl
  have h9 : Try.prog.cellsOf 9 = 1 := by kernel_rfl
  obtain ⟨xs, m, _, _, hlen, hl, hg⟩ := DataW.trod_struct Try.underlying45 h
  rw [hC] at hlen
  match cs, hlen with
  | [c0, c1, c2, c3, c4, c5], _ =>
    match xs, hl with
    | [y0, y1, y2, y3, y4, y5], _ =>
      have g0 := hg 0 _ rfl
      have g1 := hg 1 _ rfl
      have g2 := hg 2 _ rfl
      have g3 := hg 3 _ rfl
      have g4 := hg 4 _ rfl
      have g5 := hg 5 _ rfl
      simp [h3, h22, h9] at g0 g1 g2 g3 g4 g5
      obtain ⟨k, e0, _, _⟩ := DataW.trod_int Try.underlying3 g0
      obtain ⟨sv, e1, _, _⟩ := DataW.trod_int Try.underlying3 g1
      obtain ⟨g, e2, _, _⟩ := DataW.trod_int Try.underlying3 g2
      obtain ⟨se, e3, _, w3⟩ := DataW.trod_int Try.underlying43 g3
      obtain ⟨n, e4, _, w4⟩ := DataW.trod_int Try.underlying43 g4
      obtain ⟨t, e5, _, _⟩ := DataW.trod_string Try.underlying9 g5
      obtain ⟨a, rfl, _⟩ := u64nat w3
      obtain ⟨b, rfl, _⟩ := u64nat w4
      simp at e0 e1 e2 e3 e4 e5
      subst e0 e1 e2 e3 e4 e5
      exact ⟨⟨k, sv, g, a, b, t⟩, rfl⟩

theorem open_ens {v : Value} {d : DataW H} {p : List MemPlace} (hv : ∃ a n c, v = .slice a n c) (h : DataW.Trod enc Try.prog W base spare held 24 v d p) :
    ∃ (a : Option Addr) (L : List En) (c : Nat), v = .slice a L.length c ∧ L.length ≤ maxLen ∧ Li En.vals 0 a L W :=
  open_li En.zero En.vals_length (by decide) Try.underlying24 (by kernel_rfl) cellsEn hv h

end

end Go.Proofs.Ytmnpbjaofemelaa
