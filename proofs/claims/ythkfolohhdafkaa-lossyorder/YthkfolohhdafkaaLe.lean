/-
  Letters as plain data: their four cells; two of them compared; a list of letters, a list of texts and a pick as arguments, each list and text no longer than memory bears.
  No condition.
-/
import Derived.Test.YthkfolohhdafkaaLi
import Derived.SizedLaws
namespace Go.Proofs.Ythkfolohhdafkaa
set_option maxRecDepth 10000
open Go.ChangeShapes Go.WideShapes Go.ChangeAt Go.RowKit Go.WideElems Go.Sort

structure Le where
  fr : Int
  u : Int
  t : ByteArray
  b : Bool

def Le.vals (e : Le) : List Value := [.int .i64 e.fr, .int .i64 e.u, .string e.t, .bool e.b]
def Le.zero : Le := ⟨0, 0, ⟨#[]⟩, false⟩
def Le.arr (e : Le) : Array Value := e.vals.toArray
theorem Le.vals_length (e : Le) : e.vals.length = 4 := rfl
theorem Le.arr_size (e : Le) : e.arr.size = 4 := rfl
theorem Le.vals_one (e : Le) : ∀ v ∈ e.vals, v.oneCell' = true := by
  intro v hv
  simp [Le.vals] at hv
  rcases hv with rfl | rfl | rfl | rfl <;> rfl
theorem Le.arr_one (e : Le) : e.arr.all (·.oneCell') = true := all_oneCell_toArray e.vals_one
theorem sizeLe : (Try.prog.info? 27).map (·.size) = some 4 := by kernel_rfl
theorem sizeStr1 : (Try.prog.info? 9).map (·.size) = some 1 := by kernel_rfl
theorem sizeBool1 : (Try.prog.info? 4).map (·.size) = some 1 := by kernel_rfl
theorem zeroLe : (Try.prog.info? 27).map (fun i => (i.zero, i.size)) = some (some (.agg Le.zero.arr), 4) := by kernel_rfl
theorem builtLe : Try.prog.built 27 [] = some Le.zero.arr := by kernel_rfl
theorem infoLe : ∃ i z, Try.prog.info? 27 = some i ∧ i.zero = some z ∧ i.size = 4 ∧ i.bytes = 40 ∧ z.cells.size = 4 := by
  have h : (Try.prog.info? 27).map (fun i => (i.zero, i.size, i.bytes)) = some (some (.agg Le.zero.arr), 4, 40) := by kernel_rfl
  obtain ⟨i, hi, h0, h1, h2⟩ := info_parts h
  exact ⟨i, _, hi, h0, h1, h2, rfl⟩

theorem bsLe (e : Le) (w : World) : (Instr.buildSlice 22 1 #[(0, .agg e.arr)]).run Try.prog w = .ok (.slice (some ⟨w.heap.size, 0, none⟩) 1 1) (w.alloc (.cells e.arr 27)) := by kernel_rfl
theorem bsLe0 (w : World) : (Instr.buildSlice 22 0 #[]).run Try.prog w = .ok (.slice (some ⟨w.heap.size, 0, none⟩) 0 0) (w.alloc (.cells #[] 27)) := by kernel_rfl
theorem bsLe3 (a b c : Le) (w : World) : (Instr.buildSlice 22 3 #[(0, .agg a.arr), (1, .agg b.arr), (2, .agg c.arr)]).run Try.prog w = .ok (.slice (some ⟨w.heap.size, 0, none⟩) 3 3) (w.alloc (.cells (a.vals ++ (b.vals ++ c.vals)).toArray 27)) := by kernel_rfl
theorem box_le {ops : Array Oper} {rest : List Oper} {op : Oper} {a : Act} {w : World} {Q : Exit → Act → World → Prop} (hgd : op.guard = none) (x : Operand) (ho : op.op = .buildSlice 22 1 #[(0, x)]) (e : Le) (hx : a.eval x = .agg e.arr)
    (h : wpList Try.prog ops Q rest (a.put op.dst (.slice (some ⟨w.heap.size, 0, none⟩) 1 1)) (w.alloc (.cells e.arr 27))) : wpList Try.prog ops Q (op :: rest) a w :=
  wpList_plain hgd fun _ hK => by
    have hk := hK _ _ h
    unfold Oper.wp execOp
    simp only [ho, List.map_toArray, List.map_cons, List.map_nil, hx, Sem.run_bind, Sem.run_pure, bsLe, Result.andThen_ok]
    exact hk
theorem box_le0 {ops : Array Oper} {rest : List Oper} {op : Oper} {a : Act} {w : World} {Q : Exit → Act → World → Prop} (hgd : op.guard = none) (ho : op.op = .buildSlice 22 0 #[])
    (h : wpList Try.prog ops Q rest (a.put op.dst (.slice (some ⟨w.heap.size, 0, none⟩) 0 0)) (w.alloc (.cells #[] 27))) : wpList Try.prog ops Q (op :: rest) a w :=
  wpList_plain hgd fun _ hK => by
    have hk := hK _ _ h
    unfold Oper.wp execOp
    simp only [ho, List.map_toArray, List.map_nil, Sem.run_bind, Sem.run_pure, bsLe0, Result.andThen_ok]
    exact hk

def Le.same (a b : Le) : Bool := decide (a.fr = b.fr ∧ a.u = b.u ∧ a.t = b.t ∧ a.b = b.b)
theorem Le.same_iff (a b : Le) : Le.same a b = true ↔ a = b := by
  unfold Le.same
  rw [decide_eq_true_eq]
  constructor
  · rintro ⟨h0, h1, h2, h3⟩
    cases a; cases b
    simp_all
  · rintro rfl
    exact ⟨rfl, rfl, rfl, rfl⟩
theorem Le.same_self (a : Le) : Le.same a a = true := (Le.same_iff a a).2 rfl
theorem Le.same_no {a b : Le} (h : a ≠ b) : Le.same a b = false := by
  cases e : Le.same a b
  · rfl
  · exact absurd ((Le.same_iff a b).1 e) h

theorem leNe {a b : ByteArray} (h : ¬ a = b) : ¬ a.toList = b.toList := by
  intro e
  rw [ByteArray.toList_eq, ByteArray.toList_eq] at e
  exact h (ByteArray.ext (Array.ext' e))

theorem equalLe (a b : Le) (w : World) : (Op.equal 27 (.agg a.arr) (.agg b.arr)).run Try.prog w = .ok (Le.same a b) w := by
  obtain ⟨f, o, t, c⟩ := a
  obtain ⟨f', o', t', c'⟩ := b
  by_cases h1 : f = f'
  · by_cases h2 : o = o'
    · by_cases h3 : t = t'
      · by_cases h4 : c = c'
        · simp [go_sem, Op.equal, Op.maxDepth, Le.arr, Le.vals, Le.same, *]
        · simp [go_sem, Op.equal, Op.maxDepth, Le.arr, Le.vals, Le.same, *]
      · have h5 := leNe h3
        simp [go_sem, Op.equal, Op.maxDepth, Le.arr, Le.vals, Le.same, *]
    · simp [go_sem, Op.equal, Op.maxDepth, Le.arr, Le.vals, Le.same, *]
  · simp [go_sem, Op.equal, Op.maxDepth, Le.arr, Le.vals, Le.same, *]
theorem eqlLe (a b : Le) (c : Bool) (h : Le.same a b = c) (w : World) : (binOp .eql 27 (.agg a.arr) (.agg b.arr)).run Try.prog w = .ok (.bool c) w := by
  simp only [binOp]
  simp [equalLe, h]
theorem neqLe (a b : Le) (c : Bool) (h : Le.same a b = c) (w : World) : (binOp .neq 27 (.agg a.arr) (.agg b.arr)).run Try.prog w = .ok (.bool (!c)) w := by
  simp only [binOp]
  simp [equalLe, h]

section
variable {H : Type} {enc : TypeId × Value → H} {W : World} {base : Nat} {spare : Nat → Bool} {held : Bool}

theorem weights_all {P : Program} {e : TypeId} {n : Nat} : ∀ {ds : List (DataW H)} {d : DataW H}, d ∈ ds → n ∈ d.weights P e → n ∈ DataW.weightsAll P e ds
  | [], _, h, _ => by simp at h
  | x :: ds, d, h, hn => by
    rw [DataW.weightsAll]
    rcases List.mem_cons.1 h with rfl | h
    · exact List.mem_append_left _ hn
    · exact List.mem_append_right _ (weights_all h hn)

/- A slice as an argument: no longer than memory bears; each element as its own law says. -/
theorem open_liw {α : Type} {f : α → List Value} {k : Nat} {P : Program} {Pr : α → Prop} (e0 : α) (hk : ∀ x, (f x).length = k) (hpos : 0 < k) {TS T : TypeId} {bytes : Nat} (hu : P.underlying TS = some (.slice T)) (hC : P.cellsOf T = k) (hby : P.bytesOf T = bytes)
    (hel : ∀ {cs : List Value} {fuel : Nat} {x : DataW H × List MemPlace}, DataW.trod enc P W base spare held fuel T cs = some x → (∀ n ∈ x.1.weights P T, n ≤ reachBytes) → ∃ e : α, cs = f e ∧ Pr e)
    {v : Value} {d : DataW H} {p : List MemPlace} (hv : ∃ a n c, v = .slice a n c) (hw : ∀ n ∈ d.weights P TS, n ≤ reachBytes) (h : DataW.Trod enc P W base spare held TS v d p) :
    ∃ (a : Option Addr) (L : List α) (c : Nat), v = .slice a L.length c ∧ L.length * bytes ≤ 140737488351232 ∧ L.length ≤ c ∧ c ≤ maxLen ∧ (∀ x ∈ L, Pr x) ∧ Li f 0 a L W := by
  obtain ⟨a0, n0, c0, rfl⟩ := hv
  obtain ⟨fuel, hf⟩ := h
  rcases Go.Deep.open_slice hu hf with ⟨hc, _⟩ | ⟨a, len, cap, m, n, D, Pl, hcs, _, hlc, hcm, hm, hx, hcell⟩
  · simp [Value.cells] at hc
    obtain ⟨rfl, rfl, rfl⟩ := hc
    exact ⟨none, [], 0, rfl, by simp, by simp, Nat.zero_le _, by simp, .inl rfl⟩
  · simp [Value.cells] at hcs
    obtain ⟨rfl, rfl, rfl⟩ := hcs
    rw [hC] at hcell
    have hlm : n0 ≤ m := by rw [hm]; split <;> omega
    have hd : d = .slice ((List.range n0).map D) ((List.range (m - n0)).map fun j => D (n0 + j)) := by injection hx
    subst hd
    simp only [DataW.weights, hu, hby] at hw
    have hwt : n0 * bytes ≤ 140737488351232 := by
      have h1 := hw _ (List.mem_cons_self ..)
      simp only [List.length_map, List.length_range, reachBytes] at h1
      have h2 : n0 * bytes ≤ (n0 + (m - n0)) * bytes := Nat.mul_le_mul_right _ (by omega)
      omega
    have key : ∀ i, ∃ e : α, i < n0 → (∃ cs', W.cells? base (a.add (i * k)) k = some cs' ∧ cs' = f e) ∧ Pr e := by
      intro i
      by_cases hi : i < n0
      · obtain ⟨cs', h1, h2⟩ := hcell i (by omega)
        obtain ⟨e, he, hp⟩ := hel h2 (fun n hn => hw n (List.mem_cons_of_mem _ (List.mem_append_left _ (weights_all (List.mem_map.2 ⟨i, by simpa using hi, rfl⟩) hn))))
        exact ⟨e, fun _ => ⟨⟨cs', h1, he⟩, hp⟩⟩
      · exact ⟨e0, fun h => absurd h hi⟩
    obtain ⟨E, hE⟩ := Classical.axiomOfChoice key
    refine ⟨some a, (List.range n0).map E, c0, by simp, by simpa using hwt, by simpa using hlc, hcm, fun x hx => ?_, ?_⟩
    · obtain ⟨i, hi, rfl⟩ := List.mem_map.1 hx
      exact (hE i (by simpa using hi)).2
    by_cases h0 : n0 = 0
    · subst h0; exact .inl rfl
    · have hget : ∀ i r, i < n0 → r < k → W.cell? ((a.add (i * k)).add r) = (f (E i))[r]? := by
        intro i r hi hr
        obtain ⟨cs', h1, rfl⟩ := (hE i hi).1
        unfold World.cells? at h1
        split at h1
        · exact mapM_some_get h1 r r (by simp [hr])
        · cases h1
      have h0' := hget 0 0 (by omega) hpos
      obtain ⟨v0, hv0⟩ : ∃ v0, (f (E 0))[0]? = some v0 := ⟨_, List.getElem?_eq_getElem (by rw [hk]; exact hpos)⟩
      obtain ⟨b, o, s⟩ := a
      cases s with
      | some q =>
        rw [hv0] at h0'
        simp [World.cell?, Addr.add] at h0'
        split at h0' <;> simp_all
      | none =>
      have hfirst : W.cell? ⟨b, o, none⟩ = some v0 := by
        rw [Addr.add_mid, Addr.add_mid, hv0] at h0'
        simpa using h0'
      refine .inr ⟨b, o, rfl, Nat.zero_le _, block_lt_of_cell hfirst, fun j v hv => ?_⟩
      have hj : j < n0 * k := by
        have h := (List.getElem?_eq_some_iff.1 hv).1
        rw [flat_length hk] at h
        simpa using h
      have hd : j / k < n0 := (Nat.div_lt_iff_lt_mul hpos).2 hj
      have hmod : j % k < k := Nat.mod_lt _ hpos
      have hat := flat_get hk ((List.range n0).map E) (j / k) (E (j / k)) (by simp [hd]) (j % k) hmod
      have hjj : j / k * k + j % k = j := by rw [Nat.mul_comm]; exact Nat.div_add_mod j k
      rw [hjj] at hat
      have h := hget (j / k) (j % k) hd hmod
      rw [Addr.add_mid, Addr.add_mid] at h
      rw [show o + j = o + j / k * k + j % k by omega, h, ← hat]
      exact hv

def Le.small (x : Le) : Prop := x.t.size ≤ 140737488351232

theorem cellsLe {cs : List Value} {fuel : Nat} {x : DataW H × List MemPlace} (h : DataW.trod enc Try.prog W base spare held fuel 27 cs = some x) (hw : ∀ n ∈ x.1.weights Try.prog 27, n ≤ reachBytes) : ∃ e : Le, cs = e.vals ∧ e.small := by
  have hC : Try.prog.cellsOf 27 = 4 := by kernel_rfl
  have h3 : Try.prog.cellsOf 3 = 1 := by kernel_rfl
  have h4 : Try.prog.cellsOf 4 = 1 := by kernel_rfl
  have h9 : Try.prog.cellsOf 9 = 1 := by kernel_rfl
  obtain ⟨xs, m, _, hx, hlen, hl, hg⟩ := DataW.trod_struct Try.underlying27 h
  rw [hC] at hlen
  match cs, hlen with
  | [c0, c1, c2, c3], _ =>
    match xs, hl with
    | [y0, y1, y2, y3], _ =>
      have g0 := hg 0 _ rfl
      have g1 := hg 1 _ rfl
      have g2 := hg 2 _ rfl
      have g3 := hg 3 _ rfl
      simp [h3, h4, h9] at g0 g1 g2 g3
      obtain ⟨a, e0, _, _⟩ := DataW.trod_int Try.underlying3 g0
      obtain ⟨b, e1, _, _⟩ := DataW.trod_int Try.underlying3 g1
      obtain ⟨t, e2, z2, _⟩ := DataW.trod_string Try.underlying9 g2
      obtain ⟨c, e3, _⟩ := DataW.trod_bool Try.underlying4 g3
      simp at e0 e1 e2 e3
      subst e0 e1 e2 e3
      refine ⟨⟨a, b, t, c⟩, rfl, ?_⟩
      have hu : Try.prog.underlying 27 = some (.struct (Try.prog.fieldsOf 27)) := by kernel_rfl
      have hf4 : (Try.prog.fieldsOf 27).toList.map (·.type) = [3, 3, 9, 4] := by kernel_rfl
      have := hw t.data.toList.length (by
        rw [hx]
        simp only [DataW.weights, hu, hf4]
        exact DataW.weights_mem_each (j := 2) rfl rfl _ (by simp [z2, DataW.weights]))
      rw [Array.length_toList] at this
      exact this

theorem open_les {v : Value} {d : DataW H} {p : List MemPlace} (hv : ∃ a n c, v = .slice a n c) (hw : ∀ n ∈ d.weights Try.prog 22, n ≤ reachBytes) (h : DataW.Trod enc Try.prog W base spare held 22 v d p) :
    ∃ (a : Option Addr) (L : List Le) (c : Nat), v = .slice a L.length c ∧ L.length * 40 ≤ 140737488351232 ∧ L.length ≤ c ∧ c ≤ maxLen ∧ (∀ x ∈ L, x.small) ∧ Li Le.vals 0 a L W :=
  open_liw Le.zero Le.vals_length (by decide) Try.underlying22 (by kernel_rfl) (by kernel_rfl) cellsLe hv hw h

/- Texts. -/
def sv (s : ByteArray) : List Value := [.string s]
theorem sv_length (s : ByteArray) : (sv s).length = 1 := rfl
def small (s : ByteArray) : Prop := s.size ≤ 140737488351232
theorem cellsStr {cs : List Value} {fuel : Nat} {x : DataW H × List MemPlace} (h : DataW.trod enc Try.prog W base spare held fuel 9 cs = some x) (hw : ∀ n ∈ x.1.weights Try.prog 9, n ≤ reachBytes) : ∃ e : ByteArray, cs = sv e ∧ small e := by
  obtain ⟨t, e, z, _⟩ := DataW.trod_string Try.underlying9 h
  refine ⟨t, e, ?_⟩
  have := hw t.data.toList.length (by simp [z, DataW.weights])
  rw [Array.length_toList] at this
  exact this
theorem open_strs {v : Value} {d : DataW H} {p : List MemPlace} (hv : ∃ a n c, v = .slice a n c) (hw : ∀ n ∈ d.weights Try.prog 39, n ≤ reachBytes) (h : DataW.Trod enc Try.prog W base spare held 39 v d p) :
    ∃ (a : Option Addr) (L : List ByteArray) (c : Nat), v = .slice a L.length c ∧ L.length * 16 ≤ 140737488351232 ∧ L.length ≤ c ∧ c ≤ maxLen ∧ (∀ x ∈ L, small x) ∧ Li sv 0 a L W :=
  open_liw ByteArray.empty sv_length (by decide) Try.underlying39 (by kernel_rfl) (by kernel_rfl) cellsStr hv hw h

end

/- A pick: a link, and which letter. -/
structure Pi where
  fr : Int
  u : Int
  ix : Int
  at_ : Int
  m : Nat

def Pi.vals (x : Pi) : List Value := [.int .i64 x.fr, .int .i64 x.u, .int .i64 x.ix, .int .i64 x.at_, .int .u32 (x.m : Int)]
def Pi.arr (x : Pi) : Array Value := x.vals.toArray
def Pi.zero : Pi := ⟨0, 0, 0, 0, 0⟩
def Pi.fit (x : Pi) : Prop := -9223372036854775808 ≤ x.ix ∧ x.ix ≤ 9223372036854775807 ∧ -9223372036854775808 ≤ x.at_ ∧ x.at_ ≤ 9223372036854775807 ∧ x.m < 4294967296

section
variable {H : Type} {enc : TypeId × Value → H} {W : World} {base : Nat} {spare : Nat → Bool} {held : Bool}

theorem i64_of (n : Int) (h : (Lit.int .i64 n).wf = true) : -9223372036854775808 ≤ n ∧ n ≤ 9223372036854775807 := by
  simp [Lit.wf, IntKind.min, IntKind.max, IntKind.signed, IntKind.bits] at h
  omega
theorem u32_nat (n : Int) (h : (Lit.int .u32 n).wf = true) : ∃ x : Nat, n = (x : Int) ∧ x < 4294967296 := by
  simp [Lit.wf, IntKind.min, IntKind.max, IntKind.signed, IntKind.bits] at h
  exact ⟨n.toNat, by omega, by omega⟩
theorem open_pi {v : Value} {d : DataW H} {p : List MemPlace} (hv : ∃ cs, v = .agg cs) (h : DataW.Trod enc Try.prog W base spare held 25 v d p) : ∃ x : Pi, v = .agg x.arr ∧ x.fit := by
  obtain ⟨cs, rfl⟩ := hv
  obtain ⟨fuel, hf⟩ := h
  have hC : Try.prog.cellsOf 25 = 5 := by kernel_rfl
  have h3 : Try.prog.cellsOf 3 = 1 := by kernel_rfl
  have h4 : Try.prog.cellsOf 23 = 1 := by kernel_rfl
  obtain ⟨xs, m, _, _, hlen, hl, hg⟩ := DataW.trod_struct Try.underlying25 hf
  rw [hC] at hlen
  generalize hcs : (Value.agg cs).cells.toList = l at hlen hg
  match l, hlen with
  | [c0, c1, c2, c3, c4], _ =>
    match xs, hl with
    | [y0, y1, y2, y3, y4], _ =>
      have g0 := hg 0 _ rfl
      have g1 := hg 1 _ rfl
      have g2 := hg 2 _ rfl
      have g3 := hg 3 _ rfl
      have g4 := hg 4 _ rfl
      simp [h3, h4] at g0 g1 g2 g3 g4
      obtain ⟨a, e0, _, _⟩ := DataW.trod_int Try.underlying3 g0
      obtain ⟨b, e1, _, _⟩ := DataW.trod_int Try.underlying3 g1
      obtain ⟨c, e2, _, w2⟩ := DataW.trod_int Try.underlying3 g2
      obtain ⟨q, e3, _, w3⟩ := DataW.trod_int Try.underlying3 g3
      obtain ⟨n, e4, _, w4⟩ := DataW.trod_int Try.underlying23 g4
      obtain ⟨n, rfl, hn⟩ := u32_nat n w4
      have z2 := i64_of c w2
      have z3 := i64_of q w3
      simp at e0 e1 e2 e3 e4
      subst e0 e1 e2 e3 e4
      refine ⟨⟨a, b, c, q, n⟩, ?_, z2.1, z2.2, z3.1, z3.2, hn⟩
      simp [Value.cells] at hcs
      show Value.agg cs = _
      congr 1
      exact Array.ext' (by rw [hcs]; rfl)

end

end Go.Proofs.Ythkfolohhdafkaa
