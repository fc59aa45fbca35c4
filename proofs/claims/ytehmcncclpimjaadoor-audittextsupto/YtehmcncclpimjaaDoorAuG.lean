/-
  Records as arguments of small bulk; what the listed variables hold, as the walks want it.
  No condition beyond the form's own.
-/
import Derived.Test.YtehmcncclpimjaaDoorAuF
import Derived.Test.YtehmcncclpimjaaDoorRows
import Derived.SizedLaws
import Derived.Stop.LaidErr
import Derived.LaidLaws
namespace Go.Proofs.YtehmcncclpimjaaDoor
set_option maxRecDepth 10000
open Go.ChangeShapes Go.WideShapes Go.ChangeAt Go.RowKit Go.WideElems Go.Sort
set_option linter.unusedVariables false
set_option linter.unusedSimpArgs false

theorem bulk_one {H : Type} (d : DataW H) : 1 ≤ Rows.uptoBulk d := by
  cases d with
  | lit l => cases l <;> simp [Rows.uptoBulk]
  | nil => simp [Rows.uptoBulk]
  | ptr d => simp [Rows.uptoBulk]
  | slice elems spare => simp [Rows.uptoBulk]
  | agg parts => simp [Rows.uptoBulk]
  | iface t d => simp [Rows.uptoBulk]
  | map entries => simp [Rows.uptoBulk]
  | held h => simp [Rows.uptoBulk]
theorem bulk_part {H : Type} {d : DataW H} : ∀ {l : List (DataW H)}, d ∈ l → Rows.uptoBulk d ≤ Rows.uptoBulkAll l
  | [], h => by cases h
  | x :: r, h => by
    simp only [Rows.uptoBulkAll]
    rcases List.mem_cons.1 h with rfl | h
    · omega
    · have := bulk_part h; omega
theorem bulk_len {H : Type} : ∀ (l : List (DataW H)), l.length ≤ Rows.uptoBulkAll l
  | [] => Nat.le_refl _
  | x :: r => by
    have h1 := bulk_one x
    have h2 := bulk_len r
    simp only [Rows.uptoBulkAll, List.length_cons]
    omega
theorem bulk_slice {H : Type} (a b : List (DataW H)) : Rows.uptoBulkAll a + 1 ≤ Rows.uptoBulk (DataW.slice a b) ∧ a.length + 1 ≤ Rows.uptoBulk (DataW.slice a b) := by
  have h := bulk_len a
  simp only [Rows.uptoBulk]
  constructor <;> omega
theorem bulk_small {H : Type} {l : List (DataW H)} (hk : Rows.uptoSmall H l = true) {d : DataW H} (hd : d ∈ l) : Rows.uptoBulk d ≤ 1048576 := by
  have h : Rows.uptoBulkAll l ≤ 1048576 := of_decide_eq_true hk
  have := bulk_part hd
  omega
theorem bulk_str {H : Type} (c : ByteArray) (x : List UInt8) (hx : x = c.data.toList) (h : Rows.uptoBulk (DataW.lit (H := H) (.string x)) ≤ 1048576) : c.size ≤ 1048576 := by
  subst hx
  simp only [Rows.uptoBulk, Array.length_toList] at h
  show c.data.size ≤ _
  omega

section
variable {H : Type} {enc : TypeId × Value → H} {W : World} {base : Nat} {spare : Nat → Bool} {held : Bool}
theorem open_lib {α : Type} {f : α → List Value} {k : Nat} {P : Program} {Pr : α → Prop} {N : Nat} (e0 : α) (hk : ∀ x, (f x).length = k) (hpos : 0 < k) {TS T : TypeId} {bytes : Nat} (hu : P.underlying TS = some (.slice T)) (hC : P.cellsOf T = k) (hby : P.bytesOf T = bytes)
    (hel : ∀ {cs : List Value} {fuel : Nat} {x : DataW H × List MemPlace}, DataW.trod enc P W base spare held fuel T cs = some x → (∀ n ∈ x.1.weights P T, n ≤ reachBytes) → Rows.uptoBulk x.1 ≤ N → ∃ e : α, cs = f e ∧ Pr e)
    {v : Value} {d : DataW H} {p : List MemPlace} (hv : ∃ a n c, v = .slice a n c) (hw : ∀ n ∈ d.weights P TS, n ≤ reachBytes) (hN : Rows.uptoBulk d ≤ N) (h : DataW.Trod enc P W base spare held TS v d p) :
    ∃ (a : Option Addr) (L : List α) (c : Nat), v = .slice a L.length c ∧ L.length * bytes ≤ 140737488351232 ∧ L.length ≤ c ∧ c ≤ maxLen ∧ L.length ≤ N ∧ (∀ x ∈ L, Pr x) ∧ Li f 0 a L W := by
  obtain ⟨a0, n0, c0, rfl⟩ := hv
  obtain ⟨fuel, hf⟩ := h
  rcases Go.Deep.open_slice hu hf with ⟨hc, _⟩ | ⟨a, len, cap, m, n, D, Pl, hcs, _, hlc, hcm, hm, hx, hcell⟩
  · simp [Value.cells] at hc
    obtain ⟨rfl, rfl, rfl⟩ := hc
    exact ⟨none, [], 0, rfl, by simp, by simp, Nat.zero_le _, Nat.zero_le _, by simp, .inl rfl⟩
  · simp [Value.cells] at hcs
    obtain ⟨rfl, rfl, rfl⟩ := hcs
    rw [hC] at hcell
    have hlm : n0 ≤ m := by rw [hm]; split <;> omega
    have hd : d = .slice ((List.range n0).map D) ((List.range (m - n0)).map fun j => D (n0 + j)) := by injection hx
    subst hd
    simp only [DataW.weights, hu, hby] at hw
    have hbk := bulk_slice ((List.range n0).map D) ((List.range (m - n0)).map fun j => D (n0 + j))
    have hwt : n0 * bytes ≤ 140737488351232 := by
      have h1 := hw _ (List.mem_cons_self ..)
      simp only [List.length_map, List.length_range, reachBytes] at h1
      have h2 : n0 * bytes ≤ (n0 + (m - n0)) * bytes := Nat.mul_le_mul_right _ (by omega)
      omega
    have key : ∀ i, ∃ e : α, i < n0 → (∃ cs', W.cells? base (a.add (i * k)) k = some cs' ∧ cs' = f e) ∧ Pr e := by
      intro i
      by_cases hi : i < n0
      · obtain ⟨cs', h1, h2⟩ := hcell i (by omega)
        obtain ⟨e, he, hp⟩ := hel h2 (fun n hn => hw n (List.mem_cons_of_mem _ (List.mem_append_left _ (weights_all (List.mem_map.2 ⟨i, by simpa using hi, rfl⟩) hn)))) (Nat.le_trans (bulk_part (l := (List.range n0).map D) (List.mem_map.2 ⟨i, by simpa using hi, rfl⟩)) (by have := hbk.1; omega))
        exact ⟨e, fun _ => ⟨⟨cs', h1, he⟩, hp⟩⟩
      · exact ⟨e0, fun h => absurd h hi⟩
    obtain ⟨E, hE⟩ := Classical.axiomOfChoice key
    refine ⟨some a, (List.range n0).map E, c0, by simp, by simpa using hwt, by simpa using hlc, hcm, by have := hbk.2; simp only [List.length_map, List.length_range] at *; omega, fun x hx => ?_, ?_⟩
    · obtain ⟨i, hi, rfl⟩ := List.mem_map.1 hx
      exact (hE i (by simpa using hi)).2
    by_cases h0 : n0 = 0
    · subst h0; exact .inl rfl
    · have hget : ∀ i r, i < n0 → r < k → W.cell? ((a.add (i * k)).add r) = (f (E i))[r]? := by
        intro i r hi hr
        obtain ⟨cs', h1, rfl⟩ := (hE i hi).1
        unfold World.cells? at h1
        split at h1
        · exact mapM_some_get h1 r r (by simp [hr])
        · cases h1
      have h0' := hget 0 0 (by omega) hpos
      obtain ⟨v0, hv0⟩ : ∃ v0, (f (E 0))[0]? = some v0 := ⟨_, List.getElem?_eq_getElem (by rw [hk]; exact hpos)⟩
      obtain ⟨b, o, s⟩ := a
      cases s with
      | some q =>
        rw [hv0] at h0'
        simp [World.cell?, Addr.add] at h0'
        split at h0' <;> simp_all
      | none =>
      have hfirst : W.cell? ⟨b, o, none⟩ = some v0 := by
        rw [Addr.add_mid, Addr.add_mid, hv0] at h0'
        simpa using h0'
      refine .inr ⟨b, o, rfl, Nat.zero_le _, block_lt_of_cell hfirst, fun j v hv => ?_⟩
      have hj : j < n0 * k := by
        have h := (List.getElem?_eq_some_iff.1 hv).1
        rw [flat_length hk] at h
        simpa using h
      have hd : j / k < n0 := (Nat.div_lt_iff_lt_mul hpos).2 hj
      have hmod : j % k < k := Nat.mod_lt _ hpos
      have hat := flat_get hk ((List.range n0).map E) (j / k) (E (j / k)) (by simp [hd]) (j % k) hmod
      have hjj : j / k * k + j % k = j := by rw [Nat.mul_comm]; exact Nat.div_add_mod j k
      rw [hjj] at hat
      have h := hget (j / k) (j % k) hd hmod
      rw [Addr.add_mid, Addr.add_mid] at h
      rw [show o + j = o + j / k * k + j % k by omega, h, ← hat]
      exact hv
theorem cellsRcB {cs : List Value} {fuel : Nat} {x : DataW H × List MemPlace} (h : DataW.trod enc Tryd.prog W base spare held fuel 27 cs = some x) (hw : ∀ n ∈ x.1.weights Tryd.prog 27, n ≤ reachBytes) (hN : Rows.uptoBulk x.1 ≤ 1048576) : ∃ e : Rc, cs = e.vals ∧ e.fit ∧ e.c.size ≤ 1048576 := by
  have hC : Tryd.prog.cellsOf 27 = 4 := by kernel_rfl
  have hcu64 : Tryd.prog.cellsOf 23 = 1 := by kernel_rfl
  have hcu32 : Tryd.prog.cellsOf 24 = 1 := by kernel_rfl
  have hcstring : Tryd.prog.cellsOf 9 = 1 := by kernel_rfl
  have hcerrno : Tryd.prog.cellsOf 25 = 1 := by kernel_rfl
  have hu : Tryd.prog.underlying 27 = some (.struct (Tryd.prog.fieldsOf 27)) := by kernel_rfl
  have hf : (Tryd.prog.fieldsOf 27).toList.map (·.type) = [23, 24, 9, 25] := by kernel_rfl
  obtain ⟨xs, m, _, hx, hlen, hl, hg⟩ := DataW.trod_struct Tryd.underlying27 h
  rw [hC] at hlen
  match cs, hlen with
  | [c0, c1, c2, c3], _ =>
    match xs, hl with
    | [y0, y1, y2, y3], _ =>
      have g0 := hg 0 _ rfl
      have g1 := hg 1 _ rfl
      have g2 := hg 2 _ rfl
      have g3 := hg 3 _ rfl
      simp [hcu64, hcu32, hcstring, hcerrno] at g0 g1 g2 g3
      obtain ⟨x0, e0, _, w0⟩ := DataW.trod_int Tryd.underlying23 g0
      obtain ⟨x0, rfl, f0⟩ := u64_nat x0 w0
      obtain ⟨x1, e1, _, w1⟩ := DataW.trod_int Tryd.underlying24 g1
      obtain ⟨x1, rfl, f1⟩ := u32_nat x1 w1
      obtain ⟨x2, e2, z2, _⟩ := DataW.trod_string Tryd.underlying9 g2
      have f2 : x2.size ≤ 140737488351232 := by
        have := hw x2.data.toList.length (by
          rw [hx]
          simp only [DataW.weights, hu, hf]
          exact DataW.weights_mem_each (j := 2) rfl rfl _ (by simp [z2, DataW.weights]))
        rw [Array.length_toList] at this
        exact this
      have f9 : x2.size ≤ 1048576 := by
        rw [hx] at hN
        simp only [List.map_cons, List.map_nil, Rows.uptoBulk, Rows.uptoBulkAll, z2] at hN
        refine bulk_str (H := H) x2 _ rfl ?_
        simp only [Rows.uptoBulk]
        omega
      obtain ⟨x3, e3, _, w3⟩ := DataW.trod_int Tryd.underlying25 g3
      have f3 := i64_of x3 w3
      simp at e0 e1 e2 e3
      subst e0 e1 e2 e3
      exact ⟨⟨x0, x1, x2, x3⟩, rfl, ⟨f0, f1, f2, f3⟩, f9⟩
theorem open_RcB {v : Value} {d : DataW H} {p : List MemPlace} (hv : ∃ cs, v = .agg cs) (hw : ∀ n ∈ d.weights Tryd.prog 27, n ≤ reachBytes) (hN : Rows.uptoBulk d ≤ 1048576) (h : DataW.Trod enc Tryd.prog W base spare held 27 v d p) : ∃ x : Rc, v = .agg x.arr ∧ x.fit ∧ x.c.size ≤ 1048576 := by
  obtain ⟨cs, rfl⟩ := hv
  obtain ⟨fuel, hf⟩ := h
  obtain ⟨e, he, hfit⟩ := cellsRcB hf hw hN
  refine ⟨e, ?_, hfit⟩
  simp [Value.cells] at he
  show Value.agg cs = _
  congr 1
  exact Array.ext' (by rw [he]; rfl)
theorem open_RcsB {v : Value} {d : DataW H} {p : List MemPlace} (hv : ∃ a n c, v = .slice a n c) (hw : ∀ n ∈ d.weights Tryd.prog 22, n ≤ reachBytes) (hN : Rows.uptoBulk d ≤ 1048576) (h : DataW.Trod enc Tryd.prog W base spare held 22 v d p) :
    ∃ (a : Option Addr) (L : List Rc) (c : Nat), v = .slice a L.length c ∧ L.length * 40 ≤ 140737488351232 ∧ L.length ≤ c ∧ c ≤ maxLen ∧ L.length ≤ 1048576 ∧ (∀ x ∈ L, x.fit ∧ x.c.size ≤ 1048576) ∧ Li Rc.vals 0 a L W :=
  open_lib Rc.zero Rc.vals_length (by decide) Tryd.underlying22 (by kernel_rfl) (by kernel_rfl) cellsRcB hv hw hN h
end

theorem lineL_len (r : Rc) (hf : r.fit) (h : r.c.size ≤ 1048576) : (lineL r).length ≤ 3145828 := by
  obtain ⟨h1, h2, h3, h4, h5⟩ := hf
  unfold lineL
  have a1 := digs_20 h1
  have a2 := digs_20 (n := r.t) (by omega)
  have a3 : (sgns r.k).length ≤ 21 := by
    unfold sgns
    split
    · rw [List.length_cons]; have := digs_20 (n := r.k.natAbs) (by omega); omega
    · have := digs_20 (n := r.k.natAbs) (by omega); omega
  have a4 := quo_len (bL r.c)
  have a5 := bL_len r.c
  simp only [List.length_append, List.length_cons, List.length_nil]
  omega
theorem textL_len : ∀ (L : List Rc), (∀ x ∈ L, x.fit ∧ x.c.size ≤ 1048576) → (textL L).length ≤ L.length * 3145828
  | [], _ => by simp [textL]
  | r :: L, h => by
    rw [textL_cons, List.length_append, List.length_cons]
    have h1 := lineL_len r (h r (by simp)).1 (h r (by simp)).2
    have h2 := textL_len L (fun x hx => h x (by simp [hx]))
    omega

/- The listed variables. -/
theorem type5 : (Tryd.prog.globals[5]?).map (·.type) = some 116 := by kernel_rfl
theorem cells116 : Tryd.prog.cellsOf 116 = 20 := by kernel_rfl
theorem cellsU64 : Tryd.prog.cellsOf 23 = 1 := by kernel_rfl
theorem named7 : Tryd.prog.globalNamed "math/bits.deBruijn64tab" = some 7 := by kernel_rfl
theorem tab_datum : (Rows.laid_internal_strconv_uint64pow10 : DataW Unit) = Lib.tabData .u64 Lib.pow10Tab := by kernel_rfl
theorem tb_of {W : World} {r : List (String × DataW Unit)} (h : laidMet Tryd.prog (("math/bits.deBruijn32tab", Rows.laid_math_bits_deBruijn32tab) :: ("math/bits.deBruijn64tab", Rows.laid_math_bits_deBruijn64tab) :: ("internal/strconv.uint64pow10", Rows.laid_internal_strconv_uint64pow10) :: r) W) : Tb W := by
  have h2 := h.tail
  have h3 := h2.tail
  rw [tab_datum] at h3
  refine ⟨Lib.tabIs_of_head named5 type5 Tryd.underlying116 Tryd.underlying23 cellsU64 cells116 h3, ?_⟩
  obtain ⟨ps, ⟨g, t, cs, fuel, p, q, hg, ht, hv, _⟩, _⟩ := h2
  rw [named7] at hg
  cases hg
  unfold World.var? at hv
  rw [named7] at hv
  simp only [Option.bind_some] at hv
  rcases Nat.lt_or_ge 7 W.heap.size with h' | h'
  · omega
  · rw [Array.getElem?_eq_none h'] at hv; cases hv

end Go.Proofs.YtehmcncclpimjaaDoor
