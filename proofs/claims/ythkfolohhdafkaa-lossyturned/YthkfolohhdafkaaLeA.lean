/-
  Letters under way: where those of a link stand, how many there are, and which one a pick names: what the program's places, Many and Find answer.
  Each theorem says its own conditions: a list that memory bears.
-/
import Derived.Test.YthkfolohhdafkaaLeM
import Derived.Test.YthkfolohhdafkaaLn
namespace Go.Proofs.Ythkfolohhdafkaa
set_option maxRecDepth 10000
open Go.RowKit Go.Sort
set_option linter.unusedVariables false
set_option linter.unusedSimpArgs false

section
variable {α : Type} {f : α → List Value} {k : Nat}

/- Append to a list of one's own, of any list. -/
theorem run_append_any {P : Program} (hk : ∀ x, (f x).length = k) {t T : TypeId} (ty : TypeId) (ht : P.underlying t = some (.slice T)) {i : TypeInfo} {z : Value} {bytes : Nat} (hi : P.info? T = some i) (hz : i.zero = some z) (hs : i.size = k) (hby : i.bytes = bytes) (hzs : z.cells.size = k)
    {B : Nat} {ad : Option Addr} {cap : Nat} {L : List α} {w : World} (h : Lg f k T B ad cap L w) (hB : B ≤ w.heap.size) {x : Value} {M : List α} (hx : Src P k t x M.length (flat f M) w) (hb : (L.length + M.length) * bytes ≤ 140737488355328) (h63 : L.length + M.length ≤ maxLen) :
    ∃ ad' cap' w', (Builtin.append_ #[t, t] ty #[.slice ad L.length cap, x]).run P w = .ok (.slice ad' (L.length + M.length) cap') w' ∧ Lg f k T B ad' cap' (L ++ M) w' ∧ Kp (blkOf ad) w w' ∧ (∀ A ∈ blkOf ad', A ∈ blkOf ad ∨ w.heap.size ≤ A) := by
  rcases Nat.eq_zero_or_pos M.length with h0 | h0
  · obtain rfl := List.length_eq_zero_iff.1 h0
    rcases h with ⟨rfl, rfl, rfl⟩ | ⟨g, rfl, hBg, h⟩
    · refine ⟨none, 0, w, ?_, by simpa using Lg.none _ _ _, Kp.refl _ _, fun A hA => .inl hA⟩
      subst hs
      have hl := hx.len
      have hc := hx.cells
      simp only [List.length_nil] at hl hc
      rcases hx.kind with ⟨e', hq⟩ | hq <;> simp [Builtin.append_, run_underlying ht, run_underlying hq, sizeOf, typeInfo, hi, hl, hc]
    · obtain ⟨g', cap', w', hr, h1, h2, h3⟩ := run_append_ow (P := P) hk ty ht hi hz hs hby hzs h hx hb h63
      refine ⟨_, cap', w', by rw [← List.length_append]; exact hr, Lg.of h1 (by rcases h3 with rfl | h3 <;> omega), h2, fun A hA => ?_⟩
      simp [blkOf] at hA
      subst hA
      rcases h3 with rfl | h3
      · exact .inl (by simp [blkOf])
      · exact .inr h3
  · obtain ⟨ad', cap', w', hr, h1, h2, g, e, h3⟩ := run_append_lk (P := P) hk ty ht hi hz hs hby hzs h hB h0 hx hb h63
    refine ⟨ad', cap', w', hr, h1, h2, fun A hA => ?_⟩
    rcases h3 with h3 | h3
    · rw [h3] at hA; exact .inl hA
    · rw [e] at hA; simp [blkOf] at hA; subst hA; exact .inr h3
theorem append_any {P : Program} (hk : ∀ x, (f x).length = k) {ops : Array Oper} {rest : List Oper} {o : Oper} {a : Act} {Q : Exit → Act → World → Prop} (hgd : o.guard = none) (s y : Operand) {t T : TypeId} (ho : o.op = .call { callee := .builtin .append, args := #[s, y], argTypes := #[t, t] })
    (ht : P.underlying t = some (.slice T)) {i : TypeInfo} {z : Value} {bytes : Nat} (hi : P.info? T = some i) (hz : i.zero = some z) (hs : i.size = k) (hby : i.bytes = bytes) (hzs : z.cells.size = k)
    {B : Nat} {ad : Option Addr} {cap : Nat} {L : List α} {w : World} (h : Lg f k T B ad cap L w) (hB : B ≤ w.heap.size) {n : Nat} (hn : L.length = n) (he : a.eval s = .slice ad n cap) {x : Value} {M : List α} {m : Nat} (hm : M.length = m) (hx : Src P k t x M.length (flat f M) w) (hey : a.eval y = x) (hb : (n + m) * bytes ≤ 140737488355328) (h63 : n + m ≤ maxLen)
    (hK : ∀ ad' cap' w', Lg f k T B ad' cap' (L ++ M) w' → Kp (blkOf ad) w w' → (∀ A ∈ blkOf ad', A ∈ blkOf ad ∨ w.heap.size ≤ A) → wpList P ops Q rest (a.put o.dst (.slice ad' (n + m) cap')) w') : wpList P ops Q (o :: rest) a w := by
  subst hn hm
  refine wpList_plain hgd fun K hK' => ?_
  obtain ⟨ad', cap', w', hr, h1, h2, h3⟩ := run_append_any (P := P) hk o.type ht hi hz hs hby hzs h hB hx hb h63
  have hk2 := hK' _ _ (hK ad' cap' w' h1 h2 h3)
  unfold Oper.wp execOp
  simp only [ho, resolve, invoke, builtin, Sem.run_bind, Sem.run_pure, Result.andThen_ok, List.map_toArray, List.map_cons, List.map_nil, he, hey, hr]
  exact hk2

end

/- Places as a list of ints. -/
def pv (x : Nat) : List Value := [.int .i64 (x : Int)]
theorem pv_length (x : Nat) : (pv x).length = 1 := rfl
theorem pv_one (x : Nat) : ∀ v ∈ pv x, v.oneCell' = true := by
  intro v hv
  simp [pv] at hv
  subst hv
  rfl
theorem infoPv : ∃ i z, Try.prog.info? 3 = some i ∧ i.zero = some z ∧ i.size = 1 ∧ i.bytes = 8 ∧ z.cells.size = 1 := by
  have h : (Try.prog.info? 3).map (fun i => (i.zero, i.size, i.bytes)) = some (some (.int .i64 0), 1, 8) := by kernel_rfl
  obtain ⟨i, hi, h0, h1, h2⟩ := info_parts h
  exact ⟨i, _, hi, h0, h1, h2, rfl⟩
theorem bsPv (x : Nat) (w : World) : (Instr.buildSlice 46 1 #[(0, .int .i64 (x : Int))]).run Try.prog w = .ok (.slice (some ⟨w.heap.size, 0, none⟩) 1 1) (w.alloc (.cells #[.int .i64 (x : Int)] 3)) := by kernel_rfl
theorem box_pv {ops : Array Oper} {rest : List Oper} {op : Oper} {a : Act} {w : World} {Q : Exit → Act → World → Prop} (hgd : op.guard = none) (y : Operand) (ho : op.op = .buildSlice 46 1 #[(0, y)]) (x : Nat) (hx : a.eval y = .int .i64 (x : Int))
    (h : ∀ W, Li pv w.heap.size (some ⟨w.heap.size, 0, none⟩) [x] W → Below w.heap.size w W → wpList Try.prog ops Q rest (a.put op.dst (.slice (some ⟨w.heap.size, 0, none⟩) 1 1)) W) : wpList Try.prog ops Q (op :: rest) a w :=
  wpList_plain hgd fun _ hK => by
    have hk := hK _ _ (h _ (li_box (f := pv) w x 3 _ (Nat.le_refl _)) (below_box w _))
    unfold Oper.wp execOp
    simp only [ho, List.map_toArray, List.map_cons, List.map_nil, hx, Sem.run_bind, Sem.run_pure, bsPv, Result.andThen_ok]
    exact hk

def Placs (P : List Nat) (B : Nat) (e : Ending) (w' : World) : Prop := ∃ a c, e = .returned (.slice a P.length c) ∧ Lg pv 1 3 B a c P w'

set_option maxHeartbeats 2000000 in
theorem lplaces_ok (L : List Le) (la : Option Addr) (lc : Nat) (f u : Int) (lz : L.length * 40 ≤ 140737488351232) (w : World) (hS : Li Le.vals 0 la L w) :
    Calls Try.prog 22 #[.slice la L.length lc, .int .i64 f, .int .i64 u] w fun e w' => Placs (plc f u L) w.heap.size e w' ∧ Below w.heap.size w w' := by
  obtain ⟨iI, zI, hI, hz0, hsz, hby, hzs⟩ := infoPv
  obtain ⟨n, hn⟩ : ∃ n, Hid (L.length = n) := ⟨_, rfl⟩
  have HP : Hid (plc f u L = plcTo f u L n) := by rw [← hn.out]; exact rfl
  rw [hn.out] at lz ⊢
  rw [HP.out]
  go_enter Try.func22, Try.ntmps22
  go_wp2_with fail
  go_loopw [7, 12] (fun lv iv wr => ∃ (j q : Nat) (a : Option Addr) (c : Nat), j ≤ n ∧ iv = .int .i64 j ∧ lv = .slice a q c ∧ Hid ((plcTo f u L j).length = q) ∧ q ≤ j ∧ Lg pv 1 3 w.heap.size a c (plcTo f u L j) wr ∧ Below w.heap.size w wr) (fun _ iv _ => n - (intOf iv).toNat)
  case atStart => exact ⟨0, 0, none, 0, by omega, rfl, rfl, rfl, by omega, Lg.none _ _ _, Below.refl _ _⟩
  case round =>
    obtain ⟨j, q, a, c, hj, rfl, rfl, HQ, hq, hG, hB⟩ := hrel
    by_cases hjn : j < n
    · have j0 : (j : Int) < (n : Int) := by omega
      have j1 : (0 : Int) ≤ (j : Int) := by omega
      obtain ⟨x, hx⟩ : ∃ x, L[j]? = some x := ⟨_, List.getElem?_eq_getElem (by rw [hn.out]; exact hjn)⟩
      obtain ⟨b, o, rfl, _, hbl, hr⟩ := (hS.below hB).at Le.vals_length j x hx
      have b1 := blk_new wr x.arr 27
      have hb := below_box wr (.cells x.arr 27)
      go_upto_region 5 with (go_big_may; first | refine load_range rfl 27 _ rfl x.vals hr rfl Try.underlying27 rfl sizeLe ?_ | refine alloc_zero zeroLe rfl rfl ?_ | refine store_new rfl 27 _ _ rfl (cells := x.arr) rfl rfl sizeLe rfl x.arr_one ?_)
      try simp only [Act.put]
      generalize wr.alloc (Obj.cells x.arr 27) = W1 at b1 hb ⊢
      replace hG := hG.below hb
      replace hB := hB.trans (hb.mono hB.size)
      have c0 : W1.cell? ⟨wr.heap.size, 0, none⟩ = some (.int .i64 x.fr) := b1.cell 0 _ rfl
      have c1 : W1.cell? ⟨wr.heap.size, 1, none⟩ = some (.int .i64 x.u) := b1.cell 1 _ rfl
      clear hb hr b1 hbl
      generalize wr.heap.size = z at c0 c1 ⊢
      obtain ⟨t, ht⟩ : ∃ t, fitB f u x = t := ⟨_, rfl⟩
      cases t with
      | false =>
        have HS : Hid (plcTo f u L (j + 1) = plcTo f u L j) := plcTo_no f u L j x hx ht
        by_cases h1 : x.fr = f
        · have h2 : (x.u == u) = false := by
            unfold fitB at ht
            simpa [h1] using ht
          have h1' : (x.fr == f) = true := by simp [h1]
          clear ht h1 hx
          go_wp2_with fail
          exact ⟨⟨j + 1, q, a, c, by omega, by go_num, rfl, by rw [HS.out]; exact HQ, by omega, by rw [HS.out]; exact hG, hB⟩, by simp [intOf]; omega⟩
        · have h1' : (x.fr == f) = false := by simpa using h1
          clear ht h1 hx
          go_wp2_with fail
          exact ⟨⟨j + 1, q, a, c, by omega, by go_num, rfl, by rw [HS.out]; exact HQ, by omega, by rw [HS.out]; exact hG, hB⟩, by simp [intOf]; omega⟩
      | true =>
        have HS : Hid (plcTo f u L (j + 1) = plcTo f u L j ++ [j]) := plcTo_yes f u L j x hx ht
        have h1 : (x.fr == f) = true ∧ (x.u == u) = true := by
          unfold fitB at ht
          simpa using ht
        obtain ⟨h1, h2⟩ := h1
        clear ht hx
        go_wp2_with (first | (refine box_pv rfl _ rfl j rfl ?_; intro W2 hl2 hb2; have hG2 := hG.below hb2; have hB2 := hB.trans (hb2.mono hB.size)) | (refine append_any pv_length rfl _ _ rfl Try.underlying46 hI hz0 hsz hby hzs hG2 hB2.size HQ.out rfl (M := [j]) (m := 1) rfl (hl2.src pv_length pv_one Try.underlying46 1) rfl (by omega) (by simp only [maxLen]; omega) ?_; intro a3 c3 W3 hG3 hK3 _))
        have hb3 : Below w.heap.size W2 W3 := hK3.below (fun k hk => (hG2.in k hk).1) hB2.size
        exact ⟨⟨j + 1, q + 1, a3, c3, by omega, by go_num, rfl, by rw [HS.out, List.length_append, HQ.out]; rfl, by omega, by rw [HS.out]; exact hG3, hB2.trans hb3⟩, by simp [intOf]; omega⟩
    · obtain rfl : j = n := by omega
      go_wp2_with fail
      go_ret
      exact ⟨⟨a, c, by simp [HQ.out], hG⟩, hB⟩

theorem lmany_ok (L : List Le) (la : Option Addr) (lc : Nat) (f u : Int) (lz : L.length * 40 ≤ 140737488351232) (w : World) (hS : Li Le.vals 0 la L w) :
    Calls Try.prog 18 #[.slice la L.length lc, .int .i64 f, .int .i64 u] w fun e w' => e = .returned (.int .i64 ((plc f u L).length : Int)) ∧ Below w.heap.size w w' := by
  have pP := lplaces_ok L la lc f u lz w hS
  generalize plc f u L = P at pP ⊢
  generalize L.length = n at pP ⊢
  go_enter Try.func18, Try.ntmps18
  go_wp2_with fail
  refine pP.mono ?_
  rintro r w1 ⟨⟨a, c, rfl, hG⟩, hb⟩
  go_wp2_with fail
  go_ret
  exact ⟨rfl, hb⟩

set_option maxHeartbeats 1000000 in
theorem find_ok (L : List Le) (la : Option Addr) (lc : Nat) (f u ix : Int) (hix : -9223372036854775808 ≤ ix ∧ ix ≤ 9223372036854775807) (lz : L.length * 40 ≤ 140737488351232) (w : World) (hS : Li Le.vals 0 la L w) :
    Calls Try.prog 10 #[.slice la L.length lc, .int .i64 f, .int .i64 u, .int .i64 ix] w fun e w' => e = .returned (.tuple #[.int .i64 (((pickL f u ix L).getD 0 : Nat) : Int), .bool (isL f u ix L)]) ∧ Below w.heap.size w w' := by
  have pP := lplaces_ok L la lc f u lz w hS
  have hl := plc_len f u L
  unfold isL pickL
  generalize plc f u L = P at pP hl ⊢
  generalize L.length = n at pP hl lz ⊢
  by_cases h0 : P = []
  · subst h0
    have HN : Hid (onL [] ix = none) := rfl
    rw [HN.out]
    go_enter Try.func10, Try.ntmps10
    go_wp2_with fail
    refine pP.mono ?_
    rintro r w1 ⟨⟨a, c, rfl, hG⟩, hb⟩
    clear pP hG
    simp only [List.length_nil]
    go_wp2_with fail
    go_ret2
    exact ⟨rfl, hb⟩
  · obtain ⟨p, hp, _⟩ := onL_some P ix h0
    have hl0 : 0 < P.length := List.length_pos_iff.2 h0
    have hat : P[(ix % (P.length : Int)).toNat]? = some p := hp
    rw [hp]
    have hm1 := Int.emod_nonneg ix (b := (P.length : Int)) (by omega)
    have hm2 := Int.emod_lt_of_pos ix (b := (P.length : Int)) (by omega)
    have hcase : Int.tmod ix (P.length : Int) = ix % (P.length : Int) ∨ (Int.tmod ix (P.length : Int) < 0 ∧ Int.tmod ix (P.length : Int) + P.length = ix % (P.length : Int)) := by
      rw [Int.emod_eq_tmod]
      by_cases hc : 0 ≤ ix ∨ (P.length : Int) ∣ ix
      · left
        rw [if_pos hc]
        omega
      · right
        rw [if_neg hc]
        rw [Int.emod_eq_tmod, if_neg hc] at hm1 hm2
        have : ((P.length : Int).natAbs : Int) = P.length := by omega
        constructor <;> omega
    obtain ⟨q, hq⟩ : ∃ q : Nat, ix % (P.length : Int) = (q : Int) := ⟨(ix % (P.length : Int)).toNat, by omega⟩
    rw [hq] at hat hcase hm2
    rw [Int.toNat_natCast] at hat
    obtain ⟨l, hl'⟩ : ∃ l, Hid (P.length = l) := ⟨_, rfl⟩
    unfold Placs at pP
    rw [hl'.out] at pP hl hl0 hcase hm2
    have l0 : ((l : Int) == 0) = false := by rw [beq_eq_false_iff_ne]; omega
    clear hq hm1 hp h0
    go_enter Try.func10, Try.ntmps10
    go_wp2_with fail
    refine pP.mono ?_
    rintro r w1 ⟨⟨a, c, rfl, hG⟩, hb⟩
    clear pP
    obtain ⟨b, o, rfl, _, hbl, hr⟩ := hG.li.at pv_length q p hat
    have c0 : w1.cell? ⟨b, o + q, none⟩ = some (.int .i64 (p : Int)) := by have := hr 0 _ rfl; simpa using this
    clear hG hr hat
    go_upto_region 5 with fail
    try simp only [Act.put]
    generalize ix.tmod (l : Int) = r0 at hcase ⊢
    have q1 : (0 : Int) ≤ (q : Int) := by omega
    have q2 : (q : Int) < (l : Int) := by omega
    have l9 : l ≤ 9223372036854775807 := by omega
    clear l0 lz hl hix
    rcases hcase with rfl | ⟨h1, h2⟩
    · have h3 : decide ((q : Int) < 0) = false := by simp
      go_wp2_with fail
      go_ret2
      exact ⟨rfl, hb⟩
    · have h3 : decide (r0 < 0) = true := by simp [h1]
      have h4 : IntKind.i64.wrap (r0 + (l : Int)) = (q : Int) := by rw [IntKind.wrap_i64]; omega
      clear h2
      go_wp2_with fail
      go_ret2
      exact ⟨rfl, hb⟩

end Go.Proofs.Ythkfolohhdafkaa
