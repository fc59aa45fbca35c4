/-
  The program's Sessions: the sessions that wait, each once, rising.
  No condition but that of the entries' bytes.
-/
import Derived.Test.YtkppidcamhbddaaScB
import Derived.Test.YtkppidcamhbddaaSoL
namespace Go.Proofs.Ytkppidcamhbddaa
set_option maxRecDepth 10000
open Go.RowKit
set_option linter.unusedVariables false

theorem rise_int {L M : List Int} (hL : L.Pairwise (· < ·)) (hM : M.Pairwise (· < ·)) (h : ∀ x, x ∈ L ↔ x ∈ M) : L = M :=
  sorted_eq (· < ·) (fun a => Int.lt_irrefl a) (fun a b h k => by omega) L M hL hM h
theorem comp_up (d : Array Int) (n : Nat) (hn : n ≤ d.size) (hs : Sort.SortedIn Sort.ltInt 0 n d) : ∀ m, m ≤ n → (Lib.compactUpTo d m).Pairwise (· < ·) ∧ (∀ x, x ∈ Lib.compactUpTo d m ↔ ∃ i, i < m ∧ d[i]! = x)
  | 0, _ => by simp [Lib.compactUpTo]
  | m + 1, hm => by
    obtain ⟨h1, h2⟩ := comp_up d n hn hs m (by omega)
    rw [Lib.compactUpTo_succ]
    have hle : ∀ i, i < m → d[i]! ≤ d[m]! := fun i hi => by
      have := hs i m (by omega) hi (by omega)
      simp [Sort.ltInt] at this
      exact this
    by_cases hk : Lib.keeps d m = true
    · rw [if_pos hk]
      refine ⟨?_, fun x => ?_⟩
      · rw [List.pairwise_append]
        refine ⟨h1, by simp, fun a ha b hb => ?_⟩
        obtain ⟨i, hi, rfl⟩ := (h2 a).1 ha
        simp at hb
        subst hb
        have hm0 : m ≠ 0 := by omega
        have hne : d[m]! ≠ d[m - 1]! := by
          unfold Lib.keeps at hk
          rcases of_decide_eq_true hk with h | h
          · exact absurd h hm0
          · exact h
        have ha1 : d[i]! ≤ d[m - 1]! := by
          rcases Nat.lt_or_ge i (m - 1) with h | h
          · have := hs i (m - 1) (by omega) h (by omega)
            simp [Sort.ltInt] at this
            exact this
          · rw [show i = m - 1 by omega]; exact Int.le_refl _
        have := hle (m - 1) (by omega)
        omega
      · rw [List.mem_append, h2 x]
        constructor
        · rintro (⟨i, hi, h⟩ | h)
          · exact ⟨i, by omega, h⟩
          · simp at h; exact ⟨m, by omega, h.symm⟩
        · rintro ⟨i, hi, h⟩
          rcases Nat.lt_or_ge i m with hh | hh
          · exact .inl ⟨i, hh, h⟩
          · rw [show i = m by omega] at h; exact .inr (by simp [h])
    · rw [if_neg hk, List.append_nil]
      have hm0 : m ≠ 0 := fun h => hk (Lib.keeps_lt_one d m (by omega))
      have heq : d[m]! = d[m - 1]! := by
        by_cases he : d[m]! = d[m - 1]!
        · exact he
        · exact absurd (Lib.keeps_pos he) hk
      refine ⟨h1, fun x => ?_⟩
      rw [h2 x]
      constructor
      · rintro ⟨i, hi, h⟩; exact ⟨i, by omega, h⟩
      · rintro ⟨i, hi, h⟩
        rcases Nat.lt_or_ge i m with hh | hh
        · exact ⟨i, hh, h⟩
        · rw [show i = m by omega, heq] at h; exact ⟨m - 1, by omega, h⟩
def seI (e : En) : Int := (e.se : Int)
def sessI (L : List En) : List Int := (sessS L).map fun (n : Nat) => (n : Int)
theorem sessI_mem (L : List En) (x : Int) : x ∈ sessI L ↔ ∃ e ∈ L, seI e = x := by
  unfold sessI seI
  rw [List.mem_map]
  constructor
  · rintro ⟨s, hs, rfl⟩
    obtain ⟨e, he, h⟩ := (sessS_mem L s).1 hs
    exact ⟨e, he, by rw [h]⟩
  · rintro ⟨e, he, rfl⟩
    exact ⟨e.se, (sessS_mem L _).2 ⟨e, he, rfl⟩, rfl⟩
theorem sessI_rise (L : List En) : (sessI L).Pairwise (· < ·) := by
  unfold sessI
  rw [List.pairwise_map]
  exact (sessS_rise L).imp (fun h => by omega)
theorem sessI_len (L : List En) : (sessI L).length = (sessS L).length := by unfold sessI; rw [List.length_map]
theorem perm_mem {d d' : Array Int} (h : Sort.PermIn 0 d.size d d') (x : Int) : x ∈ d'.toList ↔ x ∈ d.toList := by
  have h3 := h.2.2
  have e1 : d.extract 0 d.size = d := by simp
  have e2 : d'.extract 0 d.size = d' := by rw [← h.1]; simp
  rw [e1, e2] at h3
  exact h3.mem_iff
theorem sorted_sess (L : List En) (d' : Array Int) (hp : Sort.PermIn 0 (L.map seI).toArray.size (L.map seI).toArray d') (hs : Sort.SortedIn Sort.ltInt 0 (L.map seI).toArray.size d') : Lib.compactUpTo d' d'.size = sessI L := by
  have hsz := hp.1
  obtain ⟨h1, h2⟩ := comp_up d' d'.size (Nat.le_refl _) (by rw [hsz]; exact hs) d'.size (Nat.le_refl _)
  refine rise_int h1 (sessI_rise L) fun x => ?_
  rw [h2 x, sessI_mem]
  have hm := perm_mem hp x
  constructor
  · rintro ⟨i, hi, h⟩
    have : x ∈ d'.toList := by rw [← h, getElem!_pos d' i hi]; exact Array.getElem_mem_toList hi
    have := hm.1 this
    simp at this
    exact this
  · rintro ⟨e, he, h⟩
    have : x ∈ (L.map seI).toArray.toList := by simp; exact ⟨e, he, h⟩
    have := hm.2 this
    obtain ⟨i, hi, h⟩ := List.mem_iff_getElem.1 this
    exact ⟨i, by simpa using hi, by rw [getElem!_pos d' i (by simpa using hi)]; simpa using h⟩

/- A list of uint64 in a row of one's own. -/
theorem encU_len (x : Int) : (encU x).length = 1 := rfl
theorem encU_one (x : Int) : ∀ v ∈ encU x, v.oneCell' = true := by
  intro v hv
  simp [encU] at hv
  subst hv
  rfl
theorem flat_encU (D : List Int) : flat encU D = D.map (Value.int .u64) := by
  induction D with
  | nil => rfl
  | cons x D ih => rw [flat_cons, ih]; rfl
theorem Ow.sx {g cap : Nat} {T : TypeId} {D : List Int} {w : World} (h : Ow encU 1 T g cap D w) : ∃ R, Sx g 0 T R D.toArray w := by
  obtain ⟨cur, h0, h1, h2, h3, h4⟩ := h
  refine ⟨([], cur.toList.drop D.length), rfl, ?_⟩
  have e : (([] : List Value) ++ (D.toArray.toList.map (Value.int .u64) ++ cur.toList.drop D.length)).toArray = cur := by
    rw [List.nil_append, ← flat_encU, ← h4, Nat.mul_one]
    simp
  rw [e]
  exact h0
theorem Hs.li {g : Nat} {T : TypeId} {K : List Int} {w : World} (h : Hs g 0 T K w) {B : Nat} (hB : B ≤ g) : Li encU B (some ⟨g, 0, none⟩) K w := by
  obtain ⟨C, hC, hK⟩ := h
  refine .inr ⟨g, 0, rfl, hB, hC.lt, fun j v hv => ?_⟩
  rw [flat_encU] at hv
  have hj : j < K.length := by
    have := (List.getElem?_eq_some_iff.1 hv).1
    simpa using this
  rw [List.getElem?_map, List.getElem?_eq_getElem hj] at hv
  cases hv
  rw [cell_of_row w g (0 + j) C T (0, 0) hC]
  exact hK j hj
theorem infoU : ∃ i z, Try.prog.info? 23 = some i ∧ i.zero = some z ∧ i.size = 1 ∧ i.bytes = 8 ∧ z.cells.size = 1 := by
  have h : (Try.prog.info? 23).map (fun i => (i.zero, i.size, i.bytes)) = some (some (.int .u64 0), 1, 8) := by kernel_rfl
  obtain ⟨i, hi, h0, h1, h2⟩ := info_parts h
  exact ⟨i, _, hi, h0, h1, h2, rfl⟩
theorem bsU (x : Int) (w : World) : (Instr.buildSlice 31 1 #[(0, .int .u64 x)]).run Try.prog w = .ok (.slice (some ⟨w.heap.size, 0, none⟩) 1 1) (w.alloc (.cells (encU x).toArray 23)) := by kernel_rfl
theorem box_U {ops : Array Oper} {rest : List Oper} {op : Oper} {a : Act} {w : World} {Q : Exit → Act → World → Prop} (hgd : op.guard = none) (x : Operand) (ho : op.op = .buildSlice 31 1 #[(0, x)]) (e : Int) (hx : a.eval x = .int .u64 e)
    (h : ∀ W, Li encU w.heap.size (some ⟨w.heap.size, 0, none⟩) [e] W → Below w.heap.size w W → wpList Try.prog ops Q rest (a.put op.dst (.slice (some ⟨w.heap.size, 0, none⟩) 1 1)) W) : wpList Try.prog ops Q (op :: rest) a w :=
  wpList_plain hgd fun _ hK => by
    have hk := hK _ _ (h _ (li_box w e 23 w.heap.size (Nat.le_refl _)) (below_box w _))
    unfold Oper.wp execOp
    simp only [ho, List.map_toArray, List.map_cons, List.map_nil, hx, Sem.run_bind, Sem.run_pure, bsU, Result.andThen_ok]
    exact hk

theorem bsU0 (w : World) : (Instr.buildSlice 31 0 #[]).run Try.prog w = .ok (.slice (some ⟨w.heap.size, 0, none⟩) 0 0) (w.alloc (.cells #[] 23)) := by kernel_rfl
theorem box_U0 {ops : Array Oper} {rest : List Oper} {op : Oper} {a : Act} {w : World} {Q : Exit → Act → World → Prop} (hgd : op.guard = none) (ho : op.op = .buildSlice 31 0 #[])
    (h : wpList Try.prog ops Q rest (a.put op.dst (.slice (some ⟨w.heap.size, 0, none⟩) 0 0)) (w.alloc (.cells #[] 23))) : wpList Try.prog ops Q (op :: rest) a w :=
  wpList_plain hgd fun _ hK => by
    have hk := hK _ _ h
    unfold Oper.wp execOp
    simp only [ho, List.map_toArray, List.map_nil, Sem.run_bind, Sem.run_pure, bsU0, Result.andThen_ok]
    exact hk

def MadeU (K : List Int) (e : Ending) (w' : World) : Prop := ∃ a c, e = .returned (.slice a K.length c) ∧ Li encU 0 a K w'
set_option maxHeartbeats 8000000 in
theorem sess_ok (L : List En) (la : Option Addr) (lc : Nat) (lm : L.length * 56 ≤ 140737488351232) (w : World) (hS : Li En.vals 0 la L w) :
    Calls Try.prog 14 #[.slice la L.length lc] w fun e w' => MadeU (sessI L) e w' ∧ Below w.heap.size w w' := by
  obtain ⟨iI, zI, hI, hz0, hsz, hby, hzs⟩ := infoU
  obtain ⟨n, hn⟩ : ∃ n, Hid (L.length = n) := ⟨_, rfl⟩
  rw [hn.out] at lm ⊢
  go_enter Try.func14, Try.ntmps14
  go_wp2_with fail
  go_loopw [3, 8] (fun ov iv wr => ∃ (j : Nat) (a : Option Addr) (c : Nat), j ≤ n ∧ iv = .int .i64 j ∧ ov = .slice a j c ∧ Hid (((L.take j).map seI).length = j) ∧ Lg encU 1 23 w.heap.size a c ((L.take j).map seI) wr ∧ Below w.heap.size w wr) (fun _ iv _ => n - (intOf iv).toNat)
  case atStart => exact ⟨0, none, 0, by omega, rfl, rfl, rfl, Lg.none _ _ _, Below.refl _ _⟩
  case round =>
    obtain ⟨j, a, c, hj, rfl, rfl, HQ, hG, hB⟩ := hrel
    rename World => wr
    by_cases hjn : j < n
    · have j0 : (j : Int) < (n : Int) := by omega
      have j1 : (0 : Int) ≤ (j : Int) := by omega
      obtain ⟨x, hx⟩ : ∃ k, L[j]? = some k := ⟨_, List.getElem?_eq_getElem (by rw [hn.out]; exact hjn)⟩
      have HS : Hid ((L.take (j + 1)).map seI = (L.take j).map seI ++ [seI x]) := by
        show _ = _
        rw [List.take_add_one, hx, List.map_append]
        rfl
      have hSr := hS.below hB
      obtain ⟨b, o, rfl, _, hbl, hr⟩ := hSr.at En.vals_length j x hx
      have b1 := blk_new wr x.arr 36
      have hb := below_box wr (.cells x.arr 36)
      go_upto_region 5 with (go_big_may; first | refine load_range rfl 36 _ rfl x.vals hr rfl Try.underlying36 rfl sizeEn ?_ | refine alloc_zero zeroEn rfl rfl ?_ | refine store_new rfl 36 _ _ rfl (cells := x.arr) rfl rfl sizeEn rfl x.arr_one ?_)
      try simp only [Act.put]
      generalize wr.alloc (Obj.cells x.arr 36) = W1 at b1 hb ⊢
      clear hSr
      have hG1 := hG.below hb
      have hB1 : Below w.heap.size w W1 := hB.trans (hb.mono hB.size)
      have c3 : W1.cell? ⟨wr.heap.size, 3, none⟩ = some (.int .u64 (x.se : Int)) := b1.cell 3 _ rfl
      clear hb hr hbl hG hB hx
      generalize wr.heap.size = z at b1 c3 ⊢
      go_wp2_with (first | (refine box_U rfl _ rfl (seI x) rfl ?_; intro W2 hl2 hb2; have hG2 := hG1.below hb2; have hB2 := below_next hB1 hb2) | (refine append_any encU_len rfl _ _ rfl Try.underlying31 hI hz0 hsz hby hzs hG2 hB2.size HQ.out rfl (M := [seI x]) (m := 1) rfl (hl2.src encU_len encU_one Try.underlying31 1) rfl (by omega) (by simp only [maxLen]; omega) ?_; intro a3 c4 W3 hG3 hK3 _))
      have hB3 : Below w.heap.size w W3 := hB2.trans (hK3.below (fun k hk => (hG2.in k hk).1) hB2.size)
      exact ⟨⟨j + 1, a3, c4, by omega, by go_num, rfl, by rw [HS.out, List.length_append, HQ.out]; rfl, by rw [HS.out]; exact hG3, hB3⟩, by simp [intOf]; omega⟩
    · obtain rfl : j = n := by omega
      have e : L.take j = L := List.take_of_length_le (by rw [hn.out]; omega)
      rw [e] at HQ hG
      clear e
      rcases hG with ⟨rfl, rfl, hD⟩ | ⟨g, rfl, hgB, hO⟩
      · have hL : L = [] := List.map_eq_nil_iff.1 hD
        have hj0 : j = 0 := by rw [← hn.out, hL]; rfl
        subst hj0
        have hK : Hid (MadeU (sessI L) (.returned (.slice none 0 0)) wr) := by rw [hL]; exact ⟨none, 0, rfl, Li.nil _ _ _⟩
        have HB : Hid (Below w.heap.size w wr) := hB
        clear hD hB hS
        have h1 := sortn_ok wr
        have h2 := compn_ok wr
        go_wp2_with fail
        refine h1.mono ?_
        rintro e w1 ⟨rfl, rfl⟩
        clear h1
        go_wp2_with fail
        refine h2.mono ?_
        rintro e w1 ⟨rfl, rfl⟩
        clear h2
        go_wp2
        go_ret
        exact ⟨hK.out, HB.out⟩
      · obtain ⟨R, hX⟩ := hO.sx
        have hcap := hO.len
        have hdz : (L.map seI).toArray.size = j := by simp; exact hn.out
        rw [HQ.out] at hcap
        have h1 := sort_ok g 0 c 23 R (L.map seI).toArray wr hX (by rw [hdz]; omega)
        rw [hdz] at h1
        have HB : Hid (Below w.heap.size w wr) := hB
        have HX : Hid ((L.map seI).toArray.size = j) := hdz
        clear hO hX hB hS hdz
        go_wp2_with fail
        refine h1.mono ?_
        rintro e w1 ⟨rfl, d', hP, hSo, hX1, hk1⟩
        rw [← HX.out] at hP hSo
        have hd' : d'.size = j := hP.1.trans HX.out
        have HK : Hid (Lib.compactUpTo d' d'.size = sessI L) := sorted_sess L d' hP hSo
        have h2 := comp_ok g 0 c 23 R d' w1 rfl hX1 (by omega) (by omega)
        rw [HK.out, hd'] at h2
        have HB1 : Hid (Below w.heap.size w w1) := HB.out.trans (hk1.below1 hgB HB.out.size)
        clear h1 hP hSo hX1 hk1 HB HX hd'
        go_wp2_with fail
        refine h2.mono ?_
        rintro e w2 ⟨rfl, hH2, hk2⟩
        clear h2
        have hZ : Hid (MadeU (sessI L) (.returned (.slice (some ⟨g, 0, none⟩) (sessI L).length c)) w2 ∧ Below w.heap.size w w2) :=
          ⟨⟨_, c, rfl, hH2.li (Nat.zero_le _)⟩, HB1.out.trans (hk2.below1 hgB HB1.out.size)⟩
        clear hH2 hk2 HB1
        go_wp2
        go_ret
        exact hZ.out

end Go.Proofs.Ytkppidcamhbddaa
