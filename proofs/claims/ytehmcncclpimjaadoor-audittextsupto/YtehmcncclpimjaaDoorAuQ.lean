/-
  What records a text is the text of, told line by line; the document's Read.
  No line of the text is longer than 2147483647 bytes and one more.
-/
import Derived.Test.YtehmcncclpimjaaDoorAuL
import Derived.Test.YtehmcncclpimjaaDoorAuE
namespace Go.Proofs.YtehmcncclpimjaaDoor
set_option maxRecDepth 10000
open Go.RowKit Go.Sort
set_option linter.unusedVariables false
set_option linter.unusedSimpArgs false

def Segs (s : List UInt8) : Prop := ∀ p q r, s = p ++ (q ++ r) → (10 : UInt8) ∉ q → q.length ≤ 2147483647
theorem segs_small {s : List UInt8} (h : s.length ≤ 2147483647) : Segs s := fun p q r e _ => by
  rw [e, List.length_append, List.length_append] at h
  omega
theorem seg_text : ∀ (L : List Rc) (p q r : List UInt8), (∀ x ∈ L, (lineL x).length ≤ 2147483647) → textL L = p ++ (q ++ r) → (10 : UInt8) ∉ q → q.length ≤ 2147483647
  | [], p, q, r, hL, h, hq => by
    have := congrArg List.length h
    rw [textL_nil, List.length_append, List.length_append] at this
    simp at this
    omega
  | x :: L, p, q, r, hL, h, hq => by
    have hx := hL x (by simp)
    rw [textL_cons, lineL_body, List.append_assoc] at h
    rw [lineL_body, List.length_append] at hx
    rcases List.append_eq_append_iff.1 h with ⟨c, h1, h2⟩ | ⟨c, h1, h2⟩
    · cases c with
      | nil =>
        cases q with
        | nil => simp
        | cons y q =>
          have h2' : (10 : UInt8) :: textL L = y :: (q ++ r) := by simpa using h2
          have := (List.cons.inj h2').1
          exact absurd (by simp [this]) hq
      | cons y c =>
        have h2' : (10 : UInt8) :: textL L = y :: (c ++ (q ++ r)) := by simpa using h2
        exact seg_text L c q r (fun z hz => hL z (by simp [hz])) (List.cons.inj h2').2 hq
    · have h6 : c.length ≤ (bodyL x).length := by rw [h1, List.length_append]; omega
      rcases List.append_eq_append_iff.1 h2 with ⟨d, h3, h4⟩ | ⟨d, h3, h4⟩
      · have h5 := congrArg List.length h3
        rw [List.length_append] at h5
        omega
      · cases d with
        | nil =>
          rw [List.append_nil] at h3
          rw [h3]
          omega
        | cons y d =>
          exfalso
          have h4' : (10 : UInt8) :: textL L = y :: (d ++ r) := by simpa using h4
          have e := (List.cons.inj h4').1
          exact hq (by rw [h3]; simp [e])
theorem segs_text {L : List Rc} (hL : ∀ x ∈ L, (lineL x).length ≤ 2147483647) : Segs (textL L) := fun p q r h hq => seg_text L p q r hL h hq
theorem textL_split : ∀ {L M : List Rc} {t : List UInt8}, textL M = textL L ++ t → ∃ M', M = L ++ M' ∧ textL M' = t
  | [], M, t, h => ⟨M, rfl, h⟩
  | x :: L, M, t, h => by
    rw [textL_cons, lineL_body, List.append_assoc, List.append_assoc] at h
    obtain ⟨y, M1, rfl, h1, h2⟩ := text_first (bodyL_no x) h
    obtain rfl := lineL_inj (h1.trans (lineL_body x).symm)
    obtain ⟨M', rfl, h3⟩ := textL_split h2
    exact ⟨M', rfl, h3⟩
/- A text up to a place: whole lines, and the beginning of one. -/
def St (s : List UInt8) (L : List Rc) (a j : Nat) : Prop := ∃ g r, s = textL L ++ (g ++ r) ∧ (textL L).length = a ∧ g.length + a = j ∧ (10 : UInt8) ∉ g ∧ ∀ x ∈ L, x.fit
theorem St.zero (s : List UInt8) : St s [] 0 0 := ⟨[], s, rfl, rfl, rfl, by simp, by simp⟩
theorem St.at {s : List UInt8} {L : List Rc} {a j : Nat} {x : UInt8} (h : St s L a j) (hx : s[j]? = some x) : ∃ g r, s = textL L ++ (g ++ x :: r) ∧ (textL L).length = a ∧ g.length + a = j ∧ (10 : UInt8) ∉ g ∧ (∀ x ∈ L, x.fit) ∧ (s.take (j + 1)).drop a = g ++ [x] := by
  obtain ⟨g, r, h1, h2, h3, h4, h5⟩ := h
  have hr : r[0]? = some x := by
    rw [h1, List.getElem?_append_right (by omega), List.getElem?_append_right (by omega)] at hx
    rw [← hx]
    congr 1
    omega
  cases r with
  | nil => cases hr
  | cons y r =>
    obtain rfl : y = x := by simpa using hr
    refine ⟨g, r, h1, h2, h3, h4, h5, ?_⟩
    rw [h1, show textL L ++ (g ++ y :: r) = (textL L ++ (g ++ [y])) ++ r by simp, List.take_append_of_le_length (by simp only [List.length_append, List.length_cons, List.length_nil]; omega), List.take_of_length_le (by simp only [List.length_append, List.length_cons, List.length_nil]; omega), ← h2, List.drop_left]
theorem St.next {s : List UInt8} {L : List Rc} {a j : Nat} {x : UInt8} (h : St s L a j) (hx : s[j]? = some x) (hn : x ≠ 10) : St s L a (j + 1) := by
  obtain ⟨g, r, h1, h2, h3, h4, h5, _⟩ := h.at hx
  refine ⟨g ++ [x], r, by rw [h1]; simp, h2, by rw [List.length_append]; simp; omega, ?_, h5⟩
  intro hm
  rcases List.mem_append.1 hm with hm | hm
  · exact h4 hm
  · simp at hm; exact hn hm.symm
theorem St.line {s : List UInt8} {L : List Rc} {a j : Nat} (h : St s L a j) (hx : s[j]? = some 10) {r : Rc} (hf : r.fit) (hr : lineL r = (s.take (j + 1)).drop a) : St s (L ++ [r]) (j + 1) (j + 1) := by
  obtain ⟨g, t, h1, h2, h3, h4, h5, h6⟩ := h.at hx
  rw [h6] at hr
  refine ⟨[], t, by rw [textL_snoc, hr, h1]; simp, by rw [textL_snoc, hr, List.length_append, List.length_append]; simp; omega, by simp, by simp, ?_⟩
  intro y hy
  rcases List.mem_append.1 hy with hy | hy
  · exact h5 y hy
  · simp at hy; rw [hy]; exact hf
theorem St.no {s : List UInt8} {L : List Rc} {a j : Nat} (h : St s L a j) (hx : s[j]? = some 10) (hr : ∀ r : Rc, r.fit → lineL r ≠ (s.take (j + 1)).drop a) : IsTx s none := by
  obtain ⟨g, t, h1, h2, h3, h4, h5, h6⟩ := h.at hx
  rw [h6] at hr
  intro M hM _ he
  rw [h1] at he
  obtain ⟨M', rfl, h7⟩ := textL_split he
  obtain ⟨y, M1, rfl, h8, _⟩ := text_first h4 h7
  exact hr y (hM y (by simp)) h8
theorem St.rest {s : List UInt8} {L : List Rc} {a : Nat} (h : St s L a s.length) (ha : a ≠ s.length) : IsTx s none := by
  obtain ⟨g, t, h1, h2, h3, h4, h5⟩ := h
  intro M hM _ he
  have hl := congrArg List.length h1
  rw [List.length_append, List.length_append] at hl
  have ht : t = [] := List.eq_nil_of_length_eq_zero (by omega)
  rw [ht, List.append_nil] at h1
  rw [h1] at he
  obtain ⟨M', rfl, h7⟩ := textL_split he
  have := (text_ends h4 h7).1
  rw [this] at h3
  simp at h3
  exact ha h3
theorem St.all {s : List UInt8} {L : List Rc} (h : St s L s.length s.length) : textL L = s ∧ ∀ x ∈ L, x.fit := by
  obtain ⟨g, t, h1, h2, h3, h4, h5⟩ := h
  have hl := congrArg List.length h1
  rw [List.length_append, List.length_append] at hl
  have ht : t = [] := List.eq_nil_of_length_eq_zero (by omega)
  have hg : g = [] := List.eq_nil_of_length_eq_zero (by omega)
  rw [ht, hg, List.append_nil, List.append_nil] at h1
  exact ⟨h1.symm, h5⟩
theorem St.yes {s : List UInt8} {L : List Rc} (h : St s L s.length s.length) (hc : chkA L = true) : IsTx s (some L) := ⟨h.all.2, hc, h.all.1⟩
theorem St.bad {s : List UInt8} {L : List Rc} (h : St s L s.length s.length) (hc : chkA L = false) : IsTx s none := by
  intro M _ hM he
  rw [textL_inj (he.trans h.all.1.symm), hc] at hM
  cases hM
theorem St.segs {s : List UInt8} {L : List Rc} {a j : Nat} {x : UInt8} (h : St s L a j) (hs : Segs s) (hx : s[j]? = some x) : ((s.take (j + 1)).drop a).length ≤ 2147483648 := by
  obtain ⟨g, t, h1, h2, h3, h4, h5, h6⟩ := h.at hx
  have := hs _ _ _ h1 h4
  rw [h6, List.length_append]
  simp
  omega

def ReadIs (s : List UInt8) (B : Nat) (e : Ending) (w' : World) : Prop := ∃ (o : Option (List Rc)) (a : Option Addr) (c : Nat), IsTx s o ∧ e = .returned (.tuple #[.slice a (o.getD []).length c, .bool o.isSome]) ∧ Lg Rc.vals 4 27 B a c (o.getD []) w'
theorem read_none {s : List UInt8} (h : IsTx s none) (B : Nat) (w : World) : ReadIs s B (.returned (.tuple #[.slice none 0 0, .bool false])) w := ⟨none, none, 0, h, rfl, Lg.none _ _ _⟩
theorem read_some {s : List UInt8} {L : List Rc} (h : IsTx s (some L)) {B : Nat} {w : World} {a : Option Addr} {c : Nat} (hG : Lg Rc.vals 4 27 B a c L w) {n : Nat} (hn : L.length = n) : ReadIs s B (.returned (.tuple #[.slice a n c, .bool true])) w := ⟨some L, a, c, h, by rw [← hn]; rfl, hG⟩

set_option maxHeartbeats 16000000 in
theorem rread_ok (s : ByteArray) (hs : (s.size + 1) * 40 ≤ 140737488355328) (hsg : Segs (bL s)) (w : World) : Calls Tryd.prog 19 #[.string s] w fun e w' => ReadIs (bL s) w.heap.size e w' ∧ Below w.heap.size w w' := by
  obtain ⟨iI, zI, hI, hz0, hsz, hby, hzs⟩ := infoRc
  have hl := bL_len s
  replace hsg : Hid (Segs (bL s)) := hsg
  obtain ⟨n, hn⟩ : ∃ n, Hid (s.size = n) := ⟨_, rfl⟩
  rw [hn.out] at hs hl
  have hns : (s.size : Int) = (n : Int) := by rw [hn.out]
  have hG0 : Lg Rc.vals 4 27 w.heap.size (some ⟨w.heap.size, 0, none⟩) 0 [] (w.alloc (.cells #[] 27)) := Lg.of (Ow.empty (blk_new w #[] 27)) (Nat.le_refl _)
  have hB0 : Below w.heap.size w (w.alloc (.cells #[] 27)) := below_box w _
  go_enter Tryd.func19, Tryd.ntmps19
  go_wp2_with (first | refine box_Rc0 rfl rfl ?_)
  go_loopw [4, 5, 6] (fun ov fv iv wr => ∃ (L : List Rc) (a j k : Nat) (ga : Option Addr) (gc : Nat), a ≤ j ∧ j ≤ n ∧ k ≤ a ∧ ov = .slice ga k gc ∧ fv = .int .i64 a ∧ iv = .int .i64 j ∧ Hid (L.length = k) ∧ Hid (St (bL s) L a j) ∧ Lg Rc.vals 4 27 w.heap.size ga gc L wr ∧ Below w.heap.size w wr) (fun _ _ iv _ => n - (intOf iv).toNat)
  case atStart => exact ⟨[], 0, 0, 0, _, _, by omega, by omega, by omega, rfl, rfl, rfl, rfl, St.zero _, hG0, hB0⟩
  case round =>
    obtain ⟨L, a, j, k, ga, gc, haj, hj, hka, rfl, rfl, rfl, hk, HS, hG, hB⟩ := hrel
    rename World => wr
    clear hG0 hB0
    by_cases hjn : j < n
    · have j0 : (j : Int) < (n : Int) := by omega
      have j1 : (0 : Int) ≤ (j : Int) := by omega
      obtain ⟨x, hx⟩ : ∃ x, (bL s)[j]? = some x := ⟨_, List.getElem?_eq_getElem (by rw [hl]; exact hjn)⟩
      have hw1 : IntKind.i64.wrap ((j : Int) + 1) = (j : Int) + 1 := by rw [IntKind.wrap_i64]; omega
      by_cases h10 : x = 10
      · subst h10
        have hix : ∀ W, (Instr.index 9 (.string s) (.int .i64 (j : Int))).run Tryd.prog W = .ok (.int .u8 10) W := str_ix hx
        have s1 := sl_mid s a (j + 1) (by omega) (by rw [hn.out]; omega) (a : Int) ((j : Int) + 1) rfl (by omega)
        have hpl := HS.out.segs hsg.out hx
        have HY : Hid (∀ r : Rc, r.fit → lineL r = ((bL s).take (j + 1)).drop a → St (bL s) (L ++ [r]) (j + 1) (j + 1)) := fun r hf hr => HS.out.line hx hf hr
        have HN : Hid ((∀ r : Rc, r.fit → lineL r ≠ ((bL s).take (j + 1)).drop a) → IsTx (bL s) none) := fun hr => HS.out.no hx hr
        clear HS hx
        generalize ((bL s).take (j + 1)).drop a = P at s1 hpl HY HN
        go_wp2_with fail
        refine (rparse_ok (strB P) (by rw [strB_size]; omega) wr).mono ?_
        rintro e w1 ⟨⟨o, ho, hoc, rfl⟩, hb⟩
        rw [bL_strB] at ho
        replace hG := hG.below hb
        replace hB := below_next hB hb
        clear hb s1 hoc hpl
        cases o with
        | none =>
          have HR := HN.out ho
          clear HN HY ho
          obtain ⟨X, hX⟩ : ∃ X, ((none : Option Rc).getD Rc.zero) = X := ⟨_, rfl⟩
          rw [hX]
          clear hX
          have b3 := blk_new w1 X.arr 27
          have hb := below_box w1 (.cells X.arr 27)
          go_upto_region 8 with (go_big_may; first | refine alloc_zero zeroRc rfl rfl ?_ | refine store_new rfl 27 _ _ rfl (cells := X.arr) rfl rfl sizeRc rfl X.arr_one ?_)
          try simp only [Act.put, List.setIfInBounds_toArray, List.set_cons_zero, List.set_cons_succ]
          replace hB := below_next hB hb
          clear hb
          generalize w1.alloc (Obj.cells X.arr 27) = W5 at b3 hB ⊢
          generalize w1.heap.size = z5 at b3 ⊢
          clear b3
          go_wp2_with fail
          go_ret2
          exact ⟨read_none HR _ _, hB⟩
        | some X =>
          have HS2 : Hid (St (bL s) (L ++ [X]) (j + 1) (j + 1)) := HY.out X ho.1 ho.2
          clear HN HY ho
          rw [show (some X).getD Rc.zero = X from rfl, show (some X).isSome = true from rfl]
          have b3 := blk_new w1 X.arr 27
          have hb := below_box w1 (.cells X.arr 27)
          go_upto_region 8 with (go_big_may; first | refine alloc_zero zeroRc rfl rfl ?_ | refine store_new rfl 27 _ _ rfl (cells := X.arr) rfl rfl sizeRc rfl X.arr_one ?_)
          try simp only [Act.put, List.setIfInBounds_toArray, List.set_cons_zero, List.set_cons_succ]
          replace hG := hG.below hb
          replace hB := below_next hB hb
          clear hb
          generalize w1.alloc (Obj.cells X.arr 27) = W5 at b3 hB hG ⊢
          generalize w1.heap.size = z5 at b3 ⊢
          go_wp2_with (first | refine load_blk rfl 27 _ rfl b3 rfl Tryd.underlying27 rfl sizeRc ?_ | (refine box_Rc rfl _ rfl X rfl ?_; intro W2 hl2 hb2; have hG2 := hG.below hb2; have hB2 := below_next hB hb2) | (refine append_any Rc.vals_length rfl _ _ rfl Tryd.underlying22 hI hz0 hsz hby hzs hG2 hB2.size hk.out rfl (M := [X]) (m := 1) rfl (hl2.src Rc.vals_length Rc.vals_one Tryd.underlying22 1) rfl (by omega) (by simp only [maxLen]; omega) ?_; intro a3 c3 W3 hG3 hK3 _))
          have hB3 := hB2.trans (hK3.below (fun k hk => (hG2.in k hk).1) hB2.size)
          have hk3 : Hid ((L ++ [X]).length = k + 1) := by have := hk.out; show _ = _; rw [List.length_append, this]; rfl
          exact ⟨⟨L ++ [X], j + 1, j + 1, k + 1, a3, c3, by omega, by omega, by omega, rfl, by go_num, by go_num, hk3, HS2, hG3, hB3⟩, by simp [intOf]; omega⟩
      · have hix := str_ix hx
        have d1 : ((x.toNat : Int) != 10) = true := by
          have h : ¬ x.toNat = 10 := fun h => h10 (UInt8.toNat_inj.1 h)
          simp; omega
        have HS2 : Hid (St (bL s) L a (j + 1)) := HS.out.next hx h10
        clear HS hx h10
        go_wp2_with fail
        exact ⟨⟨L, a, j + 1, k, ga, gc, by omega, by omega, hka, rfl, rfl, by go_num, hk, HS2, hG, hB⟩, by simp [intOf]; omega⟩
    · obtain rfl : j = n := by omega
      have j0 : ¬ (j : Int) < (j : Int) := by omega
      by_cases ha : a = j
      · subst ha
        have hcl := racheck_ok L ga gc (by rw [hk.out]; omega) wr (hG.li.mono (Nat.zero_le _))
        rw [hk.out] at hcl
        have HY : Hid (chkA L = true → IsTx (bL s) (some L)) := fun h => by have := HS.out; rw [← hl] at this; exact this.yes h
        have HN : Hid (chkA L = false → IsTx (bL s) none) := fun h => by have := HS.out; rw [← hl] at this; exact this.bad h
        clear HS hjn
        go_wp2_with fail
        refine hcl.mono ?_
        rintro e w1 ⟨rfl, hb⟩
        replace hG := hG.below hb
        replace hB := below_next hB hb
        clear hb hcl
        cases hc : chkA L with
        | true =>
          have HR := HY.out hc
          clear HY HN hc
          go_wp2_with fail
          go_ret2
          exact ⟨read_some HR hG hk.out, hB⟩
        | false =>
          have HR := HN.out hc
          clear HY HN hc
          go_wp2_with fail
          go_ret2
          exact ⟨read_none HR _ _, hB⟩
      · have d0 : ((a : Int) != (j : Int)) = true := by simp; omega
        have HR : IsTx (bL s) none := by have := HS.out; rw [← hl] at this; exact this.rest (by omega)
        clear HS ha hjn
        go_wp2_with fail
        go_ret2
        exact ⟨read_none HR _ _, hB⟩

end Go.Proofs.YtehmcncclpimjaaDoor
