/-
  A frame and a list of entries as arguments: what they hold, read as data; and that arguments read behind a call as ahead of it, where of the memory that was there nothing turned.
  No condition.
-/
import Derived.Test.YtmbddjejbmjmfaaEntIn
import Derived.Test.YtmbddjejbmjmfaaFrWi
import Derived.OpenVars
import Derived.Deep.Slices
namespace Go.Proofs.Ytmbddjejbmjmfaa
set_option maxRecDepth 10000
open Go.ChangeShapes Go.WideShapes Go.ChangeAt Go.RowKit Go.WideElems

section
variable {H : Type} {enc : TypeId × Value → H} {W W' : World}

theorem laidOut : laidOutB Try.prog = true := by kernel_rfl

theorem stays_all {P : Program} (hl : laidOutB P = true) (hb : Below W.heap.size W W') : ∀ {ts : List TypeId} {vs : List Value} {ds : List (DataW H)} {ps : List MemPlace}, (ts.all fun t => P.readableRec t && decide (t < P.types.size)) = true →
    DataW.TrodAll enc P W 0 (fun _ => true) true ts vs ds ps → DataW.TrodAll enc P W' 0 (fun b => decide (b < W.heap.size)) true ts vs ds ps
  | [], [], [], _, _, h => h
  | [], [], _ :: _, _, _, h => h.elim
  | [], _ :: _, _, _, _, h => h.elim
  | _ :: _, [], _, _, _, h => h.elim
  | _ :: _, _ :: _, [], _, _, h => h.elim
  | t :: ts, v :: vs, d :: ds, ps, hr, h => by
    have hlt := h.lt
    obtain ⟨p, q, ⟨fuel, h4⟩, hs, e⟩ := h
    simp only [List.all_cons, Bool.and_eq_true, decide_eq_true_eq] at hr
    have hp : ∀ x ∈ p, x.block < W.heap.size := fun x hx => hlt x (by rw [e]; simp [hx])
    exact ⟨p, q, ⟨fuel, DataW.trod_stays (kids_book hl hr.1.1) (book_sized hr.1.1) (fun h => by cases h) ⟨hr.1.2, book_self t⟩ h4 (fun x hx => hb.same (hp x hx)) (fun x hx => by simpa using hp x hx)⟩,
      stays_all hl hb (by simpa using hr.2) hs, e⟩
end

section
variable {H : Type} {enc : TypeId × Value → H} {W : World} {base : Nat} {spare : Nat → Bool} {held : Bool}

theorem cells6 {cs : List Value} {fuel : Nat} {x : DataW H × List MemPlace} (h : DataW.trod enc Try.prog W base spare held fuel 30 cs = some x) : ∃ e : En, cs = e.vals := by
  have hC : Try.prog.cellsOf 30 = 6 := by kernel_rfl
  have h3 : Try.prog.cellsOf 3 = 1 := by kernel_rfl
  have h22 : Try.prog.cellsOf 28 = 1 := by kernel_rfl
  have h9 : Try.prog.cellsOf 9 = 1 := by kernel_rfl
  obtain ⟨xs, m, _, _, hlen, hl, hg⟩ := DataW.trod_struct Try.underlying30 h
  rw [hC] at hlen
  match cs, hlen with
  | [c0, c1, c2, c3, c4, c5], _ =>
    match xs, hl with
    | [y0, y1, y2, y3, y4, y5], _ =>
      have g0 := hg 0 _ rfl
      have g1 := hg 1 _ rfl
      have g2 := hg 2 _ rfl
      have g3 := hg 3 _ rfl
      have g4 := hg 4 _ rfl
      have g5 := hg 5 _ rfl
      simp [h3, h22, h9] at g0 g1 g2 g3 g4 g5
      obtain ⟨k, e0, _, _⟩ := DataW.trod_int Try.underlying3 g0
      obtain ⟨sv, e1, _, _⟩ := DataW.trod_int Try.underlying3 g1
      obtain ⟨g, e2, _, _⟩ := DataW.trod_int Try.underlying3 g2
      obtain ⟨se, e3, _, w3⟩ := DataW.trod_int Try.underlying28 g3
      obtain ⟨n, e4, _, w4⟩ := DataW.trod_int Try.underlying28 g4
      obtain ⟨t, e5, _, _⟩ := DataW.trod_string Try.underlying9 g5
      obtain ⟨a, rfl, _⟩ := u64_nat w3
      obtain ⟨b, rfl, _⟩ := u64_nat w4
      simp at e0 e1 e2 e3 e4 e5
      subst e0 e1 e2 e3 e4 e5
      exact ⟨⟨k, sv, g, a, b, t⟩, rfl⟩

theorem drop_take_take {cs : List Value} (a b c d : Nat) (h : c + d ≤ b) : (((cs.drop a).take b).drop c).take d = (cs.drop (a + c)).take d := by
  rw [List.drop_take, List.drop_drop, List.take_take]
  congr 1
  omega

theorem open_frame {v : Value} {d : DataW H} {p : List MemPlace} (hv : ∃ cs, v = .agg cs) (h : DataW.Trod enc Try.prog W base spare held 33 v d p) : ∃ F : Nat → En, v = .agg (frc F) := by
  obtain ⟨cs, rfl⟩ := hv
  have hC : Try.prog.cellsOf 33 = 36 := by kernel_rfl
  have hC2 : Try.prog.cellsOf 31 = 12 := by kernel_rfl
  have hC1 : Try.prog.cellsOf 30 = 6 := by kernel_rfl
  obtain ⟨fuel, hf⟩ := h
  obtain ⟨xs, m, _, _, hlen, hl, hg⟩ := DataW.trod_array Try.underlying33 hf
  rw [hC] at hlen
  have key : ∀ i, i < 6 → ∃ e : En, ((cs.toList.drop (i * 6)).take 6) = e.vals := by
    intro i hi
    have g := hg (i / 2) (by omega)
    rw [hC2, List.getElem?_eq_getElem (by omega)] at g
    obtain ⟨ys, m', _, _, _, hl', hg'⟩ := DataW.trod_array Try.underlying31 g
    have g' := hg' (i % 2) (by omega)
    rw [hC1, List.getElem?_eq_getElem (by omega)] at g'
    obtain ⟨e, he⟩ := cells6 g'
    refine ⟨e, ?_⟩
    rw [← he]
    show _ = (((cs.toList.drop (i / 2 * 12)).take 12).drop (i % 2 * 6)).take 6
    rw [drop_take_take _ _ _ _ (by omega)]
    congr 2
    omega
  obtain ⟨e0, h0⟩ := key 0 (by omega)
  obtain ⟨e1, h1⟩ := key 1 (by omega)
  obtain ⟨e2, h2⟩ := key 2 (by omega)
  obtain ⟨e3, h3⟩ := key 3 (by omega)
  obtain ⟨e4, h4⟩ := key 4 (by omega)
  obtain ⟨e5, h5⟩ := key 5 (by omega)
  refine ⟨fun y => [e0, e1, e2, e3, e4, e5].getD y En.zero, ?_⟩
  congr 1
  apply Array.toList_inj.1
  have hlen' : cs.toList.length = 36 := hlen
  have hcut : ∀ (l : List Value) , l.length = 36 → l = (l.drop 0).take 6 ++ ((l.drop 6).take 6 ++ ((l.drop 12).take 6 ++ ((l.drop 18).take 6 ++ ((l.drop 24).take 6 ++ (l.drop 30).take 6)))) := by
    intro l hl
    have s : ∀ a, l.drop a = (l.drop a).take 6 ++ l.drop (a + 6) := fun a => by rw [← List.drop_drop, List.take_append_drop]
    have z : l.drop 36 = [] := List.drop_eq_nil_of_le (by omega)
    conv => lhs; rw [← List.drop_zero (l := l), s 0, s 6, s 12, s 18, s 24, s 30, z, List.append_nil]
  rw [hcut _ hlen']
  rw [h0, h1, h2, h3, h4, h5]
  rfl

theorem open_list {v : Value} {d : DataW H} {p : List MemPlace} (hv : ∃ a n c, v = .slice a n c) (h : DataW.Trod enc Try.prog W base spare held 50 v d p) :
    ∃ (a : Option Addr) (L : List En) (c : Nat), v = .slice a L.length c ∧ L.length ≤ maxLen ∧ Sl a L W := by
  obtain ⟨a0, n0, c0, rfl⟩ := hv
  have hC : Try.prog.cellsOf 30 = 6 := by kernel_rfl
  obtain ⟨fuel, hf⟩ := h
  rcases Go.Deep.open_slice Try.underlying50 hf with ⟨hc, _⟩ | ⟨a, len, cap, m, n, D, Pl, hcs, _, hlc, hcm, hm, _, hcell⟩
  · simp [Value.cells] at hc
    obtain ⟨rfl, rfl, rfl⟩ := hc
    exact ⟨none, [], 0, rfl, Nat.zero_le _, .inl rfl⟩
  · simp [Value.cells] at hcs
    obtain ⟨rfl, rfl, rfl⟩ := hcs
    rw [hC] at hcell
    have hlm : n0 ≤ m := by rw [hm]; split <;> omega
    have key : ∀ i, ∃ e : En, i < n0 → ∃ cs', W.cells? base (a.add (i * 6)) 6 = some cs' ∧ cs' = e.vals := by
      intro i
      by_cases hi : i < n0
      · obtain ⟨cs', h1, h2⟩ := hcell i (by omega)
        obtain ⟨e, he⟩ := cells6 h2
        exact ⟨e, fun _ => ⟨cs', h1, he⟩⟩
      · exact ⟨En.zero, fun h => absurd h hi⟩
    obtain ⟨E, hE⟩ := Classical.axiomOfChoice key
    refine ⟨some a, (List.range n0).map E, c0, by simp, by simp; omega, ?_⟩
    by_cases h0 : n0 = 0
    · subst h0; exact .inl rfl
    · have hget : ∀ i r, i < n0 → r < 6 → W.cell? ((a.add (i * 6)).add r) = (E i).vals[r]? := by
        intro i r hi hr
        obtain ⟨cs', h1, rfl⟩ := hE i hi
        unfold World.cells? at h1
        split at h1
        · exact mapM_some_get h1 r r (by simp [hr])
        · cases h1
      have h0' := hget 0 0 (by omega) (by omega)
      obtain ⟨b, o, s⟩ := a
      cases s with
      | some k => simp [World.cell?, Addr.add, En.vals] at h0'; split at h0' <;> simp_all
      | none =>
      have hfirst : W.cell? ⟨b, o, none⟩ = some (.int .i64 (E 0).k) := by
        rw [Addr.add_mid, Addr.add_mid] at h0'
        exact h0'
      refine .inr ⟨b, o, rfl, block_lt_of_cell hfirst, fun j v hv => ?_⟩
      have hj : j < 6 * n0 := by
        have h := (List.getElem?_eq_some_iff.1 hv).1
        rw [enCells_length] at h
        simpa using h
      have hat := enCells_at ((List.range n0).map E) (j / 6) (E (j / 6)) (by simp [show j / 6 < n0 by omega]) (j % 6) (by omega)
      rw [show j / 6 * 6 + j % 6 = j by omega] at hat
      have h := hget (j / 6) (j % 6) (by omega) (by omega)
      rw [Addr.add_mid, Addr.add_mid] at h
      rw [show o + j = o + j / 6 * 6 + j % 6 by omega, h, ← hat]
      exact hv

end

end Go.Proofs.Ytmbddjejbmjmfaa
