/-
  Rosters: what the program's find, Has, Open, Close, Next and May answer.
  Each theorem says its own conditions: a roster that memory bears.
-/
import Derived.Test.YthhloomoiihfnaaRoA
import Derived.Test.YthhloomoiihfnaaRoN
import Derived.Test.YthhloomoiihfnaaHm
import Derived.Test.YthhloomoiihfnaaLn
import Derived.Test.YthhloomoiihfnaaLr
namespace Go.Proofs.Ythhloomoiihfnaa
set_option maxRecDepth 10000
set_option linter.unusedSimpArgs false
open Go.RowKit Go.Sort
set_option linter.unusedVariables false
set_option linter.unusedSimpArgs false

theorem sizeRo : (Try.prog.info? 25).map (·.size) = some 2 := by kernel_rfl
theorem zeroRo : (Try.prog.info? 25).map (fun i => (i.zero, i.size)) = some (some (.agg #[.int .u64 0, .slice none 0 0]), 2) := by kernel_rfl
theorem builtRo : Try.prog.built 25 [] = some #[.int .u64 0, .slice none 0 0] := by kernel_rfl
theorem ro_one (l : Int) (a : Option Addr) (n c : Nat) : (#[.int .u64 l, .slice a n c] : Array Value).all (·.oneCell') = true := by kernel_rfl
theorem sizeU64 : (Try.prog.info? 22).map (·.size) = some 1 := by kernel_rfl

set_option maxHeartbeats 1000000 in
theorem hasQ_ok (d X : Nat) (k : Se) (w : World) (hX : Blk X #[.int .u64 (d : Int)] 22 w) : Calls Try.prog 23 #[.agg k.arr, .pointer (some ⟨X, 0, none⟩)] w fun e w' => e = .returned (.bool (isI d k)) ∧ Below w.heap.size w w' := by
  have b1 := blk_new w k.arr 41
  have hB : Below w.heap.size w (w.alloc (.cells k.arr 41)) := below_box w _
  have hX1 := hX.below hB
  have q0 : (w.alloc (.cells k.arr 41)).cell? ⟨w.heap.size, 0, none⟩ = some (.int .u64 (k.i : Int)) := b1.cell 0 _ rfl
  have q1 := hX1.cell 0 _ rfl
  have ht : ((k.i : Int) == (d : Int)) = isI d k := by unfold isI; rw [Bool.eq_iff_iff]; simp; omega
  generalize isI d k = t at ht ⊢
  clear hX hX1 b1
  go_enter Try.func23, Try.ntmps23
  go_wp2_with fail
  go_ret
  exact ⟨rfl, hB⟩
theorem entFind : Enters 23 := fun args w => by kernel_rfl
theorem ix_place {q : Se → Bool} {L : List Se} {e : Ending} (h : IxSe q L e) : e = .returned (.int .i64 (placeI (L.findIdx? q))) := by
  rcases h with ⟨j, k, rfl, h1, h2, h3⟩ | ⟨rfl, h1⟩
  · rw [first_at q L j k h1 h2 h3]; rfl
  · rw [first_no q L h1]; rfl

set_option maxHeartbeats 1000000 in
theorem find_ok (d : Nat) (l : Nat) (L : List Se) (la : Option Addr) (lc : Nat) (lm : L.length ≤ 9223372036854775807) (w : World) (hS : Li Se.vals 0 la L w) :
    Calls Try.prog 20 #[.agg #[.int .u64 (l : Int), .slice la L.length lc], .int .u64 (d : Int)] w fun e w' => e = .returned (.int .i64 (placeI (fstS d L))) ∧ Below w.heap.size w w' := by
  have hmf : ∀ (fn : Fn) (first cap : Array Value) (w : World), (Instr.makeFunc fn first cap).run Try.prog w = .ok (.func fn first cap) w := fun _ _ _ _ => rfl
  have pi := fun X w h1 h2 => ixs_ok 23 (.pointer (some ⟨X, 0, none⟩)) (isI d) entFind (fun w => Blk X #[.int .u64 (d : Int)] 22 w) (fun w w' h hb => h.below hb) L (fun k w hw => hasQ_ok d X k w hw) la lc lm w h1 h2
  generalize L.length = n at pi ⊢
  obtain ⟨a1, a2, hB⟩ := two_blk (T0 := 25) (T1 := 22) (C0 := #[.int .u64 (l : Int), .slice la n lc]) (C1 := #[.int .u64 (d : Int)]) (w := w) rfl
  go_enter Try.func20, Try.ntmps20
  go_upto_region 1 with fail
  try simp only [Act.put]
  generalize (w.alloc (Obj.cells #[.int .u64 (l : Int), .slice la n lc] 25)).alloc (Obj.cells #[.int .u64 (d : Int)] 22) = W at a1 a2 hB ⊢
  have c1 : W.cell? ⟨w.heap.size, 1, none⟩ = some (.slice la n lc) := a1.cell 1 _ rfl
  generalize w.heap.size + 1 = X at a2 ⊢
  go_wp2_with fail
  refine (pi X W (hS.below hB) a2).mono ?_
  rintro r w1 ⟨hF, hb⟩
  obtain rfl := ix_place hF
  replace hB := below_next hB hb
  change Below w.heap.size w w1 at hB
  clear pi hF hb a1 a2 c1
  go_wp2_with fail
  go_ret
  exact ⟨rfl, hB⟩
theorem has_place (d : Nat) (L : List Se) : decide (0 ≤ placeI (fstS d L)) = hasS d L := by
  unfold hasS
  cases fstS d L with
  | none => rfl
  | some i => simp [placeI]

set_option maxHeartbeats 1000000 in
theorem has_ok (d : Nat) (l : Nat) (L : List Se) (la : Option Addr) (lc : Nat) (lm : L.length ≤ 9223372036854775807) (w : World) (hS : Li Se.vals 0 la L w) :
    Calls Try.prog 15 #[.agg #[.int .u64 (l : Int), .slice la L.length lc], .int .u64 (d : Int)] w fun e w' => e = .returned (.bool (hasS d L)) ∧ Below w.heap.size w w' := by
  have pf := find_ok d l L la lc lm
  have hp := has_place d L
  generalize L.length = n at pf ⊢
  generalize placeI (fstS d L) = p at pf hp
  generalize hasS d L = t at hp ⊢
  have b1 := blk_new w #[.int .u64 (l : Int), .slice la n lc] 25
  have hB : Below w.heap.size w (w.alloc (.cells #[.int .u64 (l : Int), .slice la n lc] 25)) := below_box w _
  go_enter Try.func15, Try.ntmps15
  go_wp2_with (refine load_blk rfl 25 _ rfl b1 rfl Try.underlying25 rfl sizeRo ?_)
  refine (pf _ (hS.below hB)).mono ?_
  rintro r w1 ⟨rfl, hb⟩
  replace hB := below_next hB hb
  clear pf hb b1
  go_wp2_with fail
  go_ret
  exact ⟨rfl, hB⟩

def Opened (l : Nat) (L : List Se) (B : Nat) (e : Ending) (w' : World) : Prop := ∃ a c, e = .returned (.tuple #[.agg #[.int .u64 (opnI l L : Int), .slice a (opnL l L).length c], .int .u64 (opnI l L : Int), .int .i64 (opnE l L)]) ∧ Lg Se.vals 2 41 B a c (opnL l L) w'
theorem opened_no {l : Nat} {L : List Se} {B : Nat} {w' : World} (h : 4 ≤ L.length ∨ 65535 ≤ l) : Opened l L B (.returned (.tuple #[.agg #[.int .u64 0, .slice none 0 0], .int .u64 0, .int .i64 161])) w' := by
  have h1 : opnE l L = 161 := if_pos h
  have h2 : opnL l L = [] := by unfold opnL; rw [h1, if_neg (by decide)]
  have h3 : opnI l L = 0 := by unfold opnI; rw [h1, if_neg (by decide)]
  exact ⟨none, 0, by rw [h1, h2, h3]; rfl, by rw [h2]; exact Lg.none _ _ _⟩
theorem opened_yes {l k n : Nat} {L : List Se} {B : Nat} {w' : World} (h : ¬ (4 ≤ n ∨ 65535 ≤ l)) (hn : L.length = n) (hk : l + 1 = k) (a : Option Addr) (c : Nat) (hG : Lg Se.vals 2 41 B a c (L ++ [⟨k, 0⟩]) w') :
    Opened l L B (.returned (.tuple #[.agg #[.int .u64 (k : Int), .slice a (n + 1) c], .int .u64 (k : Int), .int .i64 0])) w' := by
  subst hk hn
  have h1 : opnE l L = 0 := if_neg h
  have h2 : opnL l L = L ++ [⟨l + 1, 0⟩] := by unfold opnL; rw [h1, if_pos rfl]
  have h3 : opnI l L = l + 1 := by unfold opnI; rw [h1, if_pos rfl]
  exact ⟨a, c, by rw [h1, h2, h3, List.length_append]; rfl, by rw [h2]; exact hG⟩
theorem store_all {P : Program} {ops : Array Oper} {rest : List Oper} {op : Oper} {a : Act} {w : World} {Q : Exit → Act → World → Prop} (hgd : op.guard = none) (ty : TypeId) (x y : Operand) (ho : op.op = .store ty x y)
    {B : Nat} {C cells : Array Value} {T : TypeId} (hB : Blk B C T w) (hx : a.eval x = .pointer (some ⟨B, 0, none⟩)) (hy : a.eval y = .agg cells) (hi : (P.info? ty).map (·.size) = some cells.size) (hs : C.size = cells.size) (h1 : cells.all (·.oneCell') = true)
    (h : ∀ W, Blk B cells T W → Kp [B] w W → wpList P ops Q rest (a.put op.dst undef) W) : wpList P ops Q (op :: rest) a w :=
  wpList_plain hgd fun _ hK => wp_store_all ty x y ho hB hx hy hi hs h1 (fun W b k => hK _ _ (h W b k))

set_option maxHeartbeats 2000000 in
theorem open_ok (l : Nat) (L : List Se) (la : Option Addr) (lc : Nat) (lm : L.length * 16 ≤ 140737488351232) (w : World) (hS : Li Se.vals 0 la L w) :
    Calls Try.prog 7 #[.agg #[.int .u64 (l : Int), .slice la L.length lc]] w fun e w' => Opened l L w.heap.size e w' ∧ Below w.heap.size w w' := by
  obtain ⟨iI, zI, hI, hz0, hsz, hby, hzs⟩ := infoSe
  have pc := sclone_ok L la lc (by omega)
  have HE := fun w' => opened_no (l := l) (L := L) (B := w.heap.size) (w' := w')
  obtain ⟨n, hn⟩ : ∃ n, Hid (L.length = n) := ⟨_, rfl⟩
  rw [hn.out] at pc lm HE ⊢
  obtain ⟨a1, a2, hB⟩ := two_blk (T0 := 25) (T1 := 25) (C0 := #[.int .u64 (l : Int), .slice la n lc]) (C1 := #[.int .u64 0, .slice none 0 0]) (w := w) rfl
  go_enter Try.func7, Try.ntmps7
  go_upto_region 1 with (go_big_may; refine alloc_zero zeroRo rfl rfl ?_)
  try simp only [Act.put]
  generalize (w.alloc (Obj.cells #[.int .u64 (l : Int), .slice la n lc] 25)).alloc (Obj.cells #[.int .u64 0, .slice none 0 0] 25) = W at a1 a2 hB ⊢
  have c0 : W.cell? ⟨w.heap.size, 0, none⟩ = some (.int .u64 (l : Int)) := a1.cell 0 _ rfl
  have c1 : W.cell? ⟨w.heap.size, 1, none⟩ = some (.slice la n lc) := a1.cell 1 _ rfl
  by_cases h4 : 4 ≤ n
  · have d4 : (4 : Int) ≤ (n : Int) := by omega
    replace HE := fun w' => HE w' (.inl h4)
    clear pc h4
    go_wp2_with (first | refine build_zero builtRo rfl rfl ?_ | (refine store_all rfl 25 _ _ rfl (cells := #[.int .u64 0, .slice none 0 0]) a2 rfl rfl sizeRo rfl (ro_one _ _ _ _) ?_; intro w9 b9 k9; have hB9 := below_at hB k9 (by omega)))
    refine bodyPost_ret (w := w9) (v := .tuple #[.agg #[.int .u64 0, .slice none 0 0], .int .u64 0, .int .i64 161]) (ret_ctt rfl rfl b9 Try.underlying25 rfl sizeRo rfl rfl) rfl ⟨HE w9, hB9⟩
  have d4 : ¬ (4 : Int) ≤ (n : Int) := by omega
  by_cases h5 : 65535 ≤ l
  · have d5 : (65535 : Int) ≤ (l : Int) := by omega
    replace HE := fun w' => HE w' (.inr h5)
    clear pc h5
    go_wp2_with (first | refine build_zero builtRo rfl rfl ?_ | (refine store_all rfl 25 _ _ rfl (cells := #[.int .u64 0, .slice none 0 0]) a2 rfl rfl sizeRo rfl (ro_one _ _ _ _) ?_; intro w9 b9 k9; have hB9 := below_at hB k9 (by omega)))
    refine bodyPost_ret (w := w9) (v := .tuple #[.agg #[.int .u64 0, .slice none 0 0], .int .u64 0, .int .i64 161]) (ret_ctt rfl rfl b9 Try.underlying25 rfl sizeRo rfl rfl) rfl ⟨HE w9, hB9⟩
  have d5 : ¬ (65535 : Int) ≤ (l : Int) := by omega
  obtain ⟨k, hk⟩ : ∃ k, Hid (l + 1 = k) := ⟨_, rfl⟩
  have u1 : IntKind.u64.wrap ((l : Int) + 1) = (k : Int) := by have := hk.out; rw [IntKind.wrap_u64]; omega
  have HO := fun w' a c h => opened_yes (w' := w') (B := w.heap.size) (show ¬ (4 ≤ n ∨ 65535 ≤ l) by omega) hn.out hk.out a c h
  have n4 : n < 4 := by omega
  clear HE h4 h5
  go_wp2_with fail
  refine (pc W (hS.below hB)).mono ?_
  rintro r w2 ⟨⟨a, c, rfl, hG⟩, hb⟩
  have hoff : (w.heap.size + 1) ∉ blkOf a := fun hm => by
    have h1 := (hG.in _ hm).1
    have h2 := a2.lt
    omega
  replace a2 := a2.below hb
  replace hG := hG.mono hB.size
  replace hB := below_next hB hb
  rw [hn.out]
  clear pc hb c0 c1 a1 d4 d5 u1
  go_wp2_with (first | (refine box_Se rfl _ rfl ⟨k, 0⟩ rfl ?_; intro W2 hl2 hb2; have hG2 := hG.below hb2; have hB2 := below_next hB hb2; have a22 := a2.below hb2) | (refine append_any Se.vals_length rfl _ _ rfl Try.underlying23 hI hz0 hsz hby hzs hG2 hB2.size hn.out rfl (M := [⟨k, 0⟩]) (m := 1) rfl (hl2.src Se.vals_length Se.vals_one Try.underlying23 1) rfl (by omega) (by simp only [maxLen]; omega) ?_; intro a3 c3 W3 hG3 hK3 hA3; have a23 := a22.kp hK3 hoff; have hB3 : Below w.heap.size w W3 := hB2.trans (hK3.below (fun k hk => (hG2.in k hk).1) hB2.size); have hoff3 : (w.heap.size + 1) ∉ blkOf a3 := (fun hm => by rcases hA3 _ hm with h | h; exact hoff h; have h2 := a22.lt; omega)) | (refine store_all rfl 25 _ _ rfl (cells := #[.int .u64 (k : Int), .slice a3 (n + 1) c3]) a23 rfl rfl sizeRo rfl (ro_one _ _ _ _) ?_; intro w9 b9 k9; have hB9 := below_at hB3 k9 (by omega); have hG9 := hG3.away k9 hoff3))
  refine bodyPost_ret (w := w9) (v := .tuple #[.agg #[.int .u64 (k : Int), .slice a3 (n + 1) c3], .int .u64 (k : Int), .int .i64 0]) (ret_ctt rfl rfl b9 Try.underlying25 rfl sizeRo rfl rfl) rfl ⟨HO w9 a3 c3 hG9, hB9⟩

def Closed (l d : Nat) (L : List Se) (B : Nat) (e : Ending) (w' : World) : Prop := ∃ a c, e = .returned (.tuple #[.agg #[.int .u64 (clsI l d L : Int), .slice a (clsL d L).length c], .int .i64 (clsE d L)]) ∧ Lg Se.vals 2 41 B a c (clsL d L) w'
theorem closed_no {l d : Nat} {L : List Se} {B : Nat} {w' : World} (h : fstS d L = none) : Closed l d L B (.returned (.tuple #[.agg #[.int .u64 0, .slice none 0 0], .int .i64 162])) w' := by
  have h0 : hasS d L = false := by unfold hasS; rw [h]; rfl
  have h1 : clsE d L = 162 := by unfold clsE; rw [h0]; rfl
  have h2 : clsL d L = [] := by unfold clsL; rw [h]
  have h3 : clsI l d L = 0 := by unfold clsI; rw [h0]; rfl
  exact ⟨none, 0, by rw [h1, h2, h3]; rfl, by rw [h2]; exact Lg.none _ _ _⟩
theorem closed_yes {l d i n : Nat} {L : List Se} {B : Nat} {w' : World} (h : fstS d L = some i) (hn : L.length = n) (hi : i < n) (a : Option Addr) (c : Nat) (hG : Lg Se.vals 2 41 B a c (L.eraseIdx i) w') :
    Closed l d L B (.returned (.tuple #[.agg #[.int .u64 (l : Int), .slice a (n - 1) c], .int .i64 0])) w' := by
  subst hn
  have h0 : hasS d L = true := by unfold hasS; rw [h]; rfl
  have h1 : clsE d L = 0 := by unfold clsE; rw [h0]; rfl
  have h2 : clsL d L = L.eraseIdx i := by unfold clsL; rw [h]
  have h3 : clsI l d L = l := by unfold clsI; rw [h0]; rfl
  exact ⟨a, c, by rw [h1, h2, h3, List.length_eraseIdx_of_lt hi], by rw [h2]; exact hG⟩

set_option maxHeartbeats 4000000 in
theorem close_ok (d : Nat) (l : Nat) (L : List Se) (la : Option Addr) (lc : Nat) (lm : L.length * 16 ≤ 140737488351232) (w : World) (hS : Li Se.vals 0 la L w) :
    Calls Try.prog 9 #[.agg #[.int .u64 (l : Int), .slice la L.length lc], .int .u64 (d : Int)] w fun e w' => Closed l d L w.heap.size e w' ∧ Below w.heap.size w w' := by
  have pc := sclone_ok L la lc (by omega)
  have pf := find_ok d l L la lc (by omega)
  obtain ⟨n, hn⟩ : ∃ n, Hid (L.length = n) := ⟨_, rfl⟩
  rw [hn.out] at pc pf lm ⊢
  obtain ⟨a1, a2, hB⟩ := two_blk (T0 := 25) (T1 := 25) (C0 := #[.int .u64 (l : Int), .slice la n lc]) (C1 := #[.int .u64 0, .slice none 0 0]) (w := w) rfl
  go_enter Try.func9, Try.ntmps9
  go_upto_region 1 with (go_big_may; refine alloc_zero zeroRo rfl rfl ?_)
  try simp only [Act.put]
  generalize (w.alloc (Obj.cells #[.int .u64 (l : Int), .slice la n lc] 25)).alloc (Obj.cells #[.int .u64 0, .slice none 0 0] 25) = W at a1 a2 hB ⊢
  have hw0 : w.heap.size + 1 < W.heap.size := a2.lt
  rcases fstS_cases d L with ⟨h1, _⟩ | ⟨i, x, h1, h2, _⟩
  · rw [h1] at pf
    have HE := fun w' => closed_no (l := l) (B := w.heap.size) (w' := w') h1
    simp only [placeI] at pf
    clear pc h1
    go_wp2_with (refine load_blk rfl 25 _ rfl a1 rfl Try.underlying25 rfl sizeRo ?_)
    refine (pf W (hS.below hB)).mono ?_
    rintro r w2 ⟨rfl, hb⟩
    replace a2 := a2.below hb
    replace hB := below_next hB hb
    clear pf hb a1
    go_wp2_with (first | refine build_zero builtRo rfl rfl ?_ | (refine store_all rfl 25 _ _ rfl (cells := #[.int .u64 0, .slice none 0 0]) a2 rfl rfl sizeRo rfl (ro_one _ _ _ _) ?_; intro w9 b9 k9; have hB9 := below_at hB k9 (by omega)))
    refine bodyPost_ret (w := w9) (v := .tuple #[.agg #[.int .u64 0, .slice none 0 0], .int .i64 162]) (ret_two rfl rfl b9 Try.underlying25 rfl sizeRo rfl) rfl ⟨HE w9, hB9⟩
  · rw [h1] at pf
    have hi := (List.getElem?_eq_some_iff.1 h2).1
    rw [hn.out] at hi
    have HM := fun w' a c h => closed_yes (l := l) (B := w.heap.size) (w' := w') h1 hn.out hi a c h
    simp only [placeI] at pf
    have i0 : (0 : Int) ≤ (i : Int) := by omega
    have i1 : ¬ (i : Int) < 0 := by omega
    have i2 : (i : Int) < (n : Int) := by omega
    have i3 : IntKind.i64.wrap ((i : Int) + 1) = (i : Int) + 1 := by rw [IntKind.wrap_i64]; omega
    have pd : ∀ g c w, Ow Se.vals 2 41 g c L w → Calls Try.prog 21 #[.slice (some ⟨g, 0, none⟩) n c, .int .i64 (i : Int), .int .i64 ((i : Int) + 1)] w fun e w' => e = .returned (.slice (some ⟨g, 0, none⟩) (n - 1) c) ∧ Ow Se.vals 2 41 g c (L.eraseIdx i) w' ∧ Kp [g] w w' := fun g c w h => by
      have := sdel_ok L i (i + 1) (by omega) (by rw [hn.out]; omega) g c w h
      rw [← List.eraseIdx_eq_take_drop_succ, List.length_eraseIdx_of_lt (by rw [hn.out]; exact hi), hn.out] at this
      exact this
    clear h1
    go_wp2_with (refine load_blk rfl 25 _ rfl a1 rfl Try.underlying25 rfl sizeRo ?_)
    refine (pf W (hS.below hB)).mono ?_
    rintro r W1 ⟨rfl, hb⟩
    replace a1 := a1.below hb
    replace a2 := a2.below hb
    replace hB := below_next hB hb
    have hw1 := a2.lt
    clear pf hb
    go_upto_region 4 with fail
    try simp only [Act.put]
    replace a2 := a2.drew
    refine wp_region_held_drew (S := fun v => Kp [(w.heap.size + 1)] W1 v) (by kernel_rfl) (Kp.drew _ _) (fun hHeld => ?_)
    refine tkQ 0 hHeld ?_
    try simp only [yy]
    refine tkH 1 (v := ?v2) rfl (by kernel_rfl) (fun _ _ _ h => h) (Or.inl ⟨by rfl, ?hy2⟩) hHeld ?rest2
    case hy2 => (intro w hSw; have hc := (a1.kp1 hSw (by omega)).cell 0 (.int .u64 (l : Int)) rfl; clear hSw; go_simp; try with_reducible rfl)
    try simp only [yy]
    refine tkQ 2 hHeld ?_
    try simp only [yy]
    refine tkH 3 (v := ?v4) rfl (by kernel_rfl) (fun _ _ _ h => h) (Or.inl ⟨by rfl, ?hy4⟩) hHeld ?rest4
    case hy4 => (intro w hSw; have hc := (a1.kp1 hSw (by omega)).cell 1 (.slice la n lc) rfl; clear hSw; go_simp; try with_reducible rfl)
    try simp only [yy]
    refine tkQ 5 hHeld ?_
    try simp only [yy]
    refine tkQ 6 hHeld ?_
    try simp only [yy]
    refine tkQ 7 hHeld ?_
    try simp only [yy]
    refine rd1 4 (fun K hK => ?_)
    go_simp
    go_wp2_with (refine (pc _ (hS.below (below_at hB hHeld (by omega)))).mono ?_; rintro r u1 ⟨⟨a, c, rfl, hG⟩, hb⟩)
    rw [hn.out]
    replace a2 := a2.below hb
    replace hG := hG.mono hHeld.size
    obtain ⟨g, rfl, hBg, hO⟩ : ∃ g, a = some ⟨g, 0, none⟩ ∧ W1.heap.size ≤ g ∧ Ow Se.vals 2 41 g c L _ := by
      rcases hG with ⟨_, _, rfl⟩ | h
      · simp at h2
      · exact h
    refine hK.out _ _ (hHeld.trans (Kp.of_below hb)) (fun hHeld => ?_)
    clear hK K hb hG
    refine rd1 8 (fun K hK => ?_)
    go_simp
    go_wp2_with (refine (pd g c _ hO).mono ?_; rintro r u2 ⟨rfl, hO1, hk1⟩)
    replace a2 := a2.kp1 hk1 (by omega)
    refine hK.out _ _ (hHeld.new hk1 hBg) (fun hHeld => ?_)
    clear hK K hk1 hO
    refine tkH 9 (v := .agg #[.int .u64 (l : Int), .slice (some ⟨g, 0, none⟩) (n - 1) c]) rfl (by kernel_rfl) (fun _ _ _ h => h) (yields_build (by rfl) 25 #[(0, .tmp 14), (1, .tmp 21)] rfl (by kernel_rfl)) hHeld ?rest8
    try simp only [yy]
    refine rd1 10 (fun K hK => ?_)
    rw [if_pos (by rfl)]
    refine wp_store_all 25 _ _ rfl (cells := #[.int .u64 (l : Int), .slice (some ⟨g, 0, none⟩) (n - 1) c]) a2 rfl rfl sizeRo rfl (ro_one _ _ _ _) ?_
    intro w9 b9 k9
    have hO9 := hO1.kp k9 (by simp; omega)
    refine hK.out _ _ (hHeld.trans k9) (fun hHeld => ?_)
    clear hK K hO1 k9
    try simp only [yy]
    refine tkQ 11 hHeld ?_
    try simp only [yy]
    refine wpAnyH_done (by kernel_rfl) ?_ _
    go_wp2_with fail
    refine bodyPost_ret (w := w9) (v := .tuple #[.agg #[.int .u64 (l : Int), .slice (some ⟨g, 0, none⟩) (n - 1) c], .int .i64 0]) (ret_two rfl rfl b9 Try.underlying25 rfl sizeRo rfl) rfl ⟨HM w9 _ c (Lg.of hO9 (by omega)), below_at hB hHeld (by omega)⟩

def Sent (l d : Nat) (L : List Se) (B : Nat) (e : Ending) (w' : World) : Prop := ∃ a c, e = .returned (.tuple #[.agg #[.int .u64 (sndI l d L : Int), .slice a (sndL d L).length c], .int .u64 (sndN d L : Int), .int .i64 (sndE d L)]) ∧ Lg Se.vals 2 41 B a c (sndL d L) w'
theorem sent_no {l d : Nat} {L : List Se} {B : Nat} {w' : World} (h : sndS d L = none) : Sent l d L B (.returned (.tuple #[.agg #[.int .u64 0, .slice none 0 0], .int .u64 0, .int .i64 162])) w' := by
  have h1 : sndE d L = 162 := by unfold sndE; rw [h]; rfl
  have h2 : sndL d L = [] := by unfold sndL; rw [h]
  have h3 : sndI l d L = 0 := by unfold sndI; rw [h]; rfl
  have h4 : sndN d L = 0 := by unfold sndN; rw [h]
  exact ⟨none, 0, by rw [h1, h2, h3, h4]; rfl, by rw [h2]; exact Lg.none _ _ _⟩
theorem sent_yes {l d i n k : Nat} {x : Se} {L : List Se} {B : Nat} {w' : World} (h : sndS d L = some i) (hx : L[i]? = some x) (hn : L.length = n) (hk : x.n + 1 = k) (a : Option Addr) (c : Nat) (hG : Lg Se.vals 2 41 B a c (L.set i ⟨x.i, k⟩) w') :
    Sent l d L B (.returned (.tuple #[.agg #[.int .u64 (l : Int), .slice a n c], .int .u64 (k : Int), .int .i64 0])) w' := by
  subst hn hk
  have h1 : sndE d L = 0 := by unfold sndE; rw [h]; rfl
  have h2 : sndL d L = L.set i ⟨x.i, x.n + 1⟩ := by unfold sndL; simp only [h, hx]
  have h3 : sndI l d L = l := by unfold sndI; rw [h]; rfl
  have h4 : sndN d L = x.n + 1 := by unfold sndN; simp only [h, hx]
  exact ⟨a, c, by rw [h1, h2, h3, h4, List.length_set], by rw [h2]; exact hG⟩
theorem snd_none {d : Nat} {L : List Se} (h : fstS d L = none) : sndS d L = none := by unfold sndS; rw [h]
theorem snd_of {d i : Nat} {x : Se} {L : List Se} (h : fstS d L = some i) (hx : L[i]? = some x) : sndS d L = if 4294967295 ≤ x.n then none else some i := by unfold sndS; simp only [h, hx]

set_option maxHeartbeats 4000000 in
theorem next_ok (d : Nat) (l : Nat) (L : List Se) (la : Option Addr) (lc : Nat) (lm : L.length * 16 ≤ 140737488351232) (w : World) (hS : Li Se.vals 0 la L w) :
    Calls Try.prog 11 #[.agg #[.int .u64 (l : Int), .slice la L.length lc], .int .u64 (d : Int)] w fun e w' => Sent l d L w.heap.size e w' ∧ Below w.heap.size w w' := by
  have pc := sclone_ok L la lc (by omega)
  have pf := find_ok d l L la lc (by omega)
  obtain ⟨n, hn⟩ : ∃ n, Hid (L.length = n) := ⟨_, rfl⟩
  rw [hn.out] at pc pf lm ⊢
  obtain ⟨a1, a2, hB⟩ := two_blk (T0 := 25) (T1 := 25) (C0 := #[.int .u64 (l : Int), .slice la n lc]) (C1 := #[.int .u64 0, .slice none 0 0]) (w := w) rfl
  go_enter Try.func11, Try.ntmps11
  go_upto_region 1 with (go_big_may; refine alloc_zero zeroRo rfl rfl ?_)
  try simp only [Act.put]
  generalize (w.alloc (Obj.cells #[.int .u64 (l : Int), .slice la n lc] 25)).alloc (Obj.cells #[.int .u64 0, .slice none 0 0] 25) = W at a1 a2 hB ⊢
  have hw0 : w.heap.size + 1 < W.heap.size := a2.lt
  rcases fstS_cases d L with ⟨h1, _⟩ | ⟨i, x, h1, h2, _⟩
  · rw [h1] at pf
    have HE := fun w' => sent_no (l := l) (B := w.heap.size) (w' := w') (snd_none h1)
    simp only [placeI] at pf
    clear pc h1
    go_wp2_with (refine load_blk rfl 25 _ rfl a1 rfl Try.underlying25 rfl sizeRo ?_)
    refine (pf W (hS.below hB)).mono ?_
    rintro r w2 ⟨rfl, hb⟩
    replace a2 := a2.below hb
    replace hB := below_next hB hb
    clear pf hb a1
    go_wp2_with (first | refine build_zero builtRo rfl rfl ?_ | (refine store_all rfl 25 _ _ rfl (cells := #[.int .u64 0, .slice none 0 0]) a2 rfl rfl sizeRo rfl (ro_one _ _ _ _) ?_; intro w9 b9 k9; have hB9 := below_at hB k9 (by omega)))
    refine bodyPost_ret (w := w9) (v := .tuple #[.agg #[.int .u64 0, .slice none 0 0], .int .u64 0, .int .i64 162]) (ret_ctt rfl rfl b9 Try.underlying25 rfl sizeRo rfl rfl) rfl ⟨HE w9, hB9⟩
  · rw [h1] at pf
    have hi := (List.getElem?_eq_some_iff.1 h2).1
    rw [hn.out] at hi
    have HS : Hid (sndS d L = if 4294967295 ≤ x.n then none else some i) := snd_of h1 h2
    simp only [placeI] at pf
    have i0 : (0 : Int) ≤ (i : Int) := by omega
    have i1 : ¬ (i : Int) < 0 := by omega
    have i2 : (i : Int) < (n : Int) := by omega
    obtain ⟨b, o, rfl, _, hbl, hr⟩ := hS.at Se.vals_length i x h2
    clear h1 hr
    go_wp2_with (refine load_blk rfl 25 _ rfl a1 rfl Try.underlying25 rfl sizeRo ?_)
    refine (pf W (hS.below hB)).mono ?_
    rintro r W1 ⟨rfl, hb⟩
    replace a1 := a1.below hb
    replace a2 := a2.below hb
    replace hB := below_next hB hb
    have hw1 := a2.lt
    clear pf hb
    have c1 : W1.cell? ⟨w.heap.size, 1, none⟩ = some (.slice (some ⟨b, o, none⟩) n lc) := a1.cell 1 _ rfl
    have e1 : W1.cell? ⟨b, o + i * 2 + 1, none⟩ = some (.int .u64 (x.n : Int)) := (hS.below hB).rng Se.vals_length i x h2 1 _ rfl
    by_cases hx : 4294967295 ≤ x.n
    · have dx : (4294967295 : Int) ≤ (x.n : Int) := by omega
      have HE := fun w' => sent_no (l := l) (B := w.heap.size) (w' := w') (by rw [HS.out, if_pos hx] : sndS d L = none)
      clear pc hx HS
      go_wp2_with (first | refine build_zero builtRo rfl rfl ?_ | (refine store_all rfl 25 _ _ rfl (cells := #[.int .u64 0, .slice none 0 0]) a2 rfl rfl sizeRo rfl (ro_one _ _ _ _) ?_; intro w9 b9 k9; have hB9 := below_at hB k9 (by omega)))
      refine bodyPost_ret (w := w9) (v := .tuple #[.agg #[.int .u64 0, .slice none 0 0], .int .u64 0, .int .i64 162]) (ret_ctt rfl rfl b9 Try.underlying25 rfl sizeRo rfl rfl) rfl ⟨HE w9, hB9⟩
    have dx : decide ((4294967295 : Int) ≤ (x.n : Int)) = false := by simp; omega
    obtain ⟨k, hk⟩ : ∃ k, Hid (x.n + 1 = k) := ⟨_, rfl⟩
    have HM := fun w' a c h => sent_yes (l := l) (B := w.heap.size) (w' := w') (by rw [HS.out, if_neg hx] : sndS d L = some i) h2 hn.out hk.out a c h
    have u1 : IntKind.u64.wrap ((x.n : Int) + 1) = (k : Int) := by have := hk.out; rw [IntKind.wrap_u64]; omega
    clear hx HS
    go_wp2_with fail
    refine (pc W1 (hS.below hB)).mono ?_
    rintro r W2 ⟨⟨a, c, rfl, hG⟩, hb⟩
    replace a1 := a1.below hb
    replace a2 := a2.below hb
    obtain ⟨g, rfl, hBg, hO⟩ : ∃ g, a = some ⟨g, 0, none⟩ ∧ W1.heap.size ≤ g ∧ Ow Se.vals 2 41 g c L _ := by
      rcases hG with ⟨_, _, rfl⟩ | h
      · simp at h2
      · exact h
    replace hB := below_next hB hb
    obtain ⟨C, hC, hCs⟩ := hO.blk
    rw [hn.out] at hCs ⊢
    have hof : i * 2 + 1 + 1 ≤ C.size := by omega
    have e2 : W2.cell? ⟨g, i * 2 + 1, none⟩ = some (.int .u64 (x.n : Int)) := by
      have := (hO.li (Nat.zero_le g)).rng Se.vals_length i x h2 1 _ rfl
      rw [Nat.zero_add] at this
      exact this
    clear pc hb hG hCs c1 e1
    go_upto_region 6 with (go_big_may; refine store_one rfl 22 _ _ rfl (off := i * 2 + 1) (.int .u64 (k : Int)) hC (by go_simp) (by go_simp) rfl rfl sizeU64 hof ?_; intro W3 b3 k3)
    try simp only [Act.put]
    have hO3 := hO.cell1 Se.vals_length (by decide) i x h2 ⟨x.i, k⟩ (r := 1) (v := .int .u64 (k : Int)) rfl (by decide) hC b3
    have hcc : (C.setIfInBounds (i * 2 + 1) (.int .u64 (k : Int)))[i * 2 + 1]? = some (.int .u64 (k : Int)) := by rw [Array.getElem?_setIfInBounds_self_of_lt (by omega)]
    replace a1 := a1.kp1 k3 (by omega)
    replace a2 := a2.kp1 k3 (by omega)
    have hlt3 := hO3.lt
    replace hB := below_at hB k3 (by omega)
    clear hO hC k3 e2 hof
    replace a2 := a2.drew
    refine wp_region_held_drew (S := fun v => Kp [(w.heap.size + 1)] W3 v) (by kernel_rfl) (Kp.drew _ _) (fun hHeld => ?_)
    refine tkQ 0 hHeld ?_
    try simp only [yy]
    refine tkH 1 (v := ?v11) rfl (by kernel_rfl) (fun _ _ _ h => h) (Or.inl ⟨by rfl, ?hy11⟩) hHeld ?rest11
    case hy11 => (intro w hSw; have hc := (a1.kp1 hSw (by omega)).cell 0 (.int .u64 (l : Int)) rfl; clear hSw; go_simp; try with_reducible rfl)
    try simp only [yy]
    refine tkQ 2 hHeld ?_
    try simp only [yy]
    refine tkH 3 (v := .agg #[.int .u64 (l : Int), .slice (some ⟨g, 0, none⟩) n c]) rfl (by kernel_rfl) (fun _ _ _ h => h) (yields_build (by rfl) 25 #[(0, .tmp 36), (1, .tmp 37)] rfl (by kernel_rfl)) hHeld ?rest13
    try simp only [yy]
    refine tkQ 4 hHeld ?_
    try simp only [yy]
    refine tkQ 5 hHeld ?_
    try simp only [yy]
    refine tkQ 6 hHeld ?_
    try simp only [yy]
    refine tkQ 7 hHeld ?_
    try simp only [yy]
    refine tkH 8 (v := ?v18) rfl (by kernel_rfl) (fun _ _ _ h => h) (Or.inl ⟨by rfl, ?hy18⟩) hHeld ?rest18
    case hy18 => (intro w hSw; have hc := (b3.kp1 hSw (by omega)).cell (i * 2 + 1) (.int .u64 (k : Int)) hcc; clear hSw; go_simp; try with_reducible rfl)
    try simp only [yy]
    refine rd1 9 (fun K hK => ?_)
    rw [if_pos (by rfl)]
    refine wp_store_all 25 _ _ rfl (cells := #[.int .u64 (l : Int), .slice (some ⟨g, 0, none⟩) n c]) a2 rfl rfl sizeRo rfl (ro_one _ _ _ _) ?_
    intro w9 b9 k9
    have hO9 := (hO3.below (Below.drew (Below.refl _ _))).kp k9 (by simp; omega)
    refine hK.out _ _ (hHeld.trans k9) (fun hHeld => ?_)
    clear hK K k9
    try simp only [yy]
    refine tkQ 10 hHeld ?_
    try simp only [yy]
    refine tkQ 11 hHeld ?_
    try simp only [yy]
    refine wpAnyH_done (by kernel_rfl) ?_ _
    go_wp2_with fail
    refine bodyPost_ret (w := w9) (v := .tuple #[.agg #[.int .u64 (l : Int), .slice (some ⟨g, 0, none⟩) n c], .int .u64 (k : Int), .int .i64 0]) (ret_ctt rfl rfl b9 Try.underlying25 rfl sizeRo rfl rfl) rfl ⟨HM w9 _ c (Lg.of hO9 (by omega)), below_at hB hHeld (by omega)⟩

/- What May asks of the next one, where the Id ahead of it is p. -/
def prvS (L : List Se) (j p : Nat) : Prop := (j = 0 ∧ p = 0) ∨ ∃ y, 0 < j ∧ L[j - 1]? = some y ∧ p = y.i
theorem okS_next {l j p : Nat} {L : List Se} {x : Se} (h : okSTo l L j = true) (hp : prvS L j p) : okS l L j x = decide (p < x.i ∧ x.i ≤ l ∧ x.n ≤ 4294967295) := by
  unfold okS ahdB
  rcases hp with ⟨rfl, rfl⟩ | ⟨y, hj, hy, rfl⟩
  · rw [Bool.eq_iff_iff]
    simp
    omega
  · have h1 := (okSTo_iff l L j).1 h (j - 1) (by omega) y hy
    have h2 : 1 ≤ y.i := by unfold okS at h1; simp at h1; omega
    rw [if_neg (by omega), hy, Bool.eq_iff_iff]
    simp
    omega

set_option maxHeartbeats 2000000 in
theorem may_ok (l : Nat) (L : List Se) (la : Option Addr) (lc : Nat) (lm : L.length ≤ 9223372036854775807) (w : World) (hS : Li Se.vals 0 la L w) :
    Calls Try.prog 17 #[.agg #[.int .u64 (l : Int), .slice la L.length lc]] w fun e w' => e = .returned (.bool (mayS l L)) ∧ Below w.heap.size w w' := by
  have hm : mayS l L = (decide (L.length ≤ 4 ∧ l ≤ 65535) && okSTo l L L.length) := rfl
  obtain ⟨t, ht⟩ : ∃ t, Hid (mayS l L = t) := ⟨_, rfl⟩
  obtain ⟨n, hn⟩ : ∃ n, Hid (L.length = n) := ⟨_, rfl⟩
  rw [hn.out, ht.out] at hm
  rw [hn.out] at lm ⊢
  rw [ht.out]
  replace ht : Hid (t = (decide (n ≤ 4 ∧ l ≤ 65535) && okSTo l L n)) := hm
  clear hm
  have b0 := blk_new w #[.int .u64 (l : Int), .slice la n lc] 25
  have hB : Below w.heap.size w (w.alloc (.cells #[.int .u64 (l : Int), .slice la n lc] 25)) := below_box w _
  go_enter Try.func17, Try.ntmps17
  go_upto_region 1 with fail
  try simp only [Act.put]
  generalize hW : w.alloc (Obj.cells #[.int .u64 (l : Int), .slice la n lc] 25) = W at b0 hB ⊢
  clear hW
  have c0 : W.cell? ⟨w.heap.size, 0, none⟩ = some (.int .u64 (l : Int)) := b0.cell 0 _ rfl
  have c1 : W.cell? ⟨w.heap.size, 1, none⟩ = some (.slice la n lc) := b0.cell 1 _ rfl
  by_cases h4 : 4 < n
  · have d4 : (4 : Int) < (n : Int) := by omega
    obtain rfl : t = false := by rw [ht.out, decide_eq_false (by omega)]; rfl
    clear h4
    go_wp2_with fail
    go_ret
    exact ⟨rfl, hB⟩
  have d4 : ¬ (4 : Int) < (n : Int) := by omega
  by_cases h5 : 65535 < l
  · have d5 : (65535 : Int) < (l : Int) := by omega
    obtain rfl : t = false := by rw [ht.out, decide_eq_false (by omega)]; rfl
    clear h5
    go_wp2_with fail
    go_ret
    exact ⟨rfl, hB⟩
  have d5 : ¬ (65535 : Int) < (l : Int) := by omega
  replace ht : Hid (t = okSTo l L n) := by show _ = _; rw [ht.out, decide_eq_true (by omega)]; rfl
  clear h4 h5
  replace hS := hS.below hB
  go_wp2_with fail
  clear d4 d5
  go_loopw [3, 18] (fun av iv wr => ∃ j p : Nat, j ≤ n ∧ iv = .int .i64 j ∧ av = .int .u64 (p : Int) ∧ Hid (okSTo l L j = true) ∧ Hid (prvS L j p) ∧ Blk w.heap.size #[.int .u64 (l : Int), .slice la n lc] 25 wr ∧ Li Se.vals 0 la L wr ∧ Below w.heap.size w wr) (fun _ iv _ => n - (intOf iv).toNat)
  case atStart => exact ⟨0, 0, by omega, rfl, rfl, okSTo_zero l L, .inl ⟨rfl, rfl⟩, b0, hS, hB⟩
  case round =>
    clear hS b0 hB c0 c1
    obtain ⟨j, p, hj, rfl, rfl, h0, HP, b0, hS, hB⟩ := hrel
    rename World => wr
    by_cases hjn : j < n
    · have j0 : (j : Int) < (n : Int) := by omega
      have j1 : (0 : Int) ≤ (j : Int) := by omega
      obtain ⟨x, hx⟩ : ∃ k, L[j]? = some k := ⟨_, List.getElem?_eq_getElem (by rw [hn.out]; exact hjn)⟩
      have HF : okS l L j x = false → Hid (okSTo l L n = false) := fun h => by show _ = _; rw [← hn.out]; exact okSTo_no l L j x hx h
      have HT : okS l L j x = true → Hid (okSTo l L (j + 1) = true) := fun h => by show _ = _; rw [okSTo_succ l L j x hx, h0.out, h]; rfl
      obtain ⟨b, o, rfl, _, hbl, hr⟩ := hS.at Se.vals_length j x hx
      have b1 := blk_new wr x.arr 41
      have hb := below_box wr (.cells x.arr 41)
      go_upto_region 7 with (go_big_may; first | refine load_range rfl 41 _ rfl x.vals hr rfl Try.underlying41 rfl sizeSe ?_ | refine alloc_zero zeroSe rfl rfl ?_ | refine store_new rfl 41 _ _ rfl (cells := x.arr) rfl rfl sizeSe rfl x.arr_one ?_)
      try simp only [Act.put]
      generalize wr.alloc (Obj.cells x.arr 41) = W1 at b1 hb ⊢
      replace b0 := b0.below hb
      replace hS := hS.below hb
      replace hB := hB.trans (hb.mono hB.size)
      have c0 : W1.cell? ⟨wr.heap.size, 0, none⟩ = some (.int .u64 (x.i : Int)) := b1.cell 0 _ rfl
      have c1 : W1.cell? ⟨wr.heap.size, 1, none⟩ = some (.int .u64 (x.n : Int)) := b1.cell 1 _ rfl
      have c2 : W1.cell? ⟨w.heap.size, 0, none⟩ = some (.int .u64 (l : Int)) := b0.cell 0 _ rfl
      clear hb hr hbl
      generalize wr.heap.size = z at b1 c0 c1 ⊢
      by_cases h1 : x.i ≤ p
      · have d1 : (x.i : Int) ≤ (p : Int) := by omega
        obtain rfl : t = false := by rw [ht.out]; exact (HF (by rw [okS_next h0.out HP.out, decide_eq_false]; omega)).out
        clear HF HT h0 HP hx b1
        go_wp2_with fail
        go_ret
        exact ⟨rfl, hB⟩
      have d1 : ¬ (x.i : Int) ≤ (p : Int) := by omega
      by_cases h2 : l < x.i
      · have d2 : (l : Int) < (x.i : Int) := by omega
        obtain rfl : t = false := by rw [ht.out]; exact (HF (by rw [okS_next h0.out HP.out, decide_eq_false]; omega)).out
        clear HF HT h0 HP hx b1
        go_wp2_with fail
        go_ret
        exact ⟨rfl, hB⟩
      have d2 : ¬ (l : Int) < (x.i : Int) := by omega
      by_cases h3 : 4294967295 < x.n
      · have d3 : (4294967295 : Int) < (x.n : Int) := by omega
        obtain rfl : t = false := by rw [ht.out]; exact (HF (by rw [okS_next h0.out HP.out, decide_eq_false]; omega)).out
        clear HF HT h0 HP hx b1
        go_wp2_with fail
        go_ret
        exact ⟨rfl, hB⟩
      have d3 : decide ((4294967295 : Int) < (x.n : Int)) = false := by simp; omega
      have HT' := HT (by rw [okS_next h0.out HP.out, decide_eq_true]; omega)
      have HP' : Hid (prvS L (j + 1) x.i) := .inr ⟨x, by omega, by simpa using hx, rfl⟩
      clear HF HT h0 HP hx b1 h1 h2 h3
      go_wp2_with fail
      exact ⟨⟨j + 1, x.i, by omega, by go_num, rfl, HT', HP', b0, hS, hB⟩, by simp [intOf]; omega⟩
    · obtain rfl : j = n := by omega
      obtain rfl : t = true := by rw [ht.out, h0.out]
      clear hS HP
      go_wp2_with fail
      go_ret
      exact ⟨rfl, hB⟩

end Go.Proofs.Ythhloomoiihfnaa
