/-
  What the program's Parse answers: read's call, or what its deferred function makes of a refusal.
  Conditions: the library's variables and the program's tables hold what the program's text lays; a request has at most 140737488355328 bytes.
-/
import Derived.Test.YtiepdfngjfhadaaDoorPaF
namespace Go.Proofs.YtiepdfngjfhadaaDoor
set_option maxRecDepth 10000
set_option linter.unusedSimpArgs false
open Go.RowKit Go.Sort
set_option linter.unusedVariables false
set_option linter.unusedSimpArgs false

theorem sizeErr : (Tryd.prog.info? 25).map (·.size) = some 1 := by kernel_rfl
theorem size_ref : (Tryd.prog.info? 39).map (·.size) = some 1 := by kernel_rfl
theorem zero_ref : (Tryd.prog.info? 39).map (fun i => (i.zero, i.size)) = some (some (.agg #[.int .i64 0]), 1) := by kernel_rfl
theorem assert_ref (w : World) : (Instr.typeAssert (.iface 39 (.agg #[.int .i64 210])) 20 39 true).run Tryd.prog w = .ok (.tuple #[.agg #[.int .i64 210], .bool true]) w := by kernel_rfl

theorem catch_idle (p q : Addr) (w : World) :
    CallsD Tryd.prog 17 #[.pointer (some p), .pointer (some q)] .returning w fun e u' w' => e = .returned (.tuple #[]) ∧ u' = .returning ∧ w' = w := by
  refine callsD_of_wpS Tryd.func17 rfl fun c₀ cs hu => ?_
  apply wpS_seq
  apply wpS_region
  simp [wpOpsS, go_sem, recoverD, hu, Tryd.ntmps17, Exit.thenS]
  rw [show #[Value.pointer (some p), Value.pointer (some q)] ++ ((Array.replicate 17 undef).setIfInBounds 3 Value.nilIface).setIfInBounds 0 Value.nilIface = #[Value.pointer (some p), Value.pointer (some q), .nilIface, undef, undef, .nilIface, undef, undef, undef, undef, undef, undef, undef, undef, undef, undef, undef, undef, undef] by kernel_rfl]
  refine wpS_of_wp ?_
  go_wp2_with fail
  exact ⟨rfl, _, by rw [← hu], _, results_none rfl _ _ _, rfl, rfl, rfl⟩

set_option maxHeartbeats 2000000 in
theorem catch_ref (B p q : Nat) (C : Array Value) (x : Value) (hC : C.size = 7) (hpq : p ≠ q) (w : World) (hBp : B ≤ p) (hBq : B ≤ q) (hp : Blk p C 24 w) (hq : Blk q #[x] 25 w) :
    CallsD Tryd.prog 17 #[.pointer (some ⟨p, 0, none⟩), .pointer (some ⟨q, 0, none⟩)] (.panicking [refP]) w fun e u' w' => e = .returned (.tuple #[]) ∧ u' = .panicking [{ v := refV, recovered := true }] ∧ Blk p Ca.zero.arr 24 w' ∧ Blk q #[.int .i64 210] 25 w' ∧ Below B w w' := by
  have hpl := hp.lt
  have hql := hq.lt
  have hBw : B ≤ w.heap.size := by omega
  have br := blk_new w #[.int .i64 210] 39
  have hb := below_box w (.cells #[.int .i64 210] 39)
  replace hp := hp.below hb
  replace hq := hq.below hb
  have hB : Below B w (w.alloc (.cells #[.int .i64 210] 39)) := hb.mono (by omega)
  have hta := assert_ref
  clear hb
  refine callsD_of_wpS Tryd.func17 rfl fun c₀ cs hu => ?_
  apply wpS_seq
  apply wpS_region
  simp [wpOpsS, go_sem, recoverD, hu, Tryd.ntmps17, Exit.thenS]
  rw [show #[Value.pointer (some ⟨p, 0, Option.none⟩), Value.pointer (some ⟨q, 0, Option.none⟩)] ++ ((Array.replicate 17 undef).setIfInBounds 3 refV).setIfInBounds 0 refV = #[Value.pointer (some ⟨p, 0, Option.none⟩), Value.pointer (some ⟨q, 0, Option.none⟩), .iface 39 (.agg #[.int .i64 210]), undef, undef, .iface 39 (.agg #[.int .i64 210]), undef, undef, undef, undef, undef, undef, undef, undef, undef, undef, undef, undef, undef] by kernel_rfl]
  refine wpS_of_wp ?_
  go_upto_region 5 with (go_big_may; first | refine alloc_zero zero_ref rfl rfl ?_ | refine store_new rfl 39 _ _ rfl (cells := #[.int .i64 210]) rfl rfl size_ref rfl (by rfl) ?_)
  try simp only [Act.put, List.setIfInBounds_toArray, List.set_cons_zero, List.set_cons_succ]
  generalize w.alloc (Obj.cells #[Value.int IntKind.i64 210] 39) = W at br hp hq hB ⊢
  generalize w.heap.size = r at br hpl hql ⊢
  have hrp : r ≠ p := by omega
  have hrq : r ≠ q := by omega
  have hqp : q ≠ p := Ne.symm hpq
  clear hta
  replace hp := hp.drew
  replace hq := hq.drew
  replace hB := hB.drew
  refine wp_region_held_drew (S := fun v => Blk r #[.int .i64 210] 39 v) (by kernel_rfl) (br.drew) (fun hHeld => ?_)
  refine tkQ 0 hHeld ?_
  try simp only [yy]
  refine tkQ 1 hHeld ?_
  try simp only [yy]
  refine tkH 2 (v := ?v3) rfl (by kernel_rfl) (fun _ _ _ h => h) (Or.inl ⟨by rfl, ?hy3⟩) hHeld ?rest3
  case hy3 => (intro w hSw; have hc : World.cell? _ ⟨r, 0, none⟩ = some (.int .i64 210) := hSw.cell 0 _ rfl; clear hSw; go_simp; try with_reducible rfl)
  try simp only [yy]
  refine rd1 3 (fun K hK => ?_)
  rw [if_pos (by rfl)]
  refine wp_store_part 24 _ _ rfl (off := 0) (cells := Ca.zero.arr) hp rfl rfl sizeCa (by rw [hC]; decide) (Ca.arr_one _) ?_
  intro u1 hn9 hk9
  replace hp := hn9
  replace hq := hq.kp1 hk9 hqp
  replace hB := hB.trans (hk9.below1 hBp (Nat.le_trans hBw hB.size))
  refine hK.out _ _ (Blk.kp1 hHeld hk9 hrp) (fun hHeld => ?_)
  clear hK K hk9 hn9
  try simp only [yy]
  refine rd1 4 (fun K hK => ?_)
  rw [if_pos (by rfl)]
  refine wp_store_one 25 _ _ rfl (off := 0) (.int .i64 210) hq rfl rfl rfl rfl sizeErr (show 0 + 1 ≤ 1 by decide) ?_
  intro u2 hn9 hk9
  replace hq := hn9
  replace hp := hp.kp1 hk9 hpq
  replace hB := hB.trans (hk9.below1 hBq (Nat.le_trans hBw hB.size))
  refine hK.out _ _ (Blk.kp1 hHeld hk9 hrq) (fun hHeld => ?_)
  clear hK K hk9 hn9
  try simp only [yy]
  refine wpAnyH_done (by kernel_rfl) ?_ _
  rw [putAt_all C Ca.zero.arr (hC.trans rfl)] at hp
  go_wp2_with fail
  exact ⟨rfl, _, rfl, _, results_none rfl _ _ _, rfl, rfl, hp, hq, hB⟩

theorem ret_cc {w : World} {z : Nat} (c : Ca) (x : Int) (b2 : Blk z c.arr 24 w) (b3 : Blk (z + 1) #[.int .i64 x] 25 w) (tmps : Array Value) (t2 : tmps.getD 2 undef = .pointer (some ⟨z, 0, none⟩)) (t3 : tmps.getD 3 undef = .pointer (some ⟨z + 1, 0, none⟩)) :
    (results Tryd.f8 tmps).run Tryd.prog w = .ok (.tuple #[.agg c.arr, .int .i64 x]) w := by
  have c0 : w.cell? ⟨z, 0, none⟩ = some (.int .i64 c.d) := b2.cell 0 _ rfl
  have c1 : w.cell? ⟨z, 1, none⟩ = some (.int .u64 c.h) := b2.cell 1 _ rfl
  have c2 : w.cell? ⟨z, 2, none⟩ = some (.int .u64 c.o) := b2.cell 2 _ rfl
  have c3 : w.cell? ⟨z, 3, none⟩ = some (.int .i64 c.g) := b2.cell 3 _ rfl
  have c4 : w.cell? ⟨z, 4, none⟩ = some (.int .i64 c.gr) := b2.cell 4 _ rfl
  have c5 : w.cell? ⟨z, 5, none⟩ = some (.int .i64 c.sv) := b2.cell 5 _ rfl
  have c6 : w.cell? ⟨z, 6, none⟩ = some (.string c.t) := b2.cell 6 _ rfl
  have h2 : w.cell? ⟨z + 1, 0, none⟩ = some (.int .i64 x) := b3.cell 0 _ rfl
  rw [Array.getD_eq_getD_getElem?] at t2 t3
  simp only [results, Tryd.results8]
  simp [go_sem, t2, t3, c0, c1, c2, c3, c4, c5, c6, h2, asAddr, Ca.arr, Ca.vals]

theorem read_ok (s : ByteArray) (hs : s.size ≤ 140737488355328) (w : World) (hE : Te w) : Calls Tryd.prog 18 #[.string s] w (ReadQ s w) := by
  by_cases h : ∃ d, d ≤ 6 ∧ kindW d = (cutL (bL s)).1
  · obtain ⟨d, hd, hk⟩ := h
    have : d = 0 ∨ d = 1 ∨ d = 2 ∨ d = 3 ∨ d = 4 ∨ d = 5 ∨ d = 6 := by omega
    rcases this with rfl | rfl | rfl | rfl | rfl | rfl | rfl
    · exact read0 s hs w hE hk
    · exact read1 s hs w hE hk
    · exact read2 s hs w hE hk
    · exact read3 s hs w hE hk
    · exact read4 s hs w hE hk
    · exact read5 s hs w hE hk
    · exact read6 s hs w hE hk
  · exact readn s hs w hE (fun d hd e => h ⟨d, hd, e⟩)

set_option maxHeartbeats 4000000 in
theorem parse_ok (s : ByteArray) (hs : s.size ≤ 140737488355328) (w : World) (hE : Te w) :
    Calls Tryd.prog 8 #[.string s] w fun e w' => (∃ o : Option Ca, IsCall (bL s) o ∧ e = .returned (.tuple #[.agg (o.getD Ca.zero).arr, .int .i64 (if o.isSome = true then 0 else 210)])) ∧ Below w.heap.size w w' := by
  have hmf : ∀ (fn : Fn) (first cap : Array Value) (w : World), (Instr.makeFunc fn first cap).run Tryd.prog w = .ok (.func fn first cap) w := fun _ _ _ _ => rfl
  have bC := blk_new w Ca.zero.arr 24
  have hB := below_box w (.cells Ca.zero.arr 24)
  have bE := blk_new (w.alloc (.cells Ca.zero.arr 24)) #[.int .i64 0] 25
  replace bC := bC.alloc (.cells #[.int .i64 0] 25)
  replace hB := hB.alloc hB.size (.cells #[.int .i64 0] 25)
  rw [alloc_size] at bE
  replace hE := hE.next hB
  go_enter_defers Tryd.func8, Tryd.ntmps8
  go_upto_region 2 with (go_big_may; refine alloc_zero zeroCa rfl rfl ?_)
  try simp only [Act.put, List.setIfInBounds_toArray, List.set_cons_zero, List.set_cons_succ, alloc_size]
  generalize (w.alloc (Obj.cells Ca.zero.arr 24)).alloc (Obj.cells #[Value.int IntKind.i64 0] 25) = W at bC bE hB hE ⊢
  obtain ⟨z, hz⟩ : ∃ z, Hid (w.heap.size = z) := ⟨_, rfl⟩
  have hzB : w.heap.size ≤ z := by rw [hz.out]; exact Nat.le_refl _
  rw [hz.out] at bC bE ⊢
  go_wp2_with fail
  refine (read_ok s hs W hE).mono ?_
  rintro e w1 ⟨⟨c, rfl, hc⟩ | ⟨rfl, hn⟩, hb⟩
  · replace bC := bC.below hb
    replace bE := bE.below hb
    replace hB := hB.trans (hb.mono hB.size)
    clear hb
    go_wp2_with (first | (refine store_part rfl 24 _ _ rfl (off := 0) (cells := c.arr) bC rfl rfl sizeCa (show 0 + 7 ≤ 7 by decide) (Ca.arr_one _) ?_; intro w2 b2 k2; have e2 := bE.kp1 k2 (by omega)) | (refine store_one rfl 25 _ _ rfl (off := 0) (.int .i64 0) e2 rfl rfl rfl rfl sizeErr (show 0 + 1 ≤ 1 by decide) ?_; intro w3 b3 k3))
    rw [putAt_all Ca.zero.arr c.arr rfl] at b2
    replace b2 := b2.kp1 k3 (by omega)
    replace b3 : Blk (z + 1) #[.int .i64 0] 25 w3 := b3
    have hB3 := (hB.trans (k2.below1 hzB hB.size)).trans (k3.below1 (Nat.le_succ_of_le hzB) (Nat.le_trans hB.size k2.size))
    refine leaves_cons (f := 17) (args := #[.pointer (some ⟨z, 0, none⟩), .pointer (some ⟨z + 1, 0, none⟩)]) (by simp) (by simp [go_sem]) ?_
    refine (catch_idle ⟨z, 0, none⟩ ⟨z + 1, 0, none⟩ _).mono ?_
    rintro e u' w'' ⟨rfl, rfl, rfl⟩
    exact ⟨_, ret_cc c 0 b2 b3 _ rfl rfl, ⟨some c, hc, rfl⟩, hB3⟩
  · replace bC := bC.below hb
    replace bE := bE.below hb
    replace hB := hB.trans (hb.mono hB.size)
    clear hb
    refine leaves_cons (f := 17) (args := #[.pointer (some ⟨z, 0, none⟩), .pointer (some ⟨z + 1, 0, none⟩)]) (by simp) (by simp [go_sem]) ?_
    refine (catch_ref w.heap.size z (z + 1) Ca.zero.arr (.int .i64 0) rfl (by omega) _ hzB (Nat.le_succ_of_le hzB) bC bE).mono ?_
    rintro e u' w'' ⟨rfl, rfl, b2, b3, hb⟩
    exact ⟨_, ret_cc Ca.zero 210 b2 b3 _ rfl rfl, ⟨none, hn, rfl⟩, hB.trans hb⟩

end Go.Proofs.YtiepdfngjfhadaaDoor
