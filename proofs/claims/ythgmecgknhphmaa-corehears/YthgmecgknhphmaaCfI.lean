/-
  Whether two cores, and what they tell, are the same, as the document's own calls say (congressref13.Is, Told).
  Of cores that are the same but for where their lists lie.
-/
import Derived.Test.YthgmecgknhphmaaCeZ
import Derived.Test.YthgmecgknhphmaaKtE
namespace Go.Proofs.Ythgmecgknhphmaa
set_option maxRecDepth 10000
set_option linter.unusedSimpArgs false
open Go.RowKit Go.Sort
set_option linter.unusedVariables false

theorem sameKt9 (x : Kt) (w : World) : (Op.equalIn 9999 64 (.agg x.arr) (.agg x.arr)).run Try.prog w = .ok true w := by
  have hu : Try.prog.underlying 64 = some (.struct (Try.prog.fieldsOf 64)) := by kernel_rfl
  rw [show (9999 : Nat) = 9998 + 1 from rfl, run_equalIn_struct w 9998 64 x.arr x.arr hu (by kernel_rfl)]
  apply fields_same
  have hf : (Try.prog.fieldsOf 64).toList.map (fun f => (f.name, f.type, f.offset)) = [("From", 3, 0), ("Round", 22, 1), ("Frame", 41, 2)] := by kernel_rfl
  intro f hmem
  have hm : (f.name, f.type, f.offset) ∈ (Try.prog.fieldsOf 64).toList.map (fun f => (f.name, f.type, f.offset)) := List.mem_map_of_mem (f := fun f : Field => (f.name, f.type, f.offset)) hmem
  rw [hf] at hm
  generalize f.name = fn at hm ⊢
  generalize f.type = ft at hm ⊢
  generalize f.offset = fo at hm ⊢
  simp only [List.mem_cons, List.not_mem_nil, or_false, Prod.mk.injEq] at hm
  rcases hm with ⟨rfl, rfl, rfl⟩ | ⟨rfl, rfl, rfl⟩ | ⟨rfl, rfl, rfl⟩
  · exact ⟨by decide, .int .i64 x.fr, by kernel_rfl, by simp [go_sem]⟩
  · exact ⟨by decide, .int .u32 (x.rd : Int), by kernel_rfl, by simp [go_sem]⟩
  · exact ⟨by decide, .agg (frc x.f), by kernel_rfl, sameFr x.f 9994 w⟩
theorem sameHp (x : Hp) (w : World) : (Op.equalIn 10000 66 (.agg x.arr) (.agg x.arr)).run Try.prog w = .ok true w := by
  have hu : Try.prog.underlying 66 = some (.struct (Try.prog.fieldsOf 66)) := by kernel_rfl
  rw [show (10000 : Nat) = 9999 + 1 from rfl, run_equalIn_struct w 9999 66 x.arr x.arr hu (by kernel_rfl)]
  apply fields_same
  have hf : (Try.prog.fieldsOf 66).toList.map (fun f => (f.name, f.type, f.offset)) = [("View", 4, 0), ("Kept", 64, 1), ("Conf", 27, 39), ("Members", 28, 42)] := by kernel_rfl
  intro f hmem
  have hm : (f.name, f.type, f.offset) ∈ (Try.prog.fieldsOf 66).toList.map (fun f => (f.name, f.type, f.offset)) := List.mem_map_of_mem (f := fun f : Field => (f.name, f.type, f.offset)) hmem
  rw [hf] at hm
  generalize f.name = fn at hm ⊢
  generalize f.type = ft at hm ⊢
  generalize f.offset = fo at hm ⊢
  simp only [List.mem_cons, List.not_mem_nil, or_false, Prod.mk.injEq] at hm
  rcases hm with ⟨rfl, rfl, rfl⟩ | ⟨rfl, rfl, rfl⟩ | ⟨rfl, rfl, rfl⟩ | ⟨rfl, rfl, rfl⟩
  · exact ⟨by decide, .bool x.view, by kernel_rfl, by simp [go_sem]⟩
  · exact ⟨by decide, .agg x.k.arr, by kernel_rfl, sameKt9 x.k w⟩
  · exact ⟨by decide, .agg x.conf.arr, by kernel_rfl, equalIdnIn 9997 x.conf w⟩
  · exact ⟨by decide, .agg (mbc x.mem), by kernel_rfl, by rw [show (9999 : Nat) = 9997 + 1 + 1 from rfl, equalRow Try.underlying28 9997, mbSame_self]⟩
theorem neqHp (x : Hp) (w : World) : (binOp .neq 66 (.agg x.arr) (.agg x.arr)).run Try.prog w = .ok (.bool false) w := by
  rw [run_neq_struct, sameHp]; rfl
theorem samePe9 (b : Pe) (w : World) : (Op.equalIn 9999 32 (.agg b.arr) (.agg b.arr)).run Try.prog w = .ok true w := by
  have hu : Try.prog.underlying 32 = some (.struct (Try.prog.fieldsOf 32)) := by kernel_rfl
  rw [show (9999 : Nat) = 9998 + 1 from rfl, run_equalIn_struct w 9998 32 b.arr b.arr hu (by kernel_rfl)]
  apply fields_same
  have hf : (Try.prog.fieldsOf 32).toList.map (fun f => (f.name, f.type, f.offset)) = [("Inc", 22, 0), ("Conf", 27, 1), ("Promise", 27, 4), ("Cut", 29, 7), ("Ready", 4, 15)] := by kernel_rfl
  intro f hmem
  have hm : (f.name, f.type, f.offset) ∈ (Try.prog.fieldsOf 32).toList.map (fun f => (f.name, f.type, f.offset)) := List.mem_map_of_mem (f := fun f : Field => (f.name, f.type, f.offset)) hmem
  rw [hf] at hm
  generalize f.name = fn at hm ⊢
  generalize f.type = ft at hm ⊢
  generalize f.offset = fo at hm ⊢
  simp only [List.mem_cons, List.not_mem_nil, or_false, Prod.mk.injEq] at hm
  rcases hm with ⟨rfl, rfl, rfl⟩ | ⟨rfl, rfl, rfl⟩ | ⟨rfl, rfl, rfl⟩ | ⟨rfl, rfl, rfl⟩ | ⟨rfl, rfl, rfl⟩
  · exact ⟨by decide, .int .u32 (b.inc : Int), by kernel_rfl, by simp [go_sem]⟩
  · exact ⟨by decide, .agg b.conf.arr, by kernel_rfl, equalIdnIn 9996 b.conf w⟩
  · exact ⟨by decide, .agg b.pr.arr, by kernel_rfl, equalIdnIn 9996 b.pr w⟩
  · exact ⟨by decide, .agg (mbc b.cut), by kernel_rfl, by rw [show (9998 : Nat) = 9996 + 1 + 1 from rfl, equalRow Try.underlying29 9996, mbSame_self]⟩
  · exact ⟨by decide, .bool b.rdy, by kernel_rfl, by simp [go_sem]⟩
theorem samePs (f : Nat → Pe) (w : World) : (Op.equalIn 10000 33 (.agg (prs f).toArray) (.agg (prs f).toArray)).run Try.prog w = .ok true w := by
  obtain ⟨i, hi⟩ : ∃ i, Try.prog.info? 32 = some i := Option.isSome_iff_exists.1 (by kernel_rfl)
  have hc : Try.prog.cellsOf 32 = 16 := by kernel_rfl
  rw [show (10000 : Nat) = 9999 + 1 from rfl, run_equalIn_array w 9999 (prs f).toArray (prs f).toArray Try.underlying33 hi, hc]
  apply items_same
  intro j hj
  have h2 := List.mem_range.1 hj
  obtain rfl | rfl | rfl | rfl | rfl | rfl | rfl | rfl : j = 0 ∨ j = 1 ∨ j = 2 ∨ j = 3 ∨ j = 4 ∨ j = 5 ∨ j = 6 ∨ j = 7 := by omega
  · exact ⟨.agg (f 0).arr, by kernel_rfl, samePe9 _ w⟩
  · exact ⟨.agg (f 1).arr, by kernel_rfl, samePe9 _ w⟩
  · exact ⟨.agg (f 2).arr, by kernel_rfl, samePe9 _ w⟩
  · exact ⟨.agg (f 3).arr, by kernel_rfl, samePe9 _ w⟩
  · exact ⟨.agg (f 4).arr, by kernel_rfl, samePe9 _ w⟩
  · exact ⟨.agg (f 5).arr, by kernel_rfl, samePe9 _ w⟩
  · exact ⟨.agg (f 6).arr, by kernel_rfl, samePe9 _ w⟩
  · exact ⟨.agg (f 7).arr, by kernel_rfl, samePe9 _ w⟩
theorem eqlPs (f : Nat → Pe) (w : World) : (binOp .eql 33 (.agg (prs f).toArray) (.agg (prs f).toArray)).run Try.prog w = .ok (.bool true) w := by
  rw [run_eql_struct, samePs]; rfl

theorem sizePs : (Try.prog.info? 33).map (·.size) = some 128 := by kernel_rfl

set_option maxHeartbeats 8000000 in
theorem ris_ok (c : Co) (L : List Kt) (a b : Option Addr) (k j : Nat) (lm : L.length ≤ 9223372036854775807) (w : World) (hA : Li Kt.vals 0 a L w) (hC : Li Kt.vals 0 b L w) :
    Calls Try.prog 13 #[.agg (coc (c.kp a L.length k)), .agg (coc (c.kp b L.length j))] w fun e w' => e = .returned (.bool true) ∧ Below w.heap.size w w' := by
  obtain ⟨a0, a1, hB⟩ := two_blk (T0 := 35) (T1 := 35) (C0 := coc (c.kp a L.length k)) (C1 := coc (c.kp b L.length j)) (w := w) rfl
  have k1 : ∀ w, (binOp .eql 25 (.agg c.beat.vals.toArray) (.agg c.beat.vals.toArray)).run Try.prog w = .ok (.bool true) w := eqlBt c.beat
  have k2 : ∀ w, (binOp .eql 27 (.agg c.conf.vals.toArray) (.agg c.conf.vals.toArray)).run Try.prog w = .ok (.bool true) w := eqlIdn _ _ true (Idn.same_self _)
  have k3 : ∀ w, (binOp .eql 28 (.agg (row8 c.mem).toArray) (.agg (row8 c.mem).toArray)).run Try.prog w = .ok (.bool true) w := eqlMb _ _ true (mbSame_self _)
  have k4 : ∀ w, (binOp .eql 29 (.agg (row8 c.count).toArray) (.agg (row8 c.count).toArray)).run Try.prog w = .ok (.bool true) w := eqlCt _ _ true (mbSame_self _)
  have k5 : ∀ w, (binOp .eql 27 (.agg c.pr.vals.toArray) (.agg c.pr.vals.toArray)).run Try.prog w = .ok (.bool true) w := eqlIdn _ _ true (Idn.same_self _)
  have k6 : ∀ w, (binOp .eql 28 (.agg (row8 c.want).toArray) (.agg (row8 c.want).toArray)).run Try.prog w = .ok (.bool true) w := eqlMb _ _ true (mbSame_self _)
  have k7 : ∀ w, (binOp .eql 29 (.agg (row8 c.cut).toArray) (.agg (row8 c.cut).toArray)).run Try.prog w = .ok (.bool true) w := eqlCt _ _ true (mbSame_self _)
  have k8 := eqlPs c.peers
  go_enter Try.func13, Try.ntmps13
  go_upto_region 1 with fail
  generalize (w.alloc (Obj.cells (coc (c.kp a L.length k)) 35)).alloc (Obj.cells (coc (c.kp b L.length j)) 35) = W at a0 a1 hB ⊢
  have c1 := a0.cell 0 (.int .i64 c.self) rfl
  have c2 := a1.cell 0 (.int .i64 c.self) rfl
  have c3 := a0.cell 1 (.int .i64 c.wait) rfl
  have c4 := a1.cell 1 (.int .i64 c.wait) rfl
  have c5 := a0.cell 2 (.int .u32 (c.own : Int)) rfl
  have c6 := a1.cell 2 (.int .u32 (c.own : Int)) rfl
  have c7 := a0.cell 39 (.slice a L.length k) rfl
  have c8 := a1.cell 39 (.slice b L.length j) rfl
  go_wp2_with (first | refine load_wpart rfl 25 _ rfl (o := 3) a0 rfl c.beat.vals ((c.kp a L.length k).p_beat) Try.underlying25 rfl sizeBt ?_ | refine load_wpart rfl 25 _ rfl (o := 3) a1 rfl c.beat.vals ((c.kp b L.length j).p_beat) Try.underlying25 rfl sizeBt ?_ | refine load_wpart rfl 27 _ rfl (o := 20) a0 rfl c.conf.vals ((c.kp a L.length k).p_conf) Try.underlying27 rfl sizeIdn ?_ | refine load_wpart rfl 27 _ rfl (o := 20) a1 rfl c.conf.vals ((c.kp b L.length j).p_conf) Try.underlying27 rfl sizeIdn ?_ | refine load_wpart rfl 28 _ rfl (o := 23) a0 rfl (row8 c.mem) ((c.kp a L.length k).p_mem) Try.underlying28 rfl sizeMb ?_ | refine load_wpart rfl 28 _ rfl (o := 23) a1 rfl (row8 c.mem) ((c.kp b L.length j).p_mem) Try.underlying28 rfl sizeMb ?_ | refine load_wpart rfl 29 _ rfl (o := 31) a0 rfl (row8 c.count) ((c.kp a L.length k).p_count) Try.underlying29 rfl sizeCt ?_ | refine load_wpart rfl 29 _ rfl (o := 31) a1 rfl (row8 c.count) ((c.kp b L.length j).p_count) Try.underlying29 rfl sizeCt ?_)
  refine (rkts_ok L a b k j lm _ (hA.below hB) (hC.below hB)).mono ?_
  rintro r w1 ⟨rfl, hb⟩
  replace a0 := a0.below hb
  replace a1 := a1.below hb
  replace hB := hB.trans (hb.mono hB.size)
  clear hb c1 c2 c3 c4 c5 c6 c7 c8 k1 k2 k3 k4
  have c1 := a0.cell 59 (.bool c.rdy) rfl
  have c2 := a1.cell 59 (.bool c.rdy) rfl
  have c3 := a0.cell 188 (.int .u32 (c.epoch : Int)) rfl
  have c4 := a1.cell 188 (.int .u32 (c.epoch : Int)) rfl
  obtain ⟨rd, hrd⟩ : ∃ r, c.rdy = r := ⟨_, rfl⟩
  rw [hrd] at c1 c2
  have hR : (rd == rd) = true := by simp
  clear hrd
  go_wp2_with (first | refine load_wpart rfl 27 _ rfl (o := 40) a0 rfl c.pr.vals ((c.kp a L.length k).p_pr) Try.underlying27 rfl sizeIdn ?_ | refine load_wpart rfl 27 _ rfl (o := 40) a1 rfl c.pr.vals ((c.kp b L.length j).p_pr) Try.underlying27 rfl sizeIdn ?_ | refine load_wpart rfl 28 _ rfl (o := 43) a0 rfl (row8 c.want) ((c.kp a L.length k).p_want) Try.underlying28 rfl sizeMb ?_ | refine load_wpart rfl 28 _ rfl (o := 43) a1 rfl (row8 c.want) ((c.kp b L.length j).p_want) Try.underlying28 rfl sizeMb ?_ | refine load_wpart rfl 29 _ rfl (o := 51) a0 rfl (row8 c.cut) ((c.kp a L.length k).p_cut) Try.underlying29 rfl sizeCt ?_ | refine load_wpart rfl 29 _ rfl (o := 51) a1 rfl (row8 c.cut) ((c.kp b L.length j).p_cut) Try.underlying29 rfl sizeCt ?_ | refine load_wpart rfl 33 _ rfl (o := 60) a0 rfl (prs c.peers) ((c.kp a L.length k).p_peers) Try.underlying33 rfl sizePs ?_ | refine load_wpart rfl 33 _ rfl (o := 60) a1 rfl (prs c.peers) ((c.kp b L.length j).p_peers) Try.underlying33 rfl sizePs ?_)
  go_ret
  exact ⟨rfl, hB⟩

set_option maxHeartbeats 4000000 in
theorem rtold_ok (L : List Hp) (la lb : Option Addr) (lc ld : Nat) (lm : L.length ≤ 9223372036854775807) (w : World) (hA0 : Li Hp.vals 0 la L w) (hC0 : Li Hp.vals 0 lb L w) : Calls Try.prog 14 #[.slice la L.length lc, .slice lb L.length ld] w fun e w' => e = .returned (.bool true) ∧ Below w.heap.size w w' := by
  obtain ⟨n, hn⟩ : ∃ n, L.length = n := ⟨_, rfl⟩
  rw [hn] at lm ⊢
  have HN : Hid (L.length = n) := hn
  clear hn
  have gn : ((n : Int) != (n : Int)) = false := by simp
  go_enter Try.func14, Try.ntmps14
  go_upto_region 4 with fail
  go_loopw [5] (fun iv wr => ∃ i : Nat, i ≤ n ∧ iv = .int .i64 i ∧ Below w.heap.size w wr) (fun iv _ => n - (intOf iv).toNat)
  case atStart => exact ⟨0, by omega, rfl, Below.refl _ _⟩
  case round =>
    obtain ⟨i, hi, rfl, hB⟩ := hrel
    by_cases hin : i < n
    · have j0 : (i : Int) < (n : Int) := by omega
      have j1 : (0 : Int) ≤ (i : Int) := by omega
      obtain ⟨x, hk⟩ : ∃ k, L[i]? = some k := ⟨_, List.getElem?_eq_getElem (by rw [HN.out]; exact hin)⟩
      have hA := hA0.below hB
      have hC := hC0.below hB
      obtain ⟨b, o, rfl, _, _, hr⟩ := hA.at Hp.vals_length i x hk
      obtain ⟨b', o', rfl, _, _, hr'⟩ := hC.at Hp.vals_length i x hk
      have kn : ∀ w, (binOp .neq 66 (.agg x.vals.toArray) (.agg x.vals.toArray)).run Try.prog w = .ok (.bool false) w := neqHp x
      go_upto_region 6 with fail
      refine wp_region_held_drew (S := fun w' => Below wr.heap.size wr w') (by kernel_rfl) (Below.refl _ _).drew (fun hHeld => ?_)
      refine tkH 0 (v := ?v1) rfl (by kernel_rfl) (fun _ _ _ h => h) (Or.inl ⟨by rfl, ?hy1⟩) hHeld ?rest1
      case hy1 => (intro w hSw; clear hSw; go_simp; try with_reducible rfl)
      try simp only [List.getElem_toArray, List.getElem_cons_succ, List.getElem_cons_zero, Act.put, List.setIfInBounds_toArray, List.set_cons_succ, List.set_cons_zero]
      refine tkH 1 (v := ?v2) rfl (by kernel_rfl) (fun _ _ _ h => h) (Or.inl ⟨by rfl, ?hy2⟩) hHeld ?rest2
      case hy2 => (intro w hSw; clear hSw; go_simp; try with_reducible rfl)
      try simp only [List.getElem_toArray, List.getElem_cons_succ, List.getElem_cons_zero, Act.put, List.setIfInBounds_toArray, List.set_cons_succ, List.set_cons_zero]
      refine tkH 2 (v := ?v3) rfl (by kernel_rfl) (fun _ _ _ h => h) (Or.inl ⟨by rfl, ?hy3⟩) hHeld ?rest3
      case hy3 => (intro w hSw; clear hSw; go_simp; try with_reducible rfl)
      try simp only [List.getElem_toArray, List.getElem_cons_succ, List.getElem_cons_zero, Act.put, List.setIfInBounds_toArray, List.set_cons_succ, List.set_cons_zero]
      refine' tkH 3 (v := _) rfl (by kernel_rfl) (fun _ _ _ h => h) (yieldsIf_load_mid (by rfl) _ _ rfl b (o + i * 50) rfl x.vals _ ?hS4 Try.underlying66 rfl sizeHp) hHeld ?rest4
      case hS4 => exact fun w h => (hA.below h).rng Hp.vals_length i x hk
      try simp only [List.getElem_toArray, List.getElem_cons_succ, List.getElem_cons_zero, Act.put, List.setIfInBounds_toArray, List.set_cons_succ, List.set_cons_zero]
      refine tkH 4 (v := ?v5) rfl (by kernel_rfl) (fun _ _ _ h => h) (Or.inl ⟨by rfl, ?hy5⟩) hHeld ?rest5
      case hy5 => (intro w hSw; clear hSw; go_simp; try with_reducible rfl)
      try simp only [List.getElem_toArray, List.getElem_cons_succ, List.getElem_cons_zero, Act.put, List.setIfInBounds_toArray, List.set_cons_succ, List.set_cons_zero]
      refine tkH 5 (v := ?v6) rfl (by kernel_rfl) (fun _ _ _ h => h) (Or.inl ⟨by rfl, ?hy6⟩) hHeld ?rest6
      case hy6 => (intro w hSw; clear hSw; go_simp; try with_reducible rfl)
      try simp only [List.getElem_toArray, List.getElem_cons_succ, List.getElem_cons_zero, Act.put, List.setIfInBounds_toArray, List.set_cons_succ, List.set_cons_zero]
      refine tkH 6 (v := ?v7) rfl (by kernel_rfl) (fun _ _ _ h => h) (Or.inl ⟨by rfl, ?hy7⟩) hHeld ?rest7
      case hy7 => (intro w hSw; clear hSw; go_simp; try with_reducible rfl)
      try simp only [List.getElem_toArray, List.getElem_cons_succ, List.getElem_cons_zero, Act.put, List.setIfInBounds_toArray, List.set_cons_succ, List.set_cons_zero]
      refine' tkH 7 (v := _) rfl (by kernel_rfl) (fun _ _ _ h => h) (yieldsIf_load_mid (by rfl) _ _ rfl b' (o' + i * 50) rfl x.vals _ ?hS8 Try.underlying66 rfl sizeHp) hHeld ?rest8
      case hS8 => exact fun w h => (hC.below h).rng Hp.vals_length i x hk
      try simp only [List.getElem_toArray, List.getElem_cons_succ, List.getElem_cons_zero, Act.put, List.setIfInBounds_toArray, List.set_cons_succ, List.set_cons_zero]
      refine tkH 8 (v := ?v9) rfl (by kernel_rfl) (fun _ _ _ h => h) (Or.inl ⟨by rfl, ?hy9⟩) hHeld ?rest9
      case hy9 => (intro w hSw; clear hSw; go_simp; try with_reducible rfl)
      try simp only [List.getElem_toArray, List.getElem_cons_succ, List.getElem_cons_zero, Act.put, List.setIfInBounds_toArray, List.set_cons_succ, List.set_cons_zero]
      refine wpAnyH_done (by kernel_rfl) ?_ _
      replace hB := hB.trans (hHeld.mono hB.size)
      clear hHeld hr hr' hA hC kn
      go_wp2_with fail
      exact ⟨⟨i + 1, by omega, by go_num, hB⟩, by simp [intOf]; omega⟩
    · have j0 : ¬ (i : Int) < (n : Int) := by omega
      go_wp2_with fail
      go_ret
      exact ⟨rfl, hB⟩

end Go.Proofs.Ythgmecgknhphmaa
