/-
  Of the texts beneath these laws, in their order: CfI.
  Each theorem says its own conditions.
-/
import Derived.Test.YthgfpdidilolgaaGreatCeZX
import Derived.Test.YthgfpdidilolgaaGreatZ05
namespace Go.Proofs.YthgfpdidilolgaaGreat
set_option maxRecDepth 10000
set_option linter.unusedSimpArgs false
open Go.RowKit Go.Sort
set_option linter.unusedVariables false
theorem sameKt9 (x : Kt) (w : World) : (Op.equalIn 9999 53 (.agg x.arr) (.agg x.arr)).run Tryz.prog w = .ok true w := by
 have hu : Tryz.prog.underlying 53 = some (.struct (Tryz.prog.fieldsOf 53)) := by kernel_rfl
 rw [show (9999 : Nat) = 9998 + 1 from rfl, run_equalIn_struct w 9998 53 x.arr x.arr hu (by kernel_rfl)]
 apply fields_same
 have hf : (Tryz.prog.fieldsOf 53).toList.map (fun f => (f.name, f.type, f.offset)) = [("From", 3, 0), ("Round", 37, 1), ("Frame", 43, 2)] := by kernel_rfl
 intro f hmem
 have hm : (f.name, f.type, f.offset) ∈ (Tryz.prog.fieldsOf 53).toList.map (fun f => (f.name, f.type, f.offset)) := List.mem_map_of_mem (f := fun f : Field => (f.name, f.type, f.offset)) hmem
 rw [hf] at hm
 generalize f.name = fn at hm ⊢
 generalize f.type = ft at hm ⊢
 generalize f.offset = fo at hm ⊢
 simp only [List.mem_cons, List.not_mem_nil, or_false, Prod.mk.injEq] at hm
 rcases hm with ⟨rfl, rfl, rfl⟩ | ⟨rfl, rfl, rfl⟩ | ⟨rfl, rfl, rfl⟩
 ·exact ⟨by decide, .int .i64 x.fr, by kernel_rfl, by simp [go_sem]⟩
 ·exact ⟨by decide, .int .u32 (x.rd : Int), by kernel_rfl, by simp [go_sem]⟩
 ·exact ⟨by decide, .agg (frc x.f), by kernel_rfl, sameFr x.f 9994 w⟩
theorem samePe9 (b : Pe) (w : World) : (Op.equalIn 9999 75 (.agg b.arr) (.agg b.arr)).run Tryz.prog w = .ok true w := by
 have hu : Tryz.prog.underlying 75 = some (.struct (Tryz.prog.fieldsOf 75)) := by kernel_rfl
 rw [show (9999 : Nat) = 9998 + 1 from rfl, run_equalIn_struct w 9998 75 b.arr b.arr hu (by kernel_rfl)]
 apply fields_same
 have hf : (Tryz.prog.fieldsOf 75).toList.map (fun f => (f.name, f.type, f.offset)) = [("Inc", 37, 0), ("Conf", 51, 1), ("Promise", 51, 4), ("Cut", 60, 7), ("Ready", 4, 15)] := by kernel_rfl
 intro f hmem
 have hm : (f.name, f.type, f.offset) ∈ (Tryz.prog.fieldsOf 75).toList.map (fun f => (f.name, f.type, f.offset)) := List.mem_map_of_mem (f := fun f : Field => (f.name, f.type, f.offset)) hmem
 rw [hf] at hm
 generalize f.name = fn at hm ⊢
 generalize f.type = ft at hm ⊢
 generalize f.offset = fo at hm ⊢
 simp only [List.mem_cons, List.not_mem_nil, or_false, Prod.mk.injEq] at hm
 rcases hm with ⟨rfl, rfl, rfl⟩ | ⟨rfl, rfl, rfl⟩ | ⟨rfl, rfl, rfl⟩ | ⟨rfl, rfl, rfl⟩ | ⟨rfl, rfl, rfl⟩
 ·exact ⟨by decide, .int .u32 (b.inc : Int), by kernel_rfl, by simp [go_sem]⟩
 ·exact ⟨by decide, .agg b.conf.arr, by kernel_rfl, equalIdnIn 9996 b.conf w⟩
 ·exact ⟨by decide, .agg b.pr.arr, by kernel_rfl, equalIdnIn 9996 b.pr w⟩
 ·exact ⟨by decide, .agg (mbc b.cut), by kernel_rfl, by rw [show (9998 : Nat) = 9996 + 1 + 1 from rfl, equalRow Tryz.underlying60 9996, mbSame_self]⟩
 ·exact ⟨by decide, .bool b.rdy, by kernel_rfl, by simp [go_sem]⟩
theorem samePs (f : Nat → Pe) (w : World) : (Op.equalIn 10000 76 (.agg (prs f).toArray) (.agg (prs f).toArray)).run Tryz.prog w = .ok true w := by
 obtain ⟨i, hi⟩ : ∃ i, Tryz.prog.info? 75 = some i := Option.isSome_iff_exists.1 (by kernel_rfl)
 have hc : Tryz.prog.cellsOf 75 = 16 := by kernel_rfl
 rw [show (10000 : Nat) = 9999 + 1 from rfl, run_equalIn_array w 9999 (prs f).toArray (prs f).toArray Tryz.underlying76 hi, hc]
 apply items_same
 intro j hj
 have h2 := List.mem_range.1 hj
 obtain rfl | rfl | rfl | rfl | rfl | rfl | rfl | rfl : j = 0 ∨ j = 1 ∨ j = 2 ∨ j = 3 ∨ j = 4 ∨ j = 5 ∨ j = 6 ∨ j = 7 := by omega
 ·exact ⟨.agg (f 0).arr, by kernel_rfl, samePe9 _ w⟩
 ·exact ⟨.agg (f 1).arr, by kernel_rfl, samePe9 _ w⟩
 ·exact ⟨.agg (f 2).arr, by kernel_rfl, samePe9 _ w⟩
 ·exact ⟨.agg (f 3).arr, by kernel_rfl, samePe9 _ w⟩
 ·exact ⟨.agg (f 4).arr, by kernel_rfl, samePe9 _ w⟩
 ·exact ⟨.agg (f 5).arr, by kernel_rfl, samePe9 _ w⟩
 ·exact ⟨.agg (f 6).arr, by kernel_rfl, samePe9 _ w⟩
 ·exact ⟨.agg (f 7).arr, by kernel_rfl, samePe9 _ w⟩
theorem eqlPs (f : Nat → Pe) (w : World) : (binOp .eql 76 (.agg (prs f).toArray) (.agg (prs f).toArray)).run Tryz.prog w = .ok (.bool true) w := by
 rw [run_eql_struct, samePs]; rfl
theorem sizePs : (Tryz.prog.info? 76).map (·.size) = some 128 := by kernel_rfl
set_option maxHeartbeats 8000000 in
theorem ris_ok (c : Co) (L : List Kt) (a b : Option Addr) (k j : Nat) (lm : L.length ≤ 9223372036854775807) (w : World) (hA : Li Kt.vals 0 a L w) (hC : Li Kt.vals 0 b L w) :
  Calls Tryz.prog 23 #[.agg (coc (c.kp a L.length k)), .agg (coc (c.kp b L.length j))] w fun e w' => e = .returned (.bool true) ∧ Below w.heap.size w w' := by
 obtain ⟨a0, a1, hB⟩ := two_blk (T0 := 78) (T1 := 78) (C0 := coc (c.kp a L.length k)) (C1 := coc (c.kp b L.length j)) (w := w) rfl
 have k1 : ∀ w, (binOp .eql 72 (.agg c.beat.vals.toArray) (.agg c.beat.vals.toArray)).run Tryz.prog w = .ok (.bool true) w := eqlBt c.beat
 have k2 : ∀ w, (binOp .eql 51 (.agg c.conf.vals.toArray) (.agg c.conf.vals.toArray)).run Tryz.prog w = .ok (.bool true) w := eqlIdn _ _ true (Idn.same_self _)
 have k3 : ∀ w, (binOp .eql 55 (.agg (row8 c.mem).toArray) (.agg (row8 c.mem).toArray)).run Tryz.prog w = .ok (.bool true) w := eqlMb _ _ true (mbSame_self _)
 have k4 : ∀ w, (binOp .eql 60 (.agg (row8 c.count).toArray) (.agg (row8 c.count).toArray)).run Tryz.prog w = .ok (.bool true) w := eqlCt _ _ true (mbSame_self _)
 have k5 : ∀ w, (binOp .eql 51 (.agg c.pr.vals.toArray) (.agg c.pr.vals.toArray)).run Tryz.prog w = .ok (.bool true) w := eqlIdn _ _ true (Idn.same_self _)
 have k6 : ∀ w, (binOp .eql 55 (.agg (row8 c.want).toArray) (.agg (row8 c.want).toArray)).run Tryz.prog w = .ok (.bool true) w := eqlMb _ _ true (mbSame_self _)
 have k7 : ∀ w, (binOp .eql 60 (.agg (row8 c.cut).toArray) (.agg (row8 c.cut).toArray)).run Tryz.prog w = .ok (.bool true) w := eqlCt _ _ true (mbSame_self _)
 have k8 := eqlPs c.peers
 go_enter Tryz.func23, Tryz.ntmps23
 go_upto_region 1 with fail
 generalize (w.alloc (Obj.cells (coc (c.kp a L.length k)) 78)).alloc (Obj.cells (coc (c.kp b L.length j)) 78) = W at a0 a1 hB ⊢
 have c1 := a0.cell 0 (.int .i64 c.self) rfl
 have c2 := a1.cell 0 (.int .i64 c.self) rfl
 have c3 := a0.cell 1 (.int .i64 c.wait) rfl
 have c4 := a1.cell 1 (.int .i64 c.wait) rfl
 have c5 := a0.cell 2 (.int .u32 (c.own : Int)) rfl
 have c6 := a1.cell 2 (.int .u32 (c.own : Int)) rfl
 have c7 := a0.cell 39 (.slice a L.length k) rfl
 have c8 := a1.cell 39 (.slice b L.length j) rfl
 go_wp2_with (first | refine load_wpart rfl 72 _ rfl (o := 3) a0 rfl c.beat.vals ((c.kp a L.length k).p_beat) Tryz.underlying72 rfl sizeBt ?_ | refine load_wpart rfl 72 _ rfl (o := 3) a1 rfl c.beat.vals ((c.kp b L.length j).p_beat) Tryz.underlying72 rfl sizeBt ?_ | refine load_wpart rfl 51 _ rfl (o := 20) a0 rfl c.conf.vals ((c.kp a L.length k).p_conf) Tryz.underlying51 rfl sizeIdn ?_ | refine load_wpart rfl 51 _ rfl (o := 20) a1 rfl c.conf.vals ((c.kp b L.length j).p_conf) Tryz.underlying51 rfl sizeIdn ?_ | refine load_wpart rfl 55 _ rfl (o := 23) a0 rfl (row8 c.mem) ((c.kp a L.length k).p_mem) Tryz.underlying55 rfl sizeMb ?_ | refine load_wpart rfl 55 _ rfl (o := 23) a1 rfl (row8 c.mem) ((c.kp b L.length j).p_mem) Tryz.underlying55 rfl sizeMb ?_ | refine load_wpart rfl 60 _ rfl (o := 31) a0 rfl (row8 c.count) ((c.kp a L.length k).p_count) Tryz.underlying60 rfl sizeCt ?_ | refine load_wpart rfl 60 _ rfl (o := 31) a1 rfl (row8 c.count) ((c.kp b L.length j).p_count) Tryz.underlying60 rfl sizeCt ?_)
 refine (rkts_ok L a b k j lm _ (hA.below hB) (hC.below hB)).mono ?_
 rintro r w1 ⟨rfl, hb⟩
 replace a0 := a0.below hb
 replace a1 := a1.below hb
 replace hB := hB.trans (hb.mono hB.size)
 clear hb c1 c2 c3 c4 c5 c6 c7 c8 k1 k2 k3 k4
 have c1 := a0.cell 59 (.bool c.rdy) rfl
 have c2 := a1.cell 59 (.bool c.rdy) rfl
 have c3 := a0.cell 188 (.int .u32 (c.epoch : Int)) rfl
 have c4 := a1.cell 188 (.int .u32 (c.epoch : Int)) rfl
 obtain ⟨rd, hrd⟩ : ∃ r, c.rdy = r := ⟨_, rfl⟩
 rw [hrd] at c1 c2
 have hR : (rd == rd) = true := by simp
 clear hrd
 go_wp2_with (first | refine load_wpart rfl 51 _ rfl (o := 40) a0 rfl c.pr.vals ((c.kp a L.length k).p_pr) Tryz.underlying51 rfl sizeIdn ?_ | refine load_wpart rfl 51 _ rfl (o := 40) a1 rfl c.pr.vals ((c.kp b L.length j).p_pr) Tryz.underlying51 rfl sizeIdn ?_ | refine load_wpart rfl 55 _ rfl (o := 43) a0 rfl (row8 c.want) ((c.kp a L.length k).p_want) Tryz.underlying55 rfl sizeMb ?_ | refine load_wpart rfl 55 _ rfl (o := 43) a1 rfl (row8 c.want) ((c.kp b L.length j).p_want) Tryz.underlying55 rfl sizeMb ?_ | refine load_wpart rfl 60 _ rfl (o := 51) a0 rfl (row8 c.cut) ((c.kp a L.length k).p_cut) Tryz.underlying60 rfl sizeCt ?_ | refine load_wpart rfl 60 _ rfl (o := 51) a1 rfl (row8 c.cut) ((c.kp b L.length j).p_cut) Tryz.underlying60 rfl sizeCt ?_ | refine load_wpart rfl 76 _ rfl (o := 60) a0 rfl (prs c.peers) ((c.kp a L.length k).p_peers) Tryz.underlying76 rfl sizePs ?_ | refine load_wpart rfl 76 _ rfl (o := 60) a1 rfl (prs c.peers) ((c.kp b L.length j).p_peers) Tryz.underlying76 rfl sizePs ?_)
 go_ret
 exact ⟨rfl, hB⟩
end Go.Proofs.YthgfpdidilolgaaGreat
