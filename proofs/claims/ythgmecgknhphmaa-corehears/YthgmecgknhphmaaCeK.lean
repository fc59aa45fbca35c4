/-
  What a core sends, as plain data: a packet's cells by its fields; two that are the same compared.
  No condition.
-/
import Derived.Test.YthgmecgknhphmaaCeU
import Derived.Test.YthgmecgknhphmaaKtE
namespace Go.Proofs.Ythgmecgknhphmaa
set_option maxRecDepth 10000
open Go.RowKit Go.Sort
set_option linter.unusedVariables false

structure Pw where
  fr : Nat
  inc : Nat
  conf : Idn
  mem : Nat → Nat
  count : Nat → Nat
  pr : Idn
  want : Nat → Nat
  rdy : Bool
  ep : Nat
  rd : Nat
  f0 : Nat → En
  f1 : Nat → En
  ro : Nat
  rr : Nat
  f2 : Nat → En

def pwl (x : Pw) : List Value := .int .u32 (x.fr : Int) :: .int .u32 (x.inc : Int) :: (x.conf.vals ++ (row8 x.mem ++ (row8 x.count ++ (x.pr.vals ++ (row8 x.want ++ (.bool x.rdy :: .int .u32 (x.ep : Int) :: .int .u32 (x.rd : Int) :: (frv x.f0 ++ (frv x.f1 ++ (.int .u32 (x.ro : Int) :: .int .u32 (x.rr : Int) :: frv x.f2)))))))))
def pwc (x : Pw) : Array Value := (pwl x).toArray
def Pw.zero : Pw := ⟨0, 0, Idn.zero, noMb, noMb, Idn.zero, noMb, false, 0, 0, noFr, noFr, 0, 0, noFr⟩
theorem pwc_size (x : Pw) : (pwc x).size = 145 := rfl
theorem pwc_one (x : Pw) : (pwc x).all (·.oneCell') = true := by kernel_rfl
theorem zeroPw : (Try.prog.info? 50).map (fun i => (i.zero, i.size)) = some (some (.agg (pwc Pw.zero)), 145) := by kernel_rfl
theorem pwc_all (x y : Pw) : putAt (pwc x) 0 (pwc y).toList = pwc y := putAt_all _ _ rfl
theorem Pw.s_count (x : Pw) (m : Nat → Nat) : putAt (pwc x) 13 (mbc m).toList = pwc ⟨x.fr, x.inc, x.conf, x.mem, m, x.pr, x.want, x.rdy, x.ep, x.rd, x.f0, x.f1, x.ro, x.rr, x.f2⟩ := by kernel_rfl
theorem Pw.s_f0 (x : Pw) (f : Nat → En) : putAt (pwc x) 35 (frc f).toList = pwc ⟨x.fr, x.inc, x.conf, x.mem, x.count, x.pr, x.want, x.rdy, x.ep, x.rd, f, x.f1, x.ro, x.rr, x.f2⟩ := by kernel_rfl
theorem Pw.s_f1 (x : Pw) (f : Nat → En) : putAt (pwc x) 71 (frc f).toList = pwc ⟨x.fr, x.inc, x.conf, x.mem, x.count, x.pr, x.want, x.rdy, x.ep, x.rd, x.f0, f, x.ro, x.rr, x.f2⟩ := by kernel_rfl
theorem Pw.s_f2 (x : Pw) (f : Nat → En) : putAt (pwc x) 109 (frc f).toList = pwc ⟨x.fr, x.inc, x.conf, x.mem, x.count, x.pr, x.want, x.rdy, x.ep, x.rd, x.f0, x.f1, x.ro, x.rr, f⟩ := by kernel_rfl
theorem Pw.s_rd (x : Pw) (n : Nat) : (pwc x).setIfInBounds 34 (.int .u32 (n : Int)) = pwc ⟨x.fr, x.inc, x.conf, x.mem, x.count, x.pr, x.want, x.rdy, x.ep, n, x.f0, x.f1, x.ro, x.rr, x.f2⟩ := by kernel_rfl
theorem Pw.s_ro (x : Pw) (n : Nat) : (pwc x).setIfInBounds 107 (.int .u32 (n : Int)) = pwc ⟨x.fr, x.inc, x.conf, x.mem, x.count, x.pr, x.want, x.rdy, x.ep, x.rd, x.f0, x.f1, n, x.rr, x.f2⟩ := by kernel_rfl
theorem Pw.s_rr (x : Pw) (n : Nat) : (pwc x).setIfInBounds 108 (.int .u32 (n : Int)) = pwc ⟨x.fr, x.inc, x.conf, x.mem, x.count, x.pr, x.want, x.rdy, x.ep, x.rd, x.f0, x.f1, x.ro, n, x.f2⟩ := by kernel_rfl
theorem Pw.p_conf (x : Pw) : ((pwc x).extract 2 (2 + x.conf.vals.length)).toList = x.conf.vals := by kernel_rfl
theorem Pw.p_pr (x : Pw) : ((pwc x).extract 21 (21 + x.pr.vals.length)).toList = x.pr.vals := by kernel_rfl
theorem Pw.p_f0 (x : Pw) : ((pwc x).extract 35 (35 + (frv x.f0).length)).toList = frv x.f0 := by kernel_rfl
theorem Pw.p_f1 (x : Pw) : ((pwc x).extract 71 (71 + (frv x.f1).length)).toList = frv x.f1 := by kernel_rfl
theorem Pw.get_mem (x : Pw) (i : Nat) (h : i < 8) : (pwc x)[5 + i]? = some (.int .u32 (x.mem i : Int)) := by
  obtain rfl | rfl | rfl | rfl | rfl | rfl | rfl | rfl : i = 0 ∨ i = 1 ∨ i = 2 ∨ i = 3 ∨ i = 4 ∨ i = 5 ∨ i = 6 ∨ i = 7 := by omega
  all_goals rfl
theorem Pw.get_want (x : Pw) (i : Nat) (h : i < 8) : (pwc x)[24 + i]? = some (.int .u32 (x.want i : Int)) := by
  obtain rfl | rfl | rfl | rfl | rfl | rfl | rfl | rfl : i = 0 ∨ i = 1 ∨ i = 2 ∨ i = 3 ∨ i = 4 ∨ i = 5 ∨ i = 6 ∨ i = 7 := by omega
  all_goals rfl

/- What a core sends. -/
def relO (L : List Kt) (v : Nat) : Nat := if L.isEmpty = true then 0 else ((pickK L v).fr % 4294967296).toNat
def relR (L : List Kt) (v : Nat) : Nat := if L.isEmpty = true then 0 else (pickK L v).rd
def relF (L : List Kt) (v : Nat) : Nat → En := if L.isEmpty = true then noFr else (pickK L v).f
def packW (c : Co) (L : List Kt) : Pw :=
  ⟨c.self.toNat, c.own, c.conf, c.mem, if gathB c = true then c.cut else c.count, c.pr, c.want, c.rdy, c.epoch, ownN c,
   gotF (getK c.self (ownN c) L), if 0 < ownN c then gotF (getK c.self (ownN c - 1) L) else noFr, relO L c.beat.now, relR L c.beat.now, relF L c.beat.now⟩

theorem samePw (x : Pw) (w : World) : (Op.equalIn 10000 50 (.agg (pwc x)) (.agg (pwc x))).run Try.prog w = .ok true w := by
  have hu : Try.prog.underlying 50 = some (.struct (Try.prog.fieldsOf 50)) := by kernel_rfl
  rw [show (10000 : Nat) = 9999 + 1 from rfl, run_equalIn_struct w 9999 50 (pwc x) (pwc x) hu (by kernel_rfl)]
  apply fields_same
  have hf : (Try.prog.fieldsOf 50).toList.map (fun f => (f.name, f.type, f.offset)) = [("From", 22, 0), ("Inc", 22, 1), ("Conf", 27, 2), ("Members", 28, 5), ("Count", 29, 13), ("Promise", 27, 21), ("Wanted", 28, 24), ("Ready", 4, 32), ("Epoch", 22, 33), ("Round", 22, 34), ("Newest", 41, 35), ("Older", 41, 71), ("RelayOf", 22, 107), ("RelayRound", 22, 108), ("Relay", 41, 109)] := by kernel_rfl
  intro f hmem
  have hm : (f.name, f.type, f.offset) ∈ (Try.prog.fieldsOf 50).toList.map (fun f => (f.name, f.type, f.offset)) := List.mem_map_of_mem (f := fun f : Field => (f.name, f.type, f.offset)) hmem
  rw [hf] at hm
  generalize f.name = fn at hm ⊢
  generalize f.type = ft at hm ⊢
  generalize f.offset = fo at hm ⊢
  simp only [List.mem_cons, List.not_mem_nil, or_false, Prod.mk.injEq] at hm
  rcases hm with ⟨rfl, rfl, rfl⟩ | ⟨rfl, rfl, rfl⟩ | ⟨rfl, rfl, rfl⟩ | ⟨rfl, rfl, rfl⟩ | ⟨rfl, rfl, rfl⟩ | ⟨rfl, rfl, rfl⟩ | ⟨rfl, rfl, rfl⟩ | ⟨rfl, rfl, rfl⟩ | ⟨rfl, rfl, rfl⟩ | ⟨rfl, rfl, rfl⟩ | ⟨rfl, rfl, rfl⟩ | ⟨rfl, rfl, rfl⟩ | ⟨rfl, rfl, rfl⟩ | ⟨rfl, rfl, rfl⟩ | ⟨rfl, rfl, rfl⟩
  · exact ⟨by decide, .int .u32 (x.fr : Int), by kernel_rfl, by simp [go_sem]⟩
  · exact ⟨by decide, .int .u32 (x.inc : Int), by kernel_rfl, by simp [go_sem]⟩
  · exact ⟨by decide, .agg x.conf.arr, by kernel_rfl, equalIdnIn 9997 x.conf w⟩
  · exact ⟨by decide, .agg (mbc x.mem), by kernel_rfl, by rw [show (9999 : Nat) = 9997 + 1 + 1 from rfl, equalRow Try.underlying28 9997, mbSame_self]⟩
  · exact ⟨by decide, .agg (mbc x.count), by kernel_rfl, by rw [show (9999 : Nat) = 9997 + 1 + 1 from rfl, equalRow Try.underlying29 9997, mbSame_self]⟩
  · exact ⟨by decide, .agg x.pr.arr, by kernel_rfl, equalIdnIn 9997 x.pr w⟩
  · exact ⟨by decide, .agg (mbc x.want), by kernel_rfl, by rw [show (9999 : Nat) = 9997 + 1 + 1 from rfl, equalRow Try.underlying28 9997, mbSame_self]⟩
  · exact ⟨by decide, .bool x.rdy, by kernel_rfl, by simp [go_sem]⟩
  · exact ⟨by decide, .int .u32 (x.ep : Int), by kernel_rfl, by simp [go_sem]⟩
  · exact ⟨by decide, .int .u32 (x.rd : Int), by kernel_rfl, by simp [go_sem]⟩
  · exact ⟨by decide, .agg (frc x.f0), by kernel_rfl, sameFr x.f0 9995 w⟩
  · exact ⟨by decide, .agg (frc x.f1), by kernel_rfl, sameFr x.f1 9995 w⟩
  · exact ⟨by decide, .int .u32 (x.ro : Int), by kernel_rfl, by simp [go_sem]⟩
  · exact ⟨by decide, .int .u32 (x.rr : Int), by kernel_rfl, by simp [go_sem]⟩
  · exact ⟨by decide, .agg (frc x.f2), by kernel_rfl, sameFr x.f2 9995 w⟩
theorem eqlPw (x : Pw) (w : World) : (binOp .eql 50 (.agg (pwc x)) (.agg (pwc x))).run Try.prog w = .ok (.bool true) w := by
  rw [run_eql_struct, samePw]; rfl

end Go.Proofs.Ythgmecgknhphmaa
