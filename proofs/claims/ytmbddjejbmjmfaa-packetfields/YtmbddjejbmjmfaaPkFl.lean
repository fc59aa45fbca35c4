/-
  Packets that differ in their counts, or in Ready, alone: their bytes, and which of them differ.
  No condition.
-/
import Derived.Test.YtmbddjejbmjmfaaPkFx
namespace Go.Proofs.Ytmbddjejbmjmfaa
set_option maxRecDepth 10000
open Go.RowKit Go.Sort

theorem wp_alloc_pk' {o : Oper} {a : Act} {w : World} {K : Act → World → Prop} {Q : Exit → Act → World → Prop} (ho : o.op = .alloc 35)
    (h : K (a.put o.dst (.pointer (some ⟨w.heap.size, 0, none⟩))) (w.alloc (.cells (pkc Pk.zero) 35))) : o.wp Try.prog a w K Q := by
  have hz := (zero_of_info pk_info).1
  unfold Oper.wp execOp
  simp only [ho, Instr.alloc, Sem.run_bind, hz, Result.andThen_ok]
  exact h

theorem pkl_whole (P : Pk) : ((pkc P).extract 0 (0 + (pkl P).length)).toList = pkl P := by
  have h : (pkc P).toList = pkl P := rfl
  rw [Nat.zero_add, Array.toList_extract, h]
  simp [List.extract]

theorem blk_after' {u x : World} (_h : Below u.heap.size u x) (C : Array Value) (T : TypeId) : Blk x.heap.size C T (x.alloc (.cells C T)) := blk_new x C T

def withCount (P : Pk) (c : Nat → Nat) : Pk := ⟨fun i => if i < 13 then P.n i else if i < 21 then c (i - 13) else P.n i, P.r, P.f0, P.f1, P.f2⟩
def withReady (P : Pk) (r : Bool) : Pk := ⟨P.n, r, P.f0, P.f1, P.f2⟩
theorem put_count (P : Pk) (c : Nat → Nat) : putAt (pkc P) 13 (rowc c 0).toList = pkc (withCount P c) := by kernel_rfl
theorem put_ready (P : Pk) (r : Bool) : (pkc P).setIfInBounds 32 (.bool r) = pkc (withReady P r) := by kernel_rfl

theorem may_count (P : Pk) (c : Nat → Nat) : (withCount P c).may = P.may := rfl
theorem may_ready (P : Pk) (r : Bool) : (withReady P r).may = P.may := rfl
theorem fits_count (P : Pk) (c : Nat → Nat) (hP : ∀ i, P.n i < 4294967296) (hc : ∀ i, c i < 4294967296) : ∀ i, (withCount P c).n i < 4294967296 := by
  intro i
  show (if i < 13 then P.n i else if i < 21 then c (i - 13) else P.n i) < _
  split
  · exact hP i
  · split
    · exact hc _
    · exact hP i
theorem row_whole (c : Nat → Nat) : ((rowc c 0).extract 0 (0 + (rowl c 0).length)).toList = rowl c 0 := by kernel_rfl

theorem sealed_ba (P : Pk) : P.sealed = ba (P.body ++ Crc.fourL (Crc.sum P.body)) := by
  apply Pack.ext_list
  rw [sealed_list, ba_data]
theorem ba_mid (A M B : List UInt8) (a b : Nat) (ha : A.length = a) (hb : a + M.length = b) : (ba (A ++ (M ++ B))).extract a b = ba M := by
  apply Pack.ext_list
  rw [Pack.extract_list, ba_data, ba_data, List.drop_append_of_le_length (by omega), List.drop_of_length_le (by omega), List.nil_append, List.take_append_of_le_length (by omega), List.take_of_length_le (by omega)]
theorem ba_first (A B : List UInt8) (a : Nat) (ha : A.length = a) : (ba (A ++ B)).extract 0 a = ba A := ba_front A B a ha

def preC (n : Nat → Nat) : List UInt8 := Pack.digits 1 (n 0) ++ (Pack.digits 4 (n 1) ++ (idb (n 2) (n 3) (n 4) ++ nums 4 (rown n 5)))
def sufR (P : Pk) : List UInt8 := Pack.digits 4 (P.n 33) ++ (Pack.digits 4 (P.n 34) ++ ((Fr.bytes P.f0).data.toList ++ ((Fr.bytes P.f1).data.toList ++ (Pack.digits 1 (P.n 107) ++ (Pack.digits 4 (P.n 108) ++ (Fr.bytes P.f2).data.toList)))))
def sufC (P : Pk) : List UInt8 := idb (P.n 21) (P.n 22) (P.n 23) ++ (nums 4 (rown P.n 24) ++ (Pack.digits 1 (if P.r then 1 else 0) ++ sufR P))
def preR (n : Nat → Nat) : List UInt8 := preC n ++ (nums 4 (rown n 13) ++ (idb (n 21) (n 22) (n 23) ++ nums 4 (rown n 24)))
theorem preC_length (n : Nat → Nat) : (preC n).length = 46 := by simp only [preC, List.length_append, Pack.digits_length, idb_length, rown_length]
theorem sufR_length (P : Pk) : (sufR P).length = 517 := by simp only [sufR, List.length_append, Pack.digits_length, frb_length]
theorem sufC_length (P : Pk) : (sufC P).length = 559 := by simp only [sufC, List.length_append, Pack.digits_length, idb_length, rown_length, sufR_length]
theorem preR_length (n : Nat → Nat) : (preR n).length = 119 := by simp only [preR, List.length_append, preC_length, idb_length, rown_length]
theorem body_C (P : Pk) : P.body = preC P.n ++ (nums 4 (rown P.n 13) ++ sufC P) := by
  simp only [Pk.body, rawb, preC, sufC, sufR, List.append_assoc]
theorem body_R (P : Pk) : P.body = preR P.n ++ (Pack.digits 1 (if P.r then 1 else 0) ++ sufR P) := by
  simp only [Pk.body, rawb, preR, preC, sufR, List.append_assoc]

theorem sealed_C (P : Pk) : P.sealed.extract 0 46 = ba (preC P.n) ∧ P.sealed.extract 46 78 = ba (nums 4 (rown P.n 13)) ∧ P.sealed.extract 78 637 = ba (sufC P) := by
  rw [sealed_ba]
  refine ⟨?_, ?_, ?_⟩
  · conv => lhs; rw [body_C, List.append_assoc]
    exact ba_first _ _ 46 (preC_length _)
  · conv => lhs; rw [body_C, List.append_assoc, List.append_assoc]
    exact ba_mid _ _ _ 46 78 (preC_length _) (by rw [rown_length])
  · conv => lhs; rw [body_C, ← List.append_assoc (preC P.n), List.append_assoc]
    exact ba_mid _ _ _ 78 637 (by rw [List.length_append, preC_length, rown_length]) (by rw [sufC_length])
theorem sealed_R (P : Pk) : P.sealed.extract 0 119 = ba (preR P.n) ∧ P.sealed.extract 119 120 = ba (Pack.digits 1 (if P.r then 1 else 0)) ∧ P.sealed.extract 120 637 = ba (sufR P) := by
  rw [sealed_ba]
  refine ⟨?_, ?_, ?_⟩
  · conv => lhs; rw [body_R, List.append_assoc]
    exact ba_first _ _ 119 (preR_length _)
  · conv => lhs; rw [body_R, List.append_assoc, List.append_assoc]
    exact ba_mid _ _ _ 119 120 (preR_length _) (by rw [Pack.digits_length])
  · conv => lhs; rw [body_R, ← List.append_assoc (preR P.n), List.append_assoc]
    exact ba_mid _ _ _ 120 637 (by rw [List.length_append, preR_length, Pack.digits_length]) (by rw [sufR_length])

theorem ba_inj {l m : List UInt8} (h : ba l = ba m) : l = m := by
  have := congrArg (fun b : ByteArray => b.data.toList) h
  simpa using this
theorem digits_eq {x y : Nat} (hx : x < 4294967296) (hy : y < 4294967296) (h : Pack.digits 4 x = Pack.digits 4 y) : x = y := by
  have := Pack.digits_inj 4 x y h
  rw [Nat.mod_eq_of_lt (by omega), Nat.mod_eq_of_lt (by omega)] at this
  exact this

theorem nums_inj : ∀ (L M : List Nat), (∀ x ∈ L, x < 4294967296) → (∀ x ∈ M, x < 4294967296) → L.length = M.length → nums 4 L = nums 4 M → L = M
  | [], [], _, _, _, _ => rfl
  | [], _ :: _, _, _, h, _ => by simp at h
  | _ :: _, [], _, _, h, _ => by simp at h
  | x :: L, y :: M, h1, h2, hl, h => by
    have e : Pack.digits 4 x ++ nums 4 L = Pack.digits 4 y ++ nums 4 M := h
    obtain ⟨e1, e2⟩ := List.append_inj e (by rw [Pack.digits_length, Pack.digits_length])
    rw [digits_eq (h1 x (by simp)) (h2 y (by simp)) e1, nums_inj L M (fun z hz => h1 z (by simp [hz])) (fun z hz => h2 z (by simp [hz])) (by simpa using hl) e2]

theorem rown_mem (n : Nat → Nat) (o : Nat) (hn : ∀ i, n i < 4294967296) : ∀ x ∈ rown n o, x < 4294967296 := by
  intro x hx
  simp only [rown, List.mem_cons, List.not_mem_nil, or_false] at hx
  rcases hx with rfl | rfl | rfl | rfl | rfl | rfl | rfl | rfl <;> exact hn _

theorem same_counts (P : Pk) (hP : ∀ i, P.n i < 4294967296) (c : Nat → Nat) (hc : ∀ i, c i < 4294967296) : (P.sealed.toList == (withCount P c).sealed.toList) = rowSame P.n 13 c 0 := by
  have hrow : rown (withCount P c).n 13 = rown c 0 := rfl
  cases h : rowSame P.n 13 c 0
  · apply bytes_ne
    intro e
    have h1 := (sealed_C P).2.1
    have h2 := (sealed_C (withCount P c)).2.1
    rw [← e, h1, hrow] at h2
    have h3 := nums_inj _ _ (rown_mem _ _ hP) (rown_mem _ _ hc) rfl (ba_inj h2)
    have h4 : rowSame P.n 13 c 0 = true := by
      unfold rowSame
      refine List.all_eq_true.2 fun i hi => ?_
      have hi8 := List.mem_range.1 hi
      have g1 := rown_get P.n 13 i hi8
      have g2 := rown_get c 0 i hi8
      rw [h3, g2] at g1
      simpa using (Option.some.inj g1).symm
    rw [h4] at h; cases h
  · have hall : ∀ i, i < 8 → P.n (13 + i) = c (0 + i) := by
      intro i hi
      unfold rowSame at h
      have := (List.all_eq_true.1 h) i (List.mem_range.2 hi)
      simpa using this
    have hr : rown P.n 13 = rown c 0 := by
      have q0 := hall 0 (by omega)
      have q1 := hall 1 (by omega)
      have q2 := hall 2 (by omega)
      have q3 := hall 3 (by omega)
      have q4 := hall 4 (by omega)
      have q5 := hall 5 (by omega)
      have q6 := hall 6 (by omega)
      have q7 := hall 7 (by omega)
      show [P.n (13 + 0), P.n (13 + 1), P.n (13 + 2), P.n (13 + 3), P.n (13 + 4), P.n (13 + 5), P.n (13 + 6), P.n (13 + 7)] = [c (0 + 0), c (0 + 1), c (0 + 2), c (0 + 3), c (0 + 4), c (0 + 5), c (0 + 6), c (0 + 7)]
      rw [q0, q1, q2, q3, q4, q5, q6, q7]
    have hb : P.body = (withCount P c).body := by
      rw [body_C, body_C (withCount P c), hrow, hr]
      rfl
    have : P.sealed = (withCount P c).sealed := by rw [sealed_ba, sealed_ba, hb]
    rw [this]; simp

theorem other_ready (P : Pk) : (P.sealed.toList == (withReady P (!P.r)).sealed.toList) = false := by
  apply bytes_ne
  intro e
  have h1 := (sealed_R P).2.1
  have h2 := (sealed_R (withReady P (!P.r))).2.1
  rw [← e, h1] at h2
  have h3 := ba_inj h2
  change Pack.digits 1 (if P.r then 1 else 0) = Pack.digits 1 (if !P.r then 1 else 0) at h3
  cases hr : P.r
  · rw [hr] at h3; exact absurd h3 (by decide)
  · rw [hr] at h3; exact absurd h3 (by decide)

theorem cut_run (s : ByteArray) (a b : Nat) (x : ByteArray) (hs : s.size = 641) (hab : a ≤ b) (hb : b ≤ 641) (hx : s.extract a b = x) (w : World) : (Instr.slice 9 (.string s) (some (.int .i64 (a : Int))) (some (.int .i64 (b : Int))) none).run Try.prog w = .ok (.string x) w := by
  have h := run_slice_string (P := Try.prog) w 9 s .i64 .i64 (a : Int) (b : Int) Try.underlying9 (by omega) (by omega) (by omega)
  rw [Int.toNat_natCast, Int.toNat_natCast, hx] at h
  exact h
theorem front_run (s : ByteArray) (b : Nat) (x : ByteArray) (hs : s.size = 641) (hb : b ≤ 641) (hx : s.extract 0 b = x) (w : World) : (Instr.slice 9 (.string s) none (some (.int .i64 (b : Int))) none).run Try.prog w = .ok (.string x) w := by
  rw [← hx]
  have h1 : (b : Int) ≤ (s.size : Int) := by omega
  simp [go_sem, h1]

def Pair (B : Nat) (P : Pk) (w0 : World) (pf pg : Value) (wx : World) : Prop :=
  ∃ F G : Nat, pf = .pointer (some ⟨F, 0, none⟩) ∧ pg = .pointer (some ⟨G, 0, none⟩) ∧ F ≠ G ∧ w0.heap.size ≤ F ∧ w0.heap.size ≤ G ∧ Blk F (pkc P) 35 wx ∧ Blk G (pkc P) 35 wx ∧ Blk B (pkc P) 35 wx ∧ Below w0.heap.size w0 wx

end Go.Proofs.Ytmbddjejbmjmfaa
