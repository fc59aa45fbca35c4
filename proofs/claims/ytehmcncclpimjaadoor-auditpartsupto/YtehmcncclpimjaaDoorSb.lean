/-
  A strings.Builder's WriteByte and String; strconv's FormatUint and Itoa: what each returns.
  Conditions: the table of powers of ten holds what the program's text lays; at most 140737488355328 bytes in a builder.
-/
import Derived.Test.YtehmcncclpimjaaDoorFrBld
import Derived.Test.YtehmcncclpimjaaDoorShelf
import Derived.Test.YtehmcncclpimjaaDoorDg
import Derived.Test.YtehmcncclpimjaaDoorHd
import Derived.Lib.SmallJoins
import Derived.Lib.AppendIntMem
namespace Go.Proofs.YtehmcncclpimjaaDoor
set_option maxRecDepth 10000
open Go.RowKit Go.Sort Go.Lib
set_option linter.unusedVariables false
set_option linter.unusedSimpArgs false

theorem dec_digs (n : Nat) : Lib.decDigits n = digs n := by
  induction n using Nat.strongRecOn with
  | ind n ih =>
    rw [Lib.decDigits]
    by_cases h : n < 10
    · rw [dif_pos h, digs_lt h]
      unfold dig
      rw [Nat.mod_eq_of_lt h]
    · rw [dif_neg h, digs_ge h, ih (n / 10) (by omega)]
      rfl
theorem itoa_sgns (k : Int) : Lib.itoa k = sgns k := by
  unfold Lib.itoa sgns
  split
  · rw [dec_digs]
  · rw [dec_digs, show k.toNat = k.natAbs by omega]

/- A variable of the program's packages stays as it is where new memory is made. -/
theorem var_on {g B : Nat} {n : String} {cs : Array Value} {W W' : World} (hg : Tryd.prog.globalNamed n = some g) (h : W.var? Tryd.prog n = some cs) (hb : Below B W W') (hB : g < B) : W'.var? Tryd.prog n = some cs := by
  unfold World.var? at h ⊢
  rw [hg] at h ⊢
  simp only [Option.bind_some] at h ⊢
  rw [hb.block g hB]
  exact h
theorem named5 : Tryd.prog.globalNamed "internal/strconv.uint64pow10" = some 5 := by kernel_rfl
/- The table of powers of ten lies there. -/
structure Tb (w : World) : Prop where
  tab : Lib.TabIs Tryd.prog w "internal/strconv.uint64pow10" .u64 Lib.pow10Tab
  big : 8 ≤ w.heap.size
theorem Tb.below {B : Nat} {w w' : World} (h : Tb w) (hb : Below B w w') (hB : 8 ≤ B) : Tb w' := ⟨var_on named5 h.tab hb (by omega), Nat.le_trans h.big hb.size⟩
theorem Tb.next {w w' : World} (h : Tb w) (hb : Below w.heap.size w w') : Tb w' := h.below hb h.big

theorem arr24 : Tryd.prog.arrayLen 99 = 24 := by kernel_rfl
theorem zero24 : (Tryd.prog.info? 99).map (fun i => (i.zero, i.size)) = some (some (.agg Lib.zeros24), 24) := by kernel_rfl
theorem holds_nil (w : World) : True := trivial

def strB (l : List UInt8) : ByteArray := ⟨l.toArray⟩
theorem strB_list (l : List UInt8) : (strB l).data.toList = l := rfl
theorem strB_bL (c : ByteArray) : strB (bL c) = c := by cases c; rfl
theorem bL_strB (l : List UInt8) : bL (strB l) = l := rfl
theorem strB_size (l : List UInt8) : (strB l).size = l.length := by show l.toArray.size = _; simp

set_option maxHeartbeats 6400000 in
set_option maxRecDepth 100000 in
theorem fmtI_ok (u : Nat) (hu : u < 18446744073709551616) (w : World) (hT : Tb w) :
    Calls Tryd.prog 62 #[.int .u64 (u : Int), .int .i64 10] w fun e w' => e = .returned (.string (strB (digs u))) ∧ Below w.heap.size w w' := by
  rw [← dec_digs]
  by_cases hs : u < 100
  · have d0 : (u : Int) < 100 := by omega
    go_enter Tryd.func62, Tryd.ntmps62
    go_wp2_with fail
    refine (Tryd.internal_strconv_small u hs _).mono ?_
    rintro e w' ⟨rfl, rfl⟩
    go_wp2_with fail
    go_ret
    exact ⟨rfl, Below.refl _ _⟩
  · have hu1 : 1 ≤ u := by omega
    have d0 : ¬ (u : Int) < 100 := by omega
    have hnd20 : Lib.nDigits u ≤ 20 := by have := Lib.numDigits_eq u hu1 hu; split at this <;> omega
    have hb3 : Lib.nDigits u ≤ 24 := by omega
    have hsl : ∀ W, (Instr.sliceAt 99 (.pointer (some ⟨w.heap.size, 0, none⟩)) none (some (.int .i64 (Lib.nDigits u : Int))) none).run Tryd.prog W = .ok (.slice (some ⟨w.heap.size, 0, none⟩) (Lib.nDigits u) 24) W := fun W => by
      rw [run_sliceAt_array_h W 99 ⟨w.heap.size, 0, none⟩ Tryd.underlying99 .i64 (Lib.nDigits u : Int) (by omega) (by rw [arr24]; omega)]
      go_simp
      try omega
    have hH0 := Lib.holds_zero0 w 99 (Lib.nDigits u) (by omega)
    have hfmt := Tryd.internal_strconv_formatBase10 w.heap.size 0 24 u (Array.replicate (Lib.nDigits u) 0) (w.alloc (.cells Lib.zeros24 99)) hH0 (by rw [Array.size_replicate]; exact Lib.lt_pow_nDigits u) hu (by rw [Array.size_replicate]; omega)
    rw [Array.size_replicate] at hfmt
    have HH0 := Lib.hid hH0
    have hT2 := Lib.tabIs_alloc hT.tab (.cells Lib.zeros24 99)
    clear hH0 hT hnd20
    go_enter Tryd.func62, Tryd.ntmps62
    go_wp2_with (refine alloc_zero zero24 rfl rfl ?_)
    refine (Tryd.internal_strconv_numDigits u hu1 hu _ hT2).mono ?_
    rintro e w' ⟨rfl, rfl⟩
    go_wp2_with fail
    refine hfmt.mono ?_
    rintro e w' ⟨rfl, k, v', dk, rfl, hF⟩
    have hcv : (convert 56 9 (.slice (some ⟨w.heap.size, 0, none⟩) (Lib.nDigits u) 24)).run Tryd.prog ((putRow (fun (b : UInt8) => Value.int .u8 (b.toNat : Int)) (w.alloc (.cells Lib.zeros24 99)) w.heap.size 0 dk).drewN k) = .ok (.string ⟨(Lib.decDigits u).toArray⟩) ((putRow (fun (b : UInt8) => Value.int .u8 (b.toNat : Int)) (w.alloc (.cells Lib.zeros24 99)) w.heap.size 0 dk).drewN k) := by
      have h := run_convert_bytes_back (P := Tryd.prog) ((putRow (fun (b : UInt8) => Value.int .u8 (b.toNat : Int)) (w.alloc (.cells Lib.zeros24 99)) w.heap.size 0 dk).drewN k) 56 9 5 ⟨w.heap.size, 0, none⟩ 24 (Lib.decDigits u) Tryd.underlying56 Tryd.underlying5 Tryd.underlying9 (fun j hj => by
        rw [Lib.row_is_numeral hF j hj, Lib.add_plain, World.cell?_drewN]
        exact cell?_putRow (fun (b : UInt8) => Value.int .u8 (b.toNat : Int)) _ w.heap.size 0 _ dk HH0.out (by rw [hF.size, Array.size_replicate]) j (by rw [hF.size]; rw [Lib.decDigits_length] at hj; exact hj))
      rw [Lib.decDigits_length] at h
      exact h
    have hB : Below w.heap.size w ((putRow (fun (b : UInt8) => Value.int .u8 (b.toNat : Int)) (w.alloc (.cells Lib.zeros24 99)) w.heap.size 0 dk).drewN k) := by
      rw [alloc_eq_grow]
      obtain ⟨os', _, e⟩ := putRow_grow_new (fun (b : UInt8) => Value.int .u8 (b.toNat : Int)) w #[.cells Lib.zeros24 99] w.heap.size 0 dk (Nat.le_refl _)
      rw [e]
      exact Lib.below_grow _ w (Nat.le_refl _) k os'
    generalize (putRow (fun (b : UInt8) => Value.int .u8 (b.toNat : Int)) (w.alloc (.cells Lib.zeros24 99)) w.heap.size 0 dk).drewN k = W at hcv hB ⊢
    clear hF hfmt hT2
    go_wp2_with fail
    go_ret
    exact ⟨rfl, hB⟩

theorem fmt_ok (u : Nat) (hu : u < 18446744073709551616) (w : World) (hT : Tb w) :
    Calls Tryd.prog 47 #[.int .u64 (u : Int), .int .i64 10] w fun e w' => e = .returned (.string (strB (digs u))) ∧ Below w.heap.size w w' := by
  have p := fmtI_ok u hu w hT
  go_enter Tryd.func47, Tryd.ntmps47
  go_wp2_with fail
  refine p.mono ?_
  rintro e w' ⟨rfl, hB⟩
  go_wp2_with fail
  go_ret
  exact ⟨rfl, hB⟩

theorem itoa_ok (k : Int) (h0 : -9223372036854775808 ≤ k) (h1 : k ≤ 9223372036854775807) (w : World) (hT : Tb w) :
    Calls Tryd.prog 49 #[.int .i64 k] w fun e w' => e = .returned (.string (strB (sgns k))) ∧ Below w.heap.size w w' := by
  refine (Tryd.strconv_Itoa k h0 h1 w hT.tab).mono ?_
  rintro e w' ⟨rfl, n, os, rfl⟩
  exact ⟨by rw [← itoa_sgns]; rfl, Lib.below_grow _ w (Nat.le_refl _) n os⟩

/- What a builder's writers keep: what lay below it, and each other block that is no row of bytes. -/
def Kb (b : Nat) (w w' : World) : Prop := Below b w w' ∧ Lib.OthersKept 5 (some b) w w'
theorem Kb.refl (b : Nat) (w : World) : Kb b w w := ⟨Below.refl _ _, Lib.OthersKept.refl _ _ _⟩
theorem Kb.trans {b : Nat} {u v w : World} (h : Kb b u v) (k : Kb b v w) : Kb b u w := ⟨h.1.trans k.1, h.2.trans k.2⟩
theorem Kb.of_below {b : Nat} {w w' : World} (hb : b < w.heap.size) (h : Below w.heap.size w w') : Kb b w w' :=
  ⟨h.mono (by omega), fun k o hk _ _ => (h.block k (Array.getElem?_eq_some_iff.1 hk).1).trans hk⟩
theorem Kb.blk {b B : Nat} {C : Array Value} {T : TypeId} {w w' : World} (h : Kb b w w') (hB : Blk B C T w) (hne : B ≠ b) (hT : T ≠ 5) : Blk B C T w' :=
  h.2 B _ hB (fun e => hne (Option.some.inj e)) (fun c fz e => by cases e; exact hT rfl)
theorem Kb.drew {b : Nat} {u w : World} (h : Kb b u w) : Kb b u w.drew := ⟨h.1.drew, h.2.drew⟩
theorem Bld.lt {b : Nat} {l : List UInt8} {w : World} (h : Bld b l w) : b < w.heap.size := by
  rcases h with h | h
  all_goals
    obtain ⟨_, v, hb, _⟩ := h
    exact (Array.getElem?_eq_some_iff.1 hb).1
theorem Bld.kept {b : Nat} {l : List UInt8} {w w' : World} (h : Bld b l w) (hb : Below w.heap.size w w') : Bld b l w' := by
  have key : ∀ p, Lib.BuilderAtF 58 5 b b p (Lib.byteCells l) w → Lib.BuilderAtF 58 5 b b p (Lib.byteCells l) w' := fun p h => by
    obtain ⟨h1, v, h2, h3, h4⟩ := h
    refine ⟨h1, v, (hb.block b (Array.getElem?_eq_some_iff.1 h2).1).trans h2, ⟨h3.1, ?_⟩, h4⟩
    rcases h3.2 with hn | ⟨g, cap, cur, fz, hv, hbg, hg, rest⟩
    · exact .inl hn
    · exact .inr ⟨g, cap, cur, fz, hv, hbg, (hb.block g (Array.getElem?_eq_some_iff.1 hg).1).trans hg, rest⟩
  rcases h with h | h
  · exact .inl (key _ h)
  · exact .inr (key _ h)

set_option maxHeartbeats 2000000 in
theorem writeB_ok (b : Nat) (l : List UInt8) (c : UInt8) (w : World) (h : Bld b l w) (hlen : l.length + 1 ≤ 140737488355328) :
    Calls Tryd.prog 48 #[.pointer (some ⟨b, 0, none⟩), .int .u8 (c.toNat : Int)] w fun e w' =>
      e = .returned .nilIface ∧ Bld b (l ++ [c]) w' ∧ Kb b w w' := by
  obtain ⟨i0, hi, hz0, hz1, hz2⟩ := info_parts byte_info
  have hl : (Lib.byteCells l).length = l.length := by simp [Lib.byteCells]
  have hcat : Lib.byteCells (l ++ [c]) = Lib.byteCells l ++ [.int .u8 (c.toNat : Int)] := by simp [Lib.byteCells]
  unfold Bld
  rw [hcat]
  clear hcat
  go_enter Tryd.func48, Tryd.ntmps48
  go_wp2_with fail
  refine (check_ok b _ _ h).mono ?_
  rintro e w1 ⟨rfl, ⟨hbb, v, hblk, own1, apart⟩, below1, kept1⟩
  have grew := below1.size
  have cell1 := (Lib.cell_of_heap hblk 1).trans (rfl : _ = some v)
  have lies : b < w1.heap.size := block_lt_of_cell cell1
  clear h
  go_wp2_with (at_builtin; refine wpList_append_ownF _ rfl _ _ 56 rfl b 5 i0 (.int .u8 0) 1 1 Tryd.underlying56 hi hz0 hz1 hz2 rfl (by decide) _ _ _ rfl (own1.alloc _) ⟨w1.heap.size, 0, none⟩ 1 1 [.int .u8 (c.toNat : Int)] rfl rfl ?_ ?_ ?_ ?_ ?_ ?_)
  · intro j u hj
    match j, hj with
    | 0, hj => simp at hj; subst hj; simp [Addr.add]
  · intro u hu; simp at hu; subst hu; rfl
  · unfold maxLen; omega
  · omega
  · have := below1.size; simp; omega
  intro v' w2 own2 grown _
  have blk2 : w2.heap[b]? = some (.cells #[.pointer (some ⟨b, 0, none⟩), v] 58 (0, 0)) := by
    rw [grown.block b (by simp; omega) (fun e => apart e.symm), Lib.alloc_old w1 _ b lies]
    exact hblk
  have cell2 := (Lib.cell_of_heap blk2 1).trans (rfl : _ = some v)
  have free2 := Lib.frozen_of_heap blk2 1
  obtain ⟨a, n, cc, rfl⟩ : ∃ a n c, v' = .slice a n c := by
    rcases own2.2 with ⟨hv, _⟩ | ⟨_, _, _, _, hv, _⟩ <;> exact ⟨_, _, _, hv⟩
  go_wp2
  go_ret
  refine ⟨rfl, .inr ?_, ?_, ((kept1.alloc _).grown grown (Lib.ownsRowF_kind (own1.alloc _))).setCell ⟨b, 1, none⟩ rfl _⟩
  · exact Lib.BuilderAtF.put hbb blk2 (bs' := Lib.byteCells l ++ [.int .u8 (c.toNat : Int)]) (by simpa [hl] using own2) (by decide)
  · exact ((below1.alloc (by omega) _).grown grown (by simp; omega) (fun k hk => (own1.lt k hk).1)).setCell hbb _

theorem writeS_ok (b : Nat) (l : List UInt8) (s : ByteArray) (w : World) (h : Bld b l w) (hlen : l.length + s.size ≤ 140737488355328) :
    Calls Tryd.prog 46 #[.pointer (some ⟨b, 0, none⟩), .string s] w fun e w' =>
      e = .returned (.tuple #[.int .i64 s.size, .nilIface]) ∧ Bld b (l ++ bL s) w' ∧ Kb b w w' :=
  (write_ok b l s w h hlen).mono fun e w' h => ⟨h.1, h.2.1, h.2.2⟩

theorem str_ok (b : Nat) (l : List UInt8) (w : World) (h : Bld b l w) :
    Calls Tryd.prog 34 #[.pointer (some ⟨b, 0, none⟩)] w fun e w' => e = .returned (.string (strB l)) ∧ Kb b w w' :=
  (Tryd.Builder_String_any_k b b l w h (Nat.le_of_lt h.lt)).mono fun e w' h => ⟨h.1, h.2.2⟩

end Go.Proofs.YtehmcncclpimjaaDoor
