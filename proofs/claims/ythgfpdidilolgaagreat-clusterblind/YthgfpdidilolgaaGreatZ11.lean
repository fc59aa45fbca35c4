/-
  Of the texts beneath these laws, in their order: FrEnc, PkWr, PkWs, FrEq.
  Each theorem says its own conditions.
-/
import Derived.Test.YthgfpdidilolgaaGreatZ10
import Derived.Deep.RegionWith
import Derived.Test.YthgfpdidilolgaaGreatZ09
import Derived.Lib.QuietBelow
import Derived.BigQuiet
import Derived.DeepKeys
namespace Go.Proofs.YthgfpdidilolgaaGreat.Eld
set_option maxRecDepth 10000
open Go.RowKit Go.Sort
theorem Bld.below {b : Nat} {l : List UInt8} {w w' : World} (h : Bld b l w) (hb : Below w.heap.size w w') : Bld b l w' := by
 have one : ∀ p, Lib.BuilderAtF 223 5 b b p (Lib.byteCells l) w → Lib.BuilderAtF 223 5 b b p (Lib.byteCells l) w' := by
  intro p hp
  have hlt := hp.lt
  obtain ⟨hB, v, hblk, ⟨hlen, hown⟩, hne⟩ := hp
  refine ⟨hB, v, (hb.block b hlt).trans hblk, ⟨hlen, ?_⟩, hne⟩
  rcases hown with h1 | ⟨g, cap, cur, fz, hv, hbase, hg, hrest⟩
  ·exact .inl h1
  ·have hgl : g < w.heap.size := by
    rcases Nat.lt_or_ge g w.heap.size with h' | h'
    ·exact h'
    ·simp [Array.getElem?_eq_none h'] at hg
   exact .inr ⟨g, cap, cur, fz, hv, hbase, (hb.block g hgl).trans hg, hrest⟩
 rcases h with h | h
 ·exact .inl (one _ h)
 ·exact .inr (one _ h)
theorem En.may_fit {e : En} (h : e.may = true) : ∃ k sv g : Nat, e.k = k ∧ e.sv = sv ∧ e.g = g ∧ k < 256 ∧ sv < 256 ∧ g < 256 ∧ e.se < 256 ^ 2 ∧ e.n < 256 ^ 4 ∧ e.t.size ≤ 16 ∧ e.bytes = Ent.bytes k sv g e.se e.n e.t := by
 obtain ⟨a, b, c, ha, hb, hc, h1, h2, h3, h4, h5, h6⟩ := Ent.may_nats h
 refine ⟨a, b, c, ha, hb, hc, h1, h2, h3, h4, h5, h6, ?_⟩
 unfold En.bytes
 rw [ha, hb, hc]
 rfl
theorem En.bytes_size (e : En) : e.bytes.size = 28 := Ent.bytes_size _ _ _ _ _ _
theorem enEncode_ok (e : En) (hm : e.may = true) (w : World) : Calls Tryz.prog 222 #[.agg e.vals.toArray] w fun r w' =>
  r = .returned (.tuple #[.string e.bytes, .int .i64 0]) ∧ Below w.heap.size w w' := by
 obtain ⟨a, b, c, ha, hb, hc, h1, h2, h3, h4, h5, h6, hbs⟩ := En.may_fit hm
 rw [hbs]
 have h := encode_ok a b c e.se e.n e.t (by rw [← ha, ← hb, ← hc]; exact hm) h1 h2 h3 h6 w
 rw [← ha, ← hb, ← hc] at h
 exact h
theorem enEncode_no (e : En) (hm : e.may = false) (w : World) : Calls Tryz.prog 222 #[.agg e.vals.toArray] w fun r w' =>
  r = .returned (.tuple #[.string ⟨#[]⟩, .int .i64 30]) ∧ Below w.heap.size w w' := encode_no e.k e.sv e.g e.se e.n e.t hm w
theorem Fr.upto_length (F : Nat → En) (m : Nat) : (Fr.upto F m).length = 28 * m := by
 induction m with
 | zero => rfl
 | succ m ih =>
  show (Fr.upto F m ++ (F m).bytes.data.toList).length = _
  rw [List.length_append, ih, Array.length_toList]
  have := (F m).bytes_size
  show 28 * m + (F m).bytes.size = _
  omega
theorem Fr.bytes_size (F : Nat → En) : (Fr.bytes F).size = 168 := by
 show (Fr.upto F 6).toArray.size = 168
 rw [List.size_toArray, Fr.upto_length]
set_option maxHeartbeats 2000000 in
theorem frEncode (F : Nat → En) (w : World) : Calls Tryz.prog 211 #[.agg (frc F)] w fun r w' =>
  r = .returned (if Fr.may F then .tuple #[.string (Fr.bytes F), .int .i64 0] else .tuple #[.string ⟨#[]⟩, .int .i64 30]) ∧ Below w.heap.size w w' := by
 obtain ⟨c, hc⟩ : ∃ c : Value, Hid ((if Fr.may F then .tuple #[.string (Fr.bytes F), .int .i64 0] else .tuple #[.string ⟨#[]⟩, .int .i64 30]) = c) := ⟨_, rfl⟩
 rw [hc.out]
 go_enter Tryz.func211, Tryz.ntmps211
 go_wp2_with (refine load_blk rfl 43 _ rfl ((blk_new w (frc F) 43).alloc _) rfl Tryz.underlying43 rfl (by rw [frc_size]; exact size27) ?_)
 go_loopw [12] (fun i w' => ∃ m : Nat, m ≤ 3 ∧ i = .int .i64 m ∧ Below w.heap.size w w' ∧ Bld (w.heap.size + 1) (Fr.upto F (2 * m)) w' ∧ Hid (∀ x, x < 2 * m → (F x).may = true)) (fun i _ => 3 - (intOf i).toNat)
 case atStart =>
  have hbl := bld_new (w.alloc (.cells (frc F) 43))
  have hz : (w.alloc (.cells (frc F) 43)).heap.size = w.heap.size + 1 := by simp
  rw [hz] at hbl
  exact ⟨0, by omega, rfl, (below_box w (.cells (frc F) 43)).alloc (by simp) _, hbl, fun x hx => by omega⟩
 case round =>
  obtain ⟨m, hm, rfl, hb, hbld, hall⟩ := hrel
  by_cases hlt : m < 3
  ·have kix := ix27 F m hlt
   generalize hp : F (2 * m) = p at kix
   generalize hq : F (2 * m + 1) = q at kix
   rename_i wr _ _
   go_wp2_with (first | refine store_new rfl 41 _ _ rfl rfl rfl (by rw [lnc_size]; exact size25) (by rw [lnc_size]; rfl) (lnc_one _ _) ?_ | refine load_blk rfl 41 _ rfl (blk_new _ (lnc p q) 41) rfl Tryz.underlying41 rfl (by rw [lnc_size]; exact size25) ?_)
   go_loopw [16] (fun i w' => ∃ j : Nat, j ≤ 2 ∧ i = .int .i64 j ∧ Below w.heap.size w w' ∧ Bld (w.heap.size + 1) (Fr.upto F (2 * m + j)) w' ∧ Hid (∀ x, x < 2 * m + j → (F x).may = true)) (fun i _ => 2 - (intOf i).toNat)
   case atStart => exact ⟨0, by omega, rfl, hb.alloc hb.size _, hbld.alloc _, fun x hx => hall.out x (by omega)⟩
   case round =>
    clear hb hall kix hbld
    obtain ⟨j, hj, rfl, hb, hbld, hall⟩ := hrel
    by_cases hjl : j < 2
    ·have kj := ix25 F m j hjl
     rw [hp, hq] at kj
     generalize he : F (2 * m + j) = e at kj
     have hs : e.vals.toArray.size = 6 := rfl
     rename_i wi _ _
     go_wp2_with (first | refine store_new rfl 40 _ _ rfl rfl rfl (by rw [hs]; exact size24) (by rw [hs]; rfl) e.one ?_ | refine load_blk rfl 40 _ rfl (blk_new _ e.vals.toArray 40) rfl Tryz.underlying40 rfl (by rw [hs]; exact size24) ?_)
     cases hmay : e.may
     ·refine (enEncode_no e hmay _).mono ?_
      rintro r w2 ⟨rfl, hb2⟩
      have hb3 := (hb.alloc hb.size (.cells e.vals.toArray 40)).trans (hb2.mono (Nat.le_trans hb.size (by simp)))
      clear hb hb2 hbld
      have hno : Fr.may F = false := by
       cases hc : Fr.may F
       ·rfl
       ·have := (Fr.may_all F).1 hc (2 * m + j) (by omega)
        rw [he, hmay] at this
        cases this
      go_wp2_with fail
      go_ret2
      exact ⟨by rw [← hc.out, hno]; rfl, hb3⟩
     ·refine (enEncode_ok e hmay _).mono ?_
      rintro r w2 ⟨rfl, hb2⟩
      have hb3 := (hb.alloc hb.size (.cells e.vals.toArray 40)).trans (hb2.mono (Nat.le_trans hb.size (by simp)))
      have hbld2 := Bld.below (hbld.alloc (.cells e.vals.toArray 40)) hb2
      clear hb hb2 hbld
      have hlen : (Fr.upto F (2 * m + j)).length + e.bytes.size ≤ 140737488355328 := by
       rw [Fr.upto_length, e.bytes_size]; omega
      go_wp2_with fail
      refine (write_ok (w.heap.size + 1) (Fr.upto F (2 * m + j)) e.bytes _ hbld2 hlen).mono ?_
      rintro r w3 ⟨rfl, hbld3, hb4, _⟩
      have hb5 := hb3.trans (hb4.mono (by omega))
      clear hb3 hb4 hbld2 hlen
      go_wp2_with fail
      refine ⟨⟨j + 1, by omega, by go_num, hb5, ?_, fun x hx => ?_⟩, by simp [intOf]; omega⟩
      ·have hu : Fr.upto F (2 * m + (j + 1)) = Fr.upto F (2 * m + j) ++ e.bytes.data.toList := by rw [← he]; rfl
       rw [hu]; exact hbld3
      ·rcases Nat.lt_or_ge x (2 * m + j) with h | h
       ·exact hall.out x h
       ·obtain rfl : x = 2 * m + j := by omega
        rw [he]; exact hmay
    ·obtain rfl : j = 2 := by omega
     go_wp2_with fail
     refine ⟨⟨m + 1, by omega, by go_num, hb, hbld, fun x hx => hall.out x (by omega)⟩, by simp [intOf]; omega⟩
  ·obtain rfl : m = 3 := by omega
   have hyes : Fr.may F = true := (Fr.may_all F).2 fun x hx => hall.out x (by omega)
   rename_i wr _ _
   go_wp2_with fail
   refine (Tryz.Builder_String_any_k (w.heap.size + 1) (w.heap.size + 1) (Fr.upto F 6) _ hbld (Nat.le_of_lt ?_)).mono ?_
   ·rcases hbld with h | h
    ·exact h.lt
    ·exact h.lt
   rintro r w2 ⟨rfl, _, hb2, _⟩
   have hb3 := hb.trans (hb2.mono (by omega))
   go_wp2_with fail
   go_ret2
   exact ⟨by rw [← hc.out, hyes]; rfl, hb3⟩
end Go.Proofs.YthgfpdidilolgaaGreat.Eld
namespace Go.Proofs.YthgfpdidilolgaaGreat.Eld
set_option maxRecDepth 10000
open Go.RowKit Go.Sort
theorem others_below {e : TypeId} {b : Option Nat} {w w' : World} (h : Below w.heap.size w w') : Lib.OthersKept e b w w' := by
 intro k o hk _ _
 have hlt : k < w.heap.size := by
  rcases Nat.lt_or_ge k w.heap.size with h' | h'
  ·exact h'
  ·simp [Array.getElem?_eq_none h'] at hk
 rw [h.block k hlt]; exact hk
theorem Wr.below {b : Nat} {l : List UInt8} {w w' : World} (h : Wr b l w) (hb : Below w.heap.size w w') : Wr b l w' := by
 have one : ∀ p, Lib.BuilderAtF 225 5 b b p (Lib.byteCells l) w → Lib.BuilderAtF 225 5 b b p (Lib.byteCells l) w' := by
  intro p hp
  have hlt := hp.lt
  obtain ⟨hB, v, hblk, ⟨hlen, hown⟩, hne⟩ := hp
  refine ⟨hB, v, (hb.block b hlt).trans hblk, ⟨hlen, ?_⟩, hne⟩
  rcases hown with h1 | ⟨g, cap, cur, fz, hv, hbase, hg, hrest⟩
  ·exact .inl h1
  ·have hgl : g < w.heap.size := by
    rcases Nat.lt_or_ge g w.heap.size with h' | h'
    ·exact h'
    ·simp [Array.getElem?_eq_none h'] at hg
   exact .inr ⟨g, cap, cur, fz, hv, hbase, (hb.block g hgl).trans hg, hrest⟩
 rcases h with h | h
 ·exact .inl (one _ h)
 ·exact .inr (one _ h)
def Wrote (b : Nat) (l : List UInt8) (w w' : World) : Prop := Wr b l w' ∧ Below b w w' ∧ Lib.OthersKept 5 (some b) w w'
theorem Blk.others {A b : Nat} {C : Array Value} {T : TypeId} {w w' : World} (h : Blk A C T w) (hk : Lib.OthersKept 5 (some b) w w') (hne : A ≠ b) (hT : T ≠ 5) : Blk A C T w' :=
 hk A _ h (fun e => hne (Option.some.inj e)) (fun c fz e => hT (by cases e; rfl))
theorem Wrote.after {b : Nat} {l : List UInt8} {u w w' : World} (h : Wrote b l w w') (hb : Below u.heap.size u w) (hlt : b ≤ u.heap.size) : Wrote b l u w' :=
 ⟨h.1, (hb.mono hlt).trans h.2.1, (others_below hb).trans h.2.2⟩
theorem Wrote.trans {b : Nat} {l m : List UInt8} {u w w' : World} (h : Wrote b l u w) (k : Wrote b m w w') : Wrote b m u w' :=
 ⟨k.1, h.2.1.trans k.2.1, h.2.2.trans k.2.2⟩
def nums (k : Nat) (L : List Nat) : List UInt8 := L.flatMap (Pack.digits k)
theorem nums_snoc (k : Nat) (L : List Nat) (x : Nat) : nums k (L ++ [x]) = nums k L ++ Pack.digits k x := by simp [nums]
theorem nums_length (k : Nat) (L : List Nat) : (nums k L).length = k * L.length := by
 induction L with
 | nil => simp [nums]
 | cons x L ih =>
  show (Pack.digits k x ++ nums k L).length = _
  rw [List.length_append, ih, Pack.digits_length, List.length_cons, Nat.mul_succ]; omega
set_option maxHeartbeats 2000000 in
theorem numbers_ok (b k : Nat) (h1 : 1 ≤ k) (h8 : k ≤ 8) (l : List UInt8) (B o cap : Nat) (C : Array Value) (T : TypeId) (L : List Nat) (w : World) (hW : Wr b l w) (hB : Blk B C T w) (hne : B ≠ b) (hT : T ≠ 5)
  (hL : ∀ (i x : Nat), L[i]? = some x → x < 4294967296 ∧ C[o + i]? = some (.int .u32 (x : Int))) (hll : l.length + k * L.length ≤ 140737488351232) :
  Calls Tryz.prog 177 #[.pointer (some ⟨b, 0, none⟩), .int .i64 (k : Int), .slice (some ⟨B, o, none⟩) L.length cap] w fun e w' => e = .returned (.tuple #[]) ∧ Wrote b (l ++ nums k L) w w' := by
 have hlen8 : L.length ≤ 140737488351232 := by
  have : L.length ≤ k * L.length := Nat.le_mul_of_pos_left _ h1
  omega
 have hbw := hW.lt
 go_enter Tryz.func177, Tryz.ntmps177
 go_wp2_with fail
 go_loopw [10] (fun i w' => ∃ m : Nat, m ≤ L.length ∧ i = .int .i64 m ∧ Hid (Wrote b (l ++ nums k (L.take m)) w w' ∧ Blk B C T w')) (fun i _ => L.length - (intOf i).toNat)
 case atStart => exact ⟨0, by omega, rfl, ⟨by simpa [nums] using hW, Below.refl _ _, .refl _ _ _⟩, hB⟩
 case round =>
  obtain ⟨m, hm, rfl, hrel⟩ := hrel
  obtain ⟨hwr, hB2⟩ := hrel.out
  by_cases hlt : m < L.length
  ·obtain ⟨hx, hc⟩ := hL m L[m] (List.getElem?_eq_getElem hlt)
   have hcell := hB2.cell (o + m) _ hc
   have hput := fun w => put_ok L[m] k h1 h8 w
   have hnext : nums k (L.take (m + 1)) = nums k (L.take m) ++ Pack.digits k L[m] := by
    rw [List.take_succ_eq_append_getElem hlt, nums_snoc]
   have hsz : (l ++ nums k (L.take m)).length + (Pack.putB L[m] k).size ≤ 140737488355328 := by
    rw [Pack.putB_size, List.length_append, nums_length, List.length_take, Nat.min_eq_left (by omega)]
    have h3 : k * (m + 1) ≤ k * L.length := Nat.mul_le_mul_left _ hlt
    rw [Nat.mul_succ] at h3
    omega
   have hdat : (Pack.putB L[m] k).data.toList = Pack.digits k L[m] := rfl
   generalize hxe : L[m] = x at *
   generalize Pack.putB x k = ps at *
   have hwrap : IntKind.u64.wrap (x : Int) = (x : Int) := by rw [IntKind.wrap_u64]; omega
   have HL : Hid (L.length ≤ 140737488351232) := hlen8
   have HS : Hid ((l ++ nums k (L.take m)).length + ps.size ≤ 140737488355328) := hsz
   have HD : Hid (ps.data.toList = Pack.digits k x) := hdat
   have HN : Hid (nums k (L.take (m + 1)) = nums k (L.take m) ++ Pack.digits k x) := hnext
   have HW : Hid (Wrote b (l ++ nums k (L.take m)) w wr) := hwr
   clear hL hc hll hlen8 hrel hsz hx hdat hnext hwr hW hB hbw
   go_wp2_with fail
   refine wp_region_held_drew (S := fun _ => True) (by kernel_rfl) trivial (fun hHeld => ?_)
   refine wpAnyH_take (i := 0) (v := ?v0) rfl (by kernel_rfl) (by kernel_rfl) (by kernel_rfl) (fun _ _ _ h => h) (Or.inl ⟨by rfl, ?hy0⟩) hHeld ?_
   case hy0 => (intro w hSw; clear hSw; go_simp; try with_reducible rfl)
   try simp only [List.getElem_toArray]
   try simp only [List.getElem_cons_succ]
   try simp only [List.getElem_cons_zero]
   try simp only [Act.put]
   try simp only [List.setIfInBounds_toArray]
   try simp only [List.set_cons_succ]
   try simp only [List.set_cons_zero]
   refine wpAnyH_take (i := 1) (v := ?v1) rfl (by kernel_rfl) (by kernel_rfl) (by kernel_rfl) (fun _ _ _ h => h) (Or.inl ⟨by rfl, ?hy1⟩) hHeld ?_
   case hy1 => (intro w hSw; clear hSw; go_simp; try with_reducible rfl)
   try simp only [List.getElem_toArray]
   try simp only [List.getElem_cons_succ]
   try simp only [List.getElem_cons_zero]
   try simp only [Act.put]
   try simp only [List.setIfInBounds_toArray]
   try simp only [List.set_cons_succ]
   try simp only [List.set_cons_zero]
   refine wpAnyH_take (i := 2) (v := ?v2) rfl (by kernel_rfl) (by kernel_rfl) (by kernel_rfl) (fun _ _ _ h => h) (Or.inl ⟨by rfl, ?hy2⟩) hHeld ?_
   case hy2 => (intro w hSw; clear hSw; go_simp; try with_reducible rfl)
   try simp only [List.getElem_toArray]
   try simp only [List.getElem_cons_succ]
   try simp only [List.getElem_cons_zero]
   try simp only [Act.put]
   try simp only [List.setIfInBounds_toArray]
   try simp only [List.set_cons_succ]
   try simp only [List.set_cons_zero]
   refine wpAnyH_take (i := 3) (v := ?v3) rfl (by kernel_rfl) (by kernel_rfl) (by kernel_rfl) (fun _ _ _ h => h) (Or.inl ⟨by rfl, ?hy3⟩) hHeld ?_
   case hy3 => (intro w hSw; clear hSw; go_simp; try with_reducible rfl)
   try simp only [List.getElem_toArray]
   try simp only [List.getElem_cons_succ]
   try simp only [List.getElem_cons_zero]
   try simp only [Act.put]
   try simp only [List.setIfInBounds_toArray]
   try simp only [List.set_cons_succ]
   try simp only [List.set_cons_zero]
   refine wpAnyH_take (i := 4) (v := ?v4) rfl (by kernel_rfl) (by kernel_rfl) (by kernel_rfl) (fun _ _ _ h => h) (Or.inl ⟨by rfl, ?hy4⟩) hHeld ?_
   case hy4 => (intro w hSw; clear hSw; go_simp; try with_reducible rfl)
   try simp only [List.getElem_toArray]
   try simp only [List.getElem_cons_succ]
   try simp only [List.getElem_cons_zero]
   try simp only [Act.put]
   try simp only [List.setIfInBounds_toArray]
   try simp only [List.set_cons_succ]
   try simp only [List.set_cons_zero]
   refine wpAnyH_take (i := 5) (v := ?v5) rfl (by kernel_rfl) (by kernel_rfl) (by kernel_rfl) (fun _ _ _ h => h) (Or.inl ⟨by rfl, ?hy5⟩) hHeld ?_
   case hy5 => (intro w hSw; clear hSw; go_simp; try with_reducible rfl)
   try simp only [List.getElem_toArray]
   try simp only [List.getElem_cons_succ]
   try simp only [List.getElem_cons_zero]
   try simp only [Act.put]
   try simp only [List.setIfInBounds_toArray]
   try simp only [List.set_cons_succ]
   try simp only [List.set_cons_zero]
   refine wpAnyH_ready (rs := [6]) (by kernel_rfl) (by simp) ?_
   refine AllReadyH.cons rfl (fun K hK => ?_) AllReadyH.nil
   go_simp
   go_wp2_with (refine (hput _).mono ?_; rintro r w6 ⟨rfl, hb1⟩)
   refine hK.out _ _ trivial (fun hHeld => ?_)
   clear hK K
   have hb2 : Below wr.heap.size wr w6 := (Below.drew (Below.refl _ wr)).trans hb1
   have hw1 : Wr b (l ++ nums k (L.take m)) w6 := Wr.below HW.out.1 hb2
   clear hb1 hput
   refine wpAnyH_ready (rs := [7]) (by kernel_rfl) (by simp) ?_
   refine AllReadyH.cons rfl (fun K hK => ?_) AllReadyH.nil
   go_simp
   go_wp2_with (refine (wwrite_ok b _ ps _ hw1 HS.out).mono ?_; rintro r w7 ⟨rfl, hw3⟩)
   refine hK.out _ _ trivial (fun hHeld => ?_)
   clear hK K
   refine wpAnyH_done (by kernel_rfl) ?_ _
   have hl8 := HL.out
   go_wp2_with fail
   have hgo : Wrote b (l ++ nums k (L.take m) ++ ps.data.toList) wr w7 := Wrote.after hw3 hb2 (Nat.le_of_lt HW.out.1.lt)
   rw [HD.out, List.append_assoc, ← HN.out] at hgo
   have hgo2 := HW.out.trans hgo
   have hB3 := hB2.others hgo.2.2 hne hT
   clear hgo HW hw3 HD HS HN hB2 hw1 hb2
   have hm1 : m + 1 ≤ L.length := hlt
   refine ⟨⟨m + 1, hm1, by go_num, hgo2, hB3⟩, ?_⟩
   simp [intOf]; omega
  ·obtain rfl : m = L.length := by omega
   rw [List.take_length] at hwr
   go_wp2_with fail
   go_end0
   exact ⟨rfl, hwr⟩
end Go.Proofs.YthgfpdidilolgaaGreat.Eld
namespace Go.Proofs.YthgfpdidilolgaaGreat.Eld
set_option maxRecDepth 10000
open Go.RowKit Go.Sort
theorem number_ok (b k : Nat) (h1 : 1 ≤ k) (h8 : k ≤ 8) (l : List UInt8) (x : Nat) (hx : x < 4294967296) (T : TypeId) (w : World) (hW : Wr b l w) (hT : T ≠ 5) (hll : l.length + 8 ≤ 140737488351232) :
  Calls Tryz.prog 177 #[.pointer (some ⟨b, 0, none⟩), .int .i64 (k : Int), .slice (some ⟨w.heap.size, 0, none⟩) 1 1] (w.alloc (.cells #[.int .u32 (x : Int)] T)) fun e w' => e = .returned (.tuple #[]) ∧ Wrote b (l ++ Pack.digits k x) w w' := by
 have hb0 := below_box w (.cells #[.int .u32 (x : Int)] T)
 have hlt := hW.lt
 have h := numbers_ok b k h1 h8 l w.heap.size 0 1 #[.int .u32 (x : Int)] T [x] (w.alloc (.cells #[.int .u32 (x : Int)] T)) (hW.below hb0) (blk_new w _ T) (by omega) hT
  (fun i y hy => by
   match i, hy with
   | 0, hy => cases hy; exact ⟨hx, rfl⟩
   | i + 1, hy => simp at hy) (by simp; omega)
 refine h.mono ?_
 rintro e w' ⟨rfl, hw⟩
 refine ⟨rfl, ?_⟩
 have e1 : nums k [x] = Pack.digits k x := by simp [nums]
 rw [e1] at hw
 exact hw.after hb0 (by omega)
def idb (a b c : Nat) : List UInt8 := Pack.digits 4 a ++ (Pack.digits 1 b ++ Pack.digits 4 c)
theorem number1_ok (b : Nat) (l : List UInt8) (x : Nat) (hx : x < 4294967296) (w : World) (hW : Wr b l w) (hll : l.length ≤ 1000) :
  Calls Tryz.prog 177 #[.pointer (some ⟨b, 0, none⟩), .int .i64 1, .slice (some ⟨w.heap.size, 0, none⟩) 1 1] (w.alloc (.cells #[.int .u32 (x : Int)] 37)) fun e w' => e = .returned (.tuple #[]) ∧ Wrote b (l ++ Pack.digits 1 x) w w' :=
 number_ok b 1 (by decide) (by decide) l x hx 37 w hW (by decide) (by omega)
theorem number4_ok (b : Nat) (l : List UInt8) (x : Nat) (hx : x < 4294967296) (w : World) (hW : Wr b l w) (hll : l.length ≤ 1000) :
  Calls Tryz.prog 177 #[.pointer (some ⟨b, 0, none⟩), .int .i64 4, .slice (some ⟨w.heap.size, 0, none⟩) 1 1] (w.alloc (.cells #[.int .u32 (x : Int)] 37)) fun e w' => e = .returned (.tuple #[]) ∧ Wrote b (l ++ Pack.digits 4 x) w w' :=
 number_ok b 4 (by decide) (by decide) l x hx 37 w hW (by decide) (by omega)
theorem two_ok (b : Nat) (l : List UInt8) (x y : Nat) (hx : x < 4294967296) (hy : y < 4294967296) (w : World) (hW : Wr b l w) (hll : l.length ≤ 1000) :
  Calls Tryz.prog 177 #[.pointer (some ⟨b, 0, none⟩), .int .i64 4, .slice (some ⟨w.heap.size, 0, none⟩) 2 2] (w.alloc (.cells #[.int .u32 (x : Int), .int .u32 (y : Int)] 37)) fun e w' => e = .returned (.tuple #[]) ∧ Wrote b (l ++ (Pack.digits 4 x ++ Pack.digits 4 y)) w w' := by
 have hb0 := below_box w (.cells #[.int .u32 (x : Int), .int .u32 (y : Int)] 37)
 have hlt := hW.lt
 have h := numbers_ok b 4 (by decide) (by decide) l w.heap.size 0 2 #[.int .u32 (x : Int), .int .u32 (y : Int)] 37 [x, y] (w.alloc (.cells #[.int .u32 (x : Int), .int .u32 (y : Int)] 37)) (hW.below hb0) (blk_new w _ _) (by omega) (by decide)
  (fun i z hz => by
   match i, hz with
   | 0, hz => cases hz; exact ⟨hx, rfl⟩
   | 1, hz => cases hz; exact ⟨hy, rfl⟩
   | i + 2, hz => simp at hz) (by simp; omega)
 refine h.mono ?_
 rintro e w' ⟨rfl, hw⟩
 have e1 : nums 4 [x, y] = Pack.digits 4 x ++ Pack.digits 4 y := by simp [nums]
 rw [e1] at hw
 exact ⟨rfl, hw.after hb0 (by omega)⟩
def rown (f : Nat → Nat) (o : Nat) : List Nat := [f o, f (o + 1), f (o + 2), f (o + 3), f (o + 4), f (o + 5), f (o + 6), f (o + 7)]
theorem row_ok (b : Nat) (l : List UInt8) (p : Pk) (hn : ∀ i, p.n i < 4294967296) (A o : Nat) (hoo : o = 5 ∨ o = 13 ∨ o = 24) (w : World) (hW : Wr b l w) (hB : Blk A (pkc p) 116 w) (hne : A ≠ b) (hll : l.length ≤ 1000) :
  Calls Tryz.prog 177 #[.pointer (some ⟨b, 0, none⟩), .int .i64 4, .slice (some ⟨A, o, none⟩) 8 8] w fun e w' => e = .returned (.tuple #[]) ∧ Wrote b (l ++ nums 4 (rown p.n o)) w w' := by
 refine numbers_ok b 4 (by decide) (by decide) l A o 8 (pkc p) 116 (rown p.n o) w hW hB hne (by decide) (fun i x hx => ?_) (by show _ + 4 * 8 ≤ _; omega)
 have hi : i < 8 := (List.getElem?_eq_some_iff.1 hx).1
 have hxe : x = p.n (o + i) := by
  obtain rfl | rfl | rfl | rfl | rfl | rfl | rfl | rfl : i = 0 ∨ i = 1 ∨ i = 2 ∨ i = 3 ∨ i = 4 ∨ i = 5 ∨ i = 6 ∨ i = 7 := by omega
  all_goals exact (Option.some.inj hx).symm
 subst hxe
 refine ⟨hn _, ?_⟩
 obtain rfl | rfl | rfl := hoo
 all_goals (obtain rfl | rfl | rfl | rfl | rfl | rfl | rfl | rfl : i = 0 ∨ i = 1 ∨ i = 2 ∨ i = 3 ∨ i = 4 ∨ i = 5 ∨ i = 6 ∨ i = 7 := by omega)
 all_goals rfl
set_option maxHeartbeats 1000000 in
theorem id_ok (b : Nat) (l0 : List UInt8) (x y z : Nat) (hx : x < 4294967296) (hy : y < 4294967296) (hz : z < 4294967296) (w : World) (hW : Wr b l0 w) (hll : l0.length ≤ 900) :
  Calls Tryz.prog 178 #[.pointer (some ⟨b, 0, none⟩), .agg (idc x y z)] w fun e w' => e = .returned (.tuple #[]) ∧ Wrote b (l0 ++ idb x y z) w w' := by
 obtain ⟨w0, hw0⟩ : ∃ w0, w.alloc (.cells (idc x y z) 51) = w0 := ⟨_, rfl⟩
 have hB0 : Blk w.heap.size (idc x y z) 51 w0 := by rw [← hw0]; exact blk_new w _ _
 have hb0 : Below w.heap.size w w0 := by rw [← hw0]; exact below_box _ _
 have W0 := hW.below hb0
 have hlt := hW.lt
 have t0 : Wrote b l0 w w0 := ⟨W0, hb0.mono (by omega), others_below hb0⟩
 obtain ⟨cc, n0⟩ : ∃ cc, l0.length = cc := ⟨_, rfl⟩
 rw [n0] at hll
 have c0 := hB0.cell 0 (.int .u32 (x : Int)) rfl
 clear hW
 go_enter Tryz.func178, Tryz.ntmps178
 go_wp2_with fail
 refine (number4_ok b l0 x hx w0 W0 (by omega)).mono ?_
 rintro e w1 ⟨rfl, h1⟩
 obtain ⟨l1, e1⟩ : ∃ zz, Hid (l0 ++ Pack.digits 4 x = zz) := ⟨_, rfl⟩
 rw [e1.out] at h1
 have n1 : l1.length = cc + 4 := by rw [← e1.out, List.length_append, n0]; rw [Pack.digits_length]
 have W1 := h1.1
 have hB1 := hB0.others h1.2.2 (by omega) (by decide)
 have t1 := t0.trans h1
 clear W0 h1 hB0 t0
 have c1 := hB1.cell 1 (.int .u32 (y : Int)) rfl
 go_wp2_with fail
 refine (number1_ok b l1 y hy w1 W1 (by omega)).mono ?_
 rintro e w2 ⟨rfl, h2⟩
 obtain ⟨l2, e2⟩ : ∃ zz, Hid (l1 ++ Pack.digits 1 y = zz) := ⟨_, rfl⟩
 rw [e2.out] at h2
 have n2 : l2.length = cc + 5 := by rw [← e2.out, List.length_append, n1]; rw [Pack.digits_length]
 have W2 := h2.1
 have hB2 := hB1.others h2.2.2 (by omega) (by decide)
 have t2 := t1.trans h2
 clear W1 h2 hB1 t1
 have c2 := hB2.cell 2 (.int .u32 (z : Int)) rfl
 go_wp2_with fail
 refine (number4_ok b l2 z hz w2 W2 (by omega)).mono ?_
 rintro e w3 ⟨rfl, h3⟩
 obtain ⟨l3, e3⟩ : ∃ zz, Hid (l2 ++ Pack.digits 4 z = zz) := ⟨_, rfl⟩
 rw [e3.out] at h3
 have n3 : l3.length = cc + 9 := by rw [← e3.out, List.length_append, n2]; rw [Pack.digits_length]
 have W3 := h3.1
 have hB3 := hB2.others h3.2.2 (by omega) (by decide)
 have t3 := t2.trans h3
 clear W2 h3 hB2 t2
 go_wp2_with fail
 go_end0
 refine ⟨rfl, ?_⟩
 have : l0 ++ idb x y z = l3 := by rw [← e3.out, ← e2.out, ← e1.out]; simp [idb, List.append_assoc]
 rw [this]
 exact t3
theorem flag_ok (b : Nat) (l : List UInt8) (r : Bool) (w : World) (hW : Wr b l w) (hll : l.length ≤ 1000) :
  Calls Tryz.prog 179 #[.pointer (some ⟨b, 0, none⟩), .bool r] w fun e w' => e = .returned (.tuple #[]) ∧ Wrote b (l ++ Pack.digits 1 (if r then 1 else 0)) w w' := by
 cases r
 ·go_enter Tryz.func179, Tryz.ntmps179
  go_wp2_with fail
  refine (number1_ok b l 0 (by omega) w hW hll).mono ?_
  rintro e w1 ⟨rfl, h1⟩
  go_wp2_with fail
  go_end0
  exact ⟨rfl, h1⟩
 ·go_enter Tryz.func179, Tryz.ntmps179
  go_wp2_with fail
  refine (number1_ok b l 1 (by omega) w hW hll).mono ?_
  rintro e w1 ⟨rfl, h1⟩
  go_wp2_with fail
  go_end0
  exact ⟨rfl, h1⟩
set_option maxHeartbeats 1000000 in
theorem wframe_ok (b : Nat) (l : List UInt8) (F : Nat → En) (hm : Fr.may F = true) (w : World) (hW : Wr b l w) (hll : l.length ≤ 1000) :
  Calls Tryz.prog 180 #[.pointer (some ⟨b, 0, none⟩), .agg (frc F)] w fun e w' => e = .returned (.tuple #[]) ∧ Wrote b (l ++ (Fr.bytes F).data.toList) w w' := by
 have henc := fun w => frEncode F w
 rw [hm, if_pos rfl] at henc
 have hz : l.length + (Fr.bytes F).size ≤ 140737488355328 := by rw [Fr.bytes_size]; omega
 have HZ : Hid (l.length + (Fr.bytes F).size ≤ 140737488355328) := hz
 clear hz hll hm
 generalize Fr.bytes F = bs at henc HZ ⊢
 have hB := blk_new w (frc F) 43
 have hb0 := below_box w (.cells (frc F) 43)
 go_enter Tryz.func180, Tryz.ntmps180
 go_wp2_with (refine load_blk rfl 43 _ rfl hB rfl Tryz.underlying43 rfl (by rw [frc_size]; exact size27) ?_)
 refine (henc _).mono ?_
 rintro r w1 ⟨rfl, hb1⟩
 have hb2 := hb0.trans (hb1.mono hb0.size)
 have W1 := hW.below hb2
 have hlt := hW.lt
 clear henc hb1 hb0 hB hW
 go_wp2_with fail
 refine (wwrite_ok b l bs _ W1 HZ.out).mono ?_
 rintro r w2 ⟨rfl, h2⟩
 have h3 : Wrote b (l ++ bs.data.toList) w1 w2 := h2
 have h4 := h3.after hb2 (by omega)
 go_wp2_with fail
 go_end0
 exact ⟨rfl, h4⟩
def rawb (n : Nat → Nat) (t : Nat) (a b c : List UInt8) : List UInt8 :=
 Pack.digits 1 (n 0) ++ (Pack.digits 4 (n 1) ++ (idb (n 2) (n 3) (n 4) ++ (nums 4 (rown n 5) ++ (nums 4 (rown n 13) ++ (idb (n 21) (n 22) (n 23) ++ (nums 4 (rown n 24) ++ (Pack.digits 1 t ++ (Pack.digits 4 (n 33) ++ (Pack.digits 4 (n 34) ++ (a ++ (b ++ (Pack.digits 1 (n 107) ++ (Pack.digits 4 (n 108) ++ c)))))))))))))
def Pk.body (p : Pk) : List UInt8 := rawb p.n (if p.r then 1 else 0) (Fr.bytes p.f0).data.toList (Fr.bytes p.f1).data.toList (Fr.bytes p.f2).data.toList
theorem idb_length (a b c : Nat) : (idb a b c).length = 9 := by simp [idb, Pack.digits_length]
theorem rown_length (f : Nat → Nat) (o : Nat) : (nums 4 (rown f o)).length = 32 := by rw [nums_length]; rfl
theorem frb_length (F : Nat → En) : (Fr.bytes F).data.toList.length = 168 := by rw [Array.length_toList]; exact Fr.bytes_size F
theorem slice_row (A o : Nat) (w : World) : (Instr.sliceAt 55 (.pointer (some ⟨A, o, none⟩)) none none none).run Tryz.prog w = .ok (.slice (some ⟨A, o, none⟩) 8 8) w := by
 simp [go_sem]
theorem slice_cnt (A o : Nat) (w : World) : (Instr.sliceAt 60 (.pointer (some ⟨A, o, none⟩)) none none none).run Tryz.prog w = .ok (.slice (some ⟨A, o, none⟩) 8 8) w := by
 simp [go_sem]
set_option maxHeartbeats 4000000 in
theorem lay_pk (p : Pk) (hm0 : Fr.may p.f0 = true) (hm1 : Fr.may p.f1 = true) (hm2 : Fr.may p.f2 = true) (hn : ∀ i, p.n i < 4294967296) (w : World) :
  Calls Tryz.prog 142 #[.agg (pkc p)] w fun e w' => e = .returned (.string ⟨p.body.toArray⟩) ∧ Below w.heap.size w w' := by
 obtain ⟨q, hq⟩ : ∃ q, Hid (p.body = q) := ⟨_, rfl⟩
 rw [hq.out]
 obtain ⟨b, hb⟩ : ∃ b, b = w.heap.size + 1 := ⟨_, rfl⟩
 obtain ⟨w0, hw0⟩ : ∃ w0, (w.alloc (.cells (pkc p) 116)).alloc (.cells #[.pointer none, .slice none 0 0] 225) = w0 := ⟨_, rfl⟩
 have B0 : Blk w.heap.size (pkc p) 116 w0 := by rw [← hw0]; exact (blk_new w _ _).alloc _
 have W0 : Wr b [] w0 := by
  have h := wr_new (w.alloc (.cells (pkc p) 116))
  have hz : (w.alloc (.cells (pkc p) 116)).heap.size = w.heap.size + 1 := by simp
  rw [hz, hw0, ← hb] at h; exact h
 have bel0 : Below w.heap.size w w0 := by rw [← hw0]; exact (below_box w _).alloc (by simp) _
 have t0 : Wrote b [] w0 w0 := ⟨W0, .refl _ _, .refl _ _ _⟩
 obtain ⟨l0, e0⟩ : ∃ z : List UInt8, Hid ([] = z) := ⟨_, rfl⟩
 rw [e0.out] at W0 t0
 have n0 : l0.length = 0 := by rw [← e0.out]; rfl
 have hne : w.heap.size ≠ b := by omega
 have kb : Hid (b = w.heap.size + 1) := hb
 have kn : Hid (∀ i, p.n i < 4294967296) := hn
 have c0 := B0.cell 0 (.int .u32 (p.n 0 : Int)) rfl
 have hz1 : (w.alloc (.cells (pkc p) 116)).heap.size = b := by rw [hb]; simp
 have a7 : ∀ W : World, W.alloc (.cells #[.pointer none, .slice none 0 0] 225) = W.alloc (.cells #[.pointer none, .slice none 0 0] 225) := fun _ => rfl
 clear hb hn a7
 go_enter Tryz.func142, Tryz.ntmps142
 go_wp2_with fail
 have hz2 : w.heap.size + 1 = b := kb.out.symm
 try rw [hz2]
 refine (number1_ok b l0 (p.n 0) (kn.out _) w0 W0 (by omega)).mono ?_
 rintro e w1 ⟨rfl, h1⟩
 obtain ⟨l1, e1⟩ : ∃ zz, Hid (l0 ++ Pack.digits 1 (p.n 0) = zz) := ⟨_, rfl⟩
 rw [e1.out] at h1
 have n1 : l1.length = 1 := by rw [← e1.out, List.length_append, n0]; rw [Pack.digits_length]
 have W1 := h1.1
 have B1 := B0.others h1.2.2 (hne) (by decide)
 have t1 := t0.trans h1
 clear W0 h1 B0 t0
 clear c0
 have c1 := B1.cell 1 (.int .u32 (p.n 1 : Int)) rfl
 go_wp2_with fail
 refine (number4_ok b l1 (p.n 1) (kn.out _) w1 W1 (by omega)).mono ?_
 rintro e w2 ⟨rfl, h2⟩
 obtain ⟨l2, e2⟩ : ∃ zz, Hid (l1 ++ Pack.digits 4 (p.n 1) = zz) := ⟨_, rfl⟩
 rw [e2.out] at h2
 have n2 : l2.length = 5 := by rw [← e2.out, List.length_append, n1]; rw [Pack.digits_length]
 have W2 := h2.1
 have B2 := B1.others h2.2.2 (hne) (by decide)
 have t2 := t1.trans h2
 clear W1 h2 B1 t1
 clear c1
 go_wp2_with (refine load_part rfl 51 _ rfl B2 rfl (idl (p.n 2) (p.n 3) (p.n 4)) (part_id2 p) Tryz.underlying51 rfl sizeId ?_)
 refine (id_ok b l2 (p.n 2) (p.n 3) (p.n 4) (kn.out _) (kn.out _) (kn.out _) w2 W2 (by omega)).mono ?_
 rintro e w3 ⟨rfl, h3⟩
 obtain ⟨l3, e3⟩ : ∃ zz, Hid (l2 ++ idb (p.n 2) (p.n 3) (p.n 4) = zz) := ⟨_, rfl⟩
 rw [e3.out] at h3
 have n3 : l3.length = 14 := by rw [← e3.out, List.length_append, n2]; rw [idb_length]
 have W3 := h3.1
 have B3 := B2.others h3.2.2 (hne) (by decide)
 have t3 := t2.trans h3
 clear W2 h3 B2 t2
 have c3 := slice_row w.heap.size 5
 go_wp2_with fail
 refine (row_ok b l3 p kn.out w.heap.size 5 (by decide) w3 W3 B3 hne (by omega)).mono ?_
 rintro e w4 ⟨rfl, h4⟩
 obtain ⟨l4, e4⟩ : ∃ zz, Hid (l3 ++ nums 4 (rown p.n 5) = zz) := ⟨_, rfl⟩
 rw [e4.out] at h4
 have n4 : l4.length = 46 := by rw [← e4.out, List.length_append, n3]; rw [rown_length]
 have W4 := h4.1
 have B4 := B3.others h4.2.2 (hne) (by decide)
 have t4 := t3.trans h4
 clear W3 h4 B3 t3
 clear c3
 have c4 := slice_cnt w.heap.size 13
 go_wp2_with fail
 refine (row_ok b l4 p kn.out w.heap.size 13 (by decide) w4 W4 B4 hne (by omega)).mono ?_
 rintro e w5 ⟨rfl, h5⟩
 obtain ⟨l5, e5⟩ : ∃ zz, Hid (l4 ++ nums 4 (rown p.n 13) = zz) := ⟨_, rfl⟩
 rw [e5.out] at h5
 have n5 : l5.length = 78 := by rw [← e5.out, List.length_append, n4]; rw [rown_length]
 have W5 := h5.1
 have B5 := B4.others h5.2.2 (hne) (by decide)
 have t5 := t4.trans h5
 clear W4 h5 B4 t4
 clear c4
 go_wp2_with (refine load_part rfl 51 _ rfl B5 rfl (idl (p.n 21) (p.n 22) (p.n 23)) (part_id21 p) Tryz.underlying51 rfl sizeId ?_)
 refine (id_ok b l5 (p.n 21) (p.n 22) (p.n 23) (kn.out _) (kn.out _) (kn.out _) w5 W5 (by omega)).mono ?_
 rintro e w6 ⟨rfl, h6⟩
 obtain ⟨l6, e6⟩ : ∃ zz, Hid (l5 ++ idb (p.n 21) (p.n 22) (p.n 23) = zz) := ⟨_, rfl⟩
 rw [e6.out] at h6
 have n6 : l6.length = 87 := by rw [← e6.out, List.length_append, n5]; rw [idb_length]
 have W6 := h6.1
 have B6 := B5.others h6.2.2 (hne) (by decide)
 have t6 := t5.trans h6
 clear W5 h6 B5 t5
 have c6 := slice_row w.heap.size 24
 go_wp2_with fail
 refine (row_ok b l6 p kn.out w.heap.size 24 (by decide) w6 W6 B6 hne (by omega)).mono ?_
 rintro e w7 ⟨rfl, h7⟩
 obtain ⟨l7, e7⟩ : ∃ zz, Hid (l6 ++ nums 4 (rown p.n 24) = zz) := ⟨_, rfl⟩
 rw [e7.out] at h7
 have n7 : l7.length = 119 := by rw [← e7.out, List.length_append, n6]; rw [rown_length]
 have W7 := h7.1
 have B7 := B6.others h7.2.2 (hne) (by decide)
 have t7 := t6.trans h7
 clear W6 h7 B6 t6
 clear c6
 have c7 := B7.cell 32 (.bool p.r) rfl
 go_wp2_with fail
 refine (flag_ok b l7 p.r w7 W7 (by omega)).mono ?_
 rintro e w8 ⟨rfl, h8⟩
 obtain ⟨l8, e8⟩ : ∃ zz, Hid (l7 ++ Pack.digits 1 (if p.r then 1 else 0) = zz) := ⟨_, rfl⟩
 rw [e8.out] at h8
 have n8 : l8.length = 120 := by rw [← e8.out, List.length_append, n7]; rw [Pack.digits_length]
 have W8 := h8.1
 have B8 := B7.others h8.2.2 (hne) (by decide)
 have t8 := t7.trans h8
 clear W7 h8 B7 t7
 clear c7
 have c8 := B8.cell 33 (.int .u32 (p.n 33 : Int)) rfl
 have d8 := B8.cell 34 (.int .u32 (p.n 34 : Int)) rfl
 go_wp2_with fail
 refine (two_ok b l8 (p.n 33) (p.n 34) (kn.out _) (kn.out _) w8 W8 (by omega)).mono ?_
 rintro e w9 ⟨rfl, h9⟩
 obtain ⟨l9, e9⟩ : ∃ zz, Hid (l8 ++ (Pack.digits 4 (p.n 33) ++ Pack.digits 4 (p.n 34)) = zz) := ⟨_, rfl⟩
 rw [e9.out] at h9
 have n9 : l9.length = 128 := by rw [← e9.out, List.length_append, n8]; rw [List.length_append, Pack.digits_length, Pack.digits_length]
 have W9 := h9.1
 have B9 := B8.others h9.2.2 (hne) (by decide)
 have t9 := t8.trans h9
 clear W8 h9 B8 t8
 clear c8 d8
 go_wp2_with (refine load_part rfl 43 _ rfl B9 rfl (enCells (Fr.list p.f0)) (part_f0 p) Tryz.underlying43 rfl (by rw [frl_length]; exact size27) ?_)
 refine (wframe_ok b l9 p.f0 hm0 w9 W9 (by omega)).mono ?_
 rintro e w10 ⟨rfl, h10⟩
 obtain ⟨l10, e10⟩ : ∃ zz, Hid (l9 ++ (Fr.bytes p.f0).data.toList = zz) := ⟨_, rfl⟩
 rw [e10.out] at h10
 have n10 : l10.length = 296 := by rw [← e10.out, List.length_append, n9]; rw [frb_length]
 have W10 := h10.1
 have B10 := B9.others h10.2.2 (hne) (by decide)
 have t10 := t9.trans h10
 clear W9 h10 B9 t9
 go_wp2_with (refine load_part rfl 43 _ rfl B10 rfl (enCells (Fr.list p.f1)) (part_f1 p) Tryz.underlying43 rfl (by rw [frl_length]; exact size27) ?_)
 refine (wframe_ok b l10 p.f1 hm1 w10 W10 (by omega)).mono ?_
 rintro e w11 ⟨rfl, h11⟩
 obtain ⟨l11, e11⟩ : ∃ zz, Hid (l10 ++ (Fr.bytes p.f1).data.toList = zz) := ⟨_, rfl⟩
 rw [e11.out] at h11
 have n11 : l11.length = 464 := by rw [← e11.out, List.length_append, n10]; rw [frb_length]
 have W11 := h11.1
 have B11 := B10.others h11.2.2 (hne) (by decide)
 have t11 := t10.trans h11
 clear W10 h11 B10 t10
 have c11 := B11.cell 107 (.int .u32 (p.n 107 : Int)) rfl
 go_wp2_with fail
 refine (number1_ok b l11 (p.n 107) (kn.out _) w11 W11 (by omega)).mono ?_
 rintro e w12 ⟨rfl, h12⟩
 obtain ⟨l12, e12⟩ : ∃ zz, Hid (l11 ++ Pack.digits 1 (p.n 107) = zz) := ⟨_, rfl⟩
 rw [e12.out] at h12
 have n12 : l12.length = 465 := by rw [← e12.out, List.length_append, n11]; rw [Pack.digits_length]
 have W12 := h12.1
 have B12 := B11.others h12.2.2 (hne) (by decide)
 have t12 := t11.trans h12
 clear W11 h12 B11 t11
 clear c11
 have c12 := B12.cell 108 (.int .u32 (p.n 108 : Int)) rfl
 go_wp2_with fail
 refine (number4_ok b l12 (p.n 108) (kn.out _) w12 W12 (by omega)).mono ?_
 rintro e w13 ⟨rfl, h13⟩
 obtain ⟨l13, e13⟩ : ∃ zz, Hid (l12 ++ Pack.digits 4 (p.n 108) = zz) := ⟨_, rfl⟩
 rw [e13.out] at h13
 have n13 : l13.length = 469 := by rw [← e13.out, List.length_append, n12]; rw [Pack.digits_length]
 have W13 := h13.1
 have B13 := B12.others h13.2.2 (hne) (by decide)
 have t13 := t12.trans h13
 clear W12 h13 B12 t12
 clear c12
 go_wp2_with (refine load_part rfl 43 _ rfl B13 rfl (enCells (Fr.list p.f2)) (part_f2 p) Tryz.underlying43 rfl (by rw [frl_length]; exact size27) ?_)
 refine (wframe_ok b l13 p.f2 hm2 w13 W13 (by omega)).mono ?_
 rintro e w14 ⟨rfl, h14⟩
 obtain ⟨l14, e14⟩ : ∃ zz, Hid (l13 ++ (Fr.bytes p.f2).data.toList = zz) := ⟨_, rfl⟩
 rw [e14.out] at h14
 have n14 : l14.length = 637 := by rw [← e14.out, List.length_append, n13]; rw [frb_length]
 have W14 := h14.1
 have B14 := B13.others h14.2.2 (hne) (by decide)
 have t14 := t13.trans h14
 clear W13 h14 B13 t13
 have hq2 : Hid (l14 = q) := by
  unfold Hid
  rw [← hq.out, ← e14.out, ← e13.out, ← e12.out, ← e11.out, ← e10.out, ← e9.out, ← e8.out, ← e7.out, ← e6.out, ← e5.out, ← e4.out, ← e3.out, ← e2.out, ← e1.out, ← e0.out]
  simp only [Pk.body, rawb, List.append_assoc, List.nil_append]
 have hne0 : l14 ≠ [] := by
  intro h
  rw [h] at n14
  simp at n14
 have HN : Hid (l14 ≠ []) := hne0
 clear hne0
 go_wp2_with fail
 refine (wstring_ok b l14 _ W14 HN.out).mono ?_
 rintro r w15 ⟨rfl, hb15⟩
 go_wp2_with fail
 go_ret
 have hk := kb.out
 have hq3 := hq2.out
 subst hq3
 refine ⟨rfl, ?_⟩
 exact bel0.trans ((t14.2.1.trans hb15).mono (by omega))
end Go.Proofs.YthgfpdidilolgaaGreat.Eld
namespace Go.Proofs.YthgfpdidilolgaaGreat.Eld
set_option maxRecDepth 10000
open Go.RowKit Go.Sort
theorem load_want {ops : Array Oper} {rest : List Oper} {o : Oper} {a : Act} {w : World} {Q : Exit → Act → World → Prop} (hw : Region.wanted o (yielded ops a.tmps) = true) (ty : TypeId) (x : Operand) (ho : o.op = .load ty x)
  {B : Nat} {C : Array Value} {T : TypeId} (hB : Blk B C T w) (hx : a.eval x = .pointer (some ⟨B, 0, none⟩)) {d : TypeDesc} (hu : Tryz.prog.underlying ty = some d) (hd : d.isRow = true) (hi : (Tryz.prog.info? ty).map (·.size) = some C.size)
  (h : wpList Tryz.prog ops Q rest (a.put o.dst (.agg C)) w) : wpList Tryz.prog ops Q (o :: rest) a w :=
 wpList_step fun _ hK => by rw [if_pos hw]; exact wp_load_row ty x ho B hx T C (0, 0) d hB hu (by cases d <;> first | rfl | exact hd) hi (hK _ _ h)
end Go.Proofs.YthgfpdidilolgaaGreat.Eld
