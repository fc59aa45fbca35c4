/-
  A blank, or a byte, more or fewer, makes another call of a request, or none, never the same one: the law ParseStrict returns true for every input; its card.
  No condition beyond the form's own.
-/
import Derived.Test.YtiepdfngjfhadaaDoorRows
import Derived.Test.YtiepdfngjfhadaaDoorCards
import Derived.Test.YtiepdfngjfhadaaDoorTie
import Derived.Test.YtiepdfngjfhadaaDoorPaU
import Derived.Test.YtiepdfngjfhadaaDoorPaR
import Derived.WalkKit
import Derived.ProofKit
import Derived.OpenShut
import Derived.ShutString
import Derived.ChangeOld
import Derived.Below
import Derived.Lay
import Derived.Deep.DeepHandedRow
import Derived.Deep.DeepWitnessRowRef
import Derived.SevenTiedAt
namespace Go.Proofs.YtiepdfngjfhadaaDoor.parseStrict
open Go.Sort Go.ChangeShapes Go.WideShapes Go.ChangeAt Go.RowKit
open Go.ChangeMaps (open_string shut_string)
set_option linter.unusedVariables false
set_option linter.unusedSimpArgs false
set_option maxRecDepth 10000

theorem own : ownKnob Tryd.prog.godebug = none := by kernel_rfl

/- A slice of one byte, and the text that it turns into. -/
theorem bsByte (c : UInt8) (w : World) : (Instr.buildSlice 33 1 #[(0, .int .u8 (c.toNat : Int))]).run Tryd.prog w = .ok (.slice (some ⟨w.heap.size, 0, none⟩) 1 1) (w.alloc (.cells #[.int .u8 (c.toNat : Int)] 5)) := by kernel_rfl
theorem wp_byte {op : Oper} {a : Act} {w : World} {K : Act → World → Prop} {Q : Exit → Act → World → Prop} (x : Operand) (ho : op.op = .buildSlice 33 1 #[(0, x)]) (c : UInt8) (hx : a.eval x = .int .u8 (c.toNat : Int))
    (h : ∀ g W, Blk g #[.int .u8 (c.toNat : Int)] 5 W → Below w.heap.size w W → K (a.put op.dst (.slice (some ⟨g, 0, none⟩) 1 1)) W) : op.wp Tryd.prog a w K Q := by
  have hk := h _ _ (blk_new w #[.int .u8 (c.toNat : Int)] 5) (below_box w _)
  unfold Oper.wp execOp
  simp only [ho, List.map_toArray, List.map_cons, List.map_nil, hx, Sem.run_bind, Sem.run_pure, bsByte, Result.andThen_ok]
  exact hk
theorem byte_str {c : UInt8} {g : Nat} {w : World} (h : Blk g #[.int .u8 (c.toNat : Int)] 5 w) : (convert 33 9 (.slice (some ⟨g, 0, none⟩) 1 1)).run Tryd.prog w = .ok (.string (strB [c])) w :=
  run_convert_bytes_back (P := Tryd.prog) w 33 9 5 ⟨g, 0, none⟩ 1 [c] Tryd.underlying33 Tryd.underlying5 Tryd.underlying9 (fun j hj => by
    have : j = 0 := by simp at hj; omega
    subst this
    exact h.cell 0 _ rfl)
theorem wp_conv {op : Oper} {a : Act} {w : World} {K : Act → World → Prop} {Q : Exit → Act → World → Prop} {T U : TypeId} (x : Operand) (ho : op.op = .convert T U x) {v r : Value} (hx : a.eval x = v) (hr : (convert T U v).run Tryd.prog w = .ok r w) (h : K (a.put op.dst r) w) : op.wp Tryd.prog a w K Q := by
  unfold Oper.wp execOp
  simp only [ho, hx, Sem.run_bind, Sem.run_pure, hr, Result.andThen_ok]
  exact h
/- Two texts of unlike length are not the request of one call. -/
theorem unlike {s t : List UInt8} {a b : Ca} (ha : IsCall s (some a)) (hb : IsCall t (some b)) (h : s.length ≠ t.length) : Ca.same b a = false := by
  apply Ca.same_no
  rintro rfl
  exact h (congrArg List.length (ha.2.2.2.symm.trans hb.2.2.2))

set_option maxHeartbeats 64000000 in
theorem walk (s : ByteArray) (hs : s.size ≤ 140737488351232) (at_ : Int) (hat : -9223372036854775808 ≤ at_ ∧ at_ ≤ 9223372036854775807) (c : UInt8) (w : World) (hE : Te w) : Calls Tryd.prog 6 #[.string s, .int .i64 at_, .int .u8 (c.toNat : Int)] w fun e w' => e = .returned (.bool true) ∧ Below w.heap.size w w' := by
  obtain ⟨n, hn⟩ : ∃ n, Hid (s.size = n) := ⟨_, rfl⟩
  have hns : (s.size : Int) = (n : Int) := by rw [hn.out]
  have hl := bL_len s
  go_enter Tryd.func6, Tryd.ntmps6
  have hB := Below.refl w.heap.size w
  go_wp2_with fail
  refine (parse_ok s (by omega) w hE).mono ?_
  rintro e w1 ⟨⟨o, ho, rfl⟩, hb⟩
  replace hE := hE.next hb
  replace hB := below_next hB hb
  clear hb
  cases o with
  | none =>
    clear ho
    have b1 := blk_new w1 Ca.zero.arr 24
    have hb := below_box w1 (.cells Ca.zero.arr 24)
    replace hE := hE.next hb
    replace hB := below_next hB hb
    clear hb
    go_upto_region 2 with (go_big_may; first | refine alloc_zero zeroCa rfl rfl ?_ | refine store_new rfl 24 _ _ rfl (cells := Ca.zero.arr) rfl rfl sizeCa rfl (Ca.arr_one _) ?_)
    try simp only [Act.put, List.setIfInBounds_toArray, List.set_cons_zero, List.set_cons_succ]
    generalize w1.alloc (Obj.cells Ca.zero.arr 24) = W1 at b1 hE hB ⊢
    generalize w1.heap.size = z at b1 ⊢
    go_wp2_with fail
    refine (fixed_ok W1 hE).mono ?_
    rintro e w2 ⟨rfl, hb⟩
    replace b1 := b1.below hb
    replace hE := hE.next hb
    replace hB := below_next hB hb
    clear hb
    go_wp2_with fail
    refine (fixed_ok w2 hE).mono ?_
    rintro e w3 ⟨rfl, hb⟩
    replace hB := below_next hB hb
    clear hb
    go_wp2_with fail
    go_ret
    exact ⟨rfl, hB⟩
  | some a =>
    have b1 := blk_new w1 a.arr 24
    have hb := below_box w1 (.cells a.arr 24)
    replace hE := hE.next hb
    replace hB := below_next hB hb
    clear hb
    go_upto_region 2 with (go_big_may; first | refine alloc_zero zeroCa rfl rfl ?_ | refine store_new rfl 24 _ _ rfl (cells := a.arr) rfl rfl sizeCa rfl (Ca.arr_one _) ?_)
    try simp only [Act.put, List.setIfInBounds_toArray, List.set_cons_zero, List.set_cons_succ]
    generalize w1.alloc (Obj.cells a.arr 24) = W1 at b1 hE hB ⊢
    generalize w1.heap.size = z at b1 ⊢
    go_wp2_with fail
    refine (fixed_ok W1 hE).mono ?_
    rintro e w2 ⟨rfl, hb⟩
    replace b1 := b1.below hb
    replace hE := hE.next hb
    replace hB := below_next hB hb
    clear hb
    by_cases h0 : at_ < 0
    · clear ho
      go_wp2_with fail
      refine (fixed_ok w2 hE).mono ?_
      rintro e w3 ⟨rfl, hb⟩
      replace hB := below_next hB hb
      clear hb
      go_wp2_with fail
      go_ret
      exact ⟨rfl, hB⟩
    · obtain ⟨k, rfl⟩ : ∃ k : Nat, at_ = (k : Int) := ⟨at_.toNat, by omega⟩
      by_cases h1 : n < k
      · have d1 : (n : Int) < (k : Int) := by omega
        clear ho h0 h1 hat
        go_wp2_with fail
        refine (fixed_ok w2 hE).mono ?_
        rintro e w3 ⟨rfl, hb⟩
        replace hB := below_next hB hb
        clear hb
        go_wp2_with fail
        go_ret
        exact ⟨rfl, hB⟩
      · have d0 : decide ((k : Int) < 0) = false := decide_eq_false (by omega)
        have d1 : ¬ (n : Int) < (k : Int) := by omega
        have k0 : (0 : Int) ≤ (k : Int) := by omega
        have k1 : (k : Int) ≤ (n : Int) := by omega
        have hk : k ≤ s.size := by rw [hn.out]; omega
        have hlt : ((bL s).take k).length = k := by rw [List.length_take, hl]; omega
        have hld : ((bL s).drop k).length = s.size - k := by rw [List.length_drop, hl]
        have s1 := sl_take s k hk .i64
        have s2 := sl_drop s k hk .i64 (k : Int) rfl
        have a1 := sum_B ((bL s).take k) [c] (by simp only [List.length_cons, List.length_nil]; omega)
        have a2 := sum_B ((bL s).take k ++ [c]) ((bL s).drop k) (by simp only [List.length_cons, List.length_nil, List.length_append]; omega)
        have hcut : Hid (k ≠ n → ∃ S3 : ByteArray, S3.size ≤ 140737488355328 ∧ (∀ W, (Instr.slice 9 (.string s) (some (.int .i64 ((k : Int) + 1))) none none).run Tryd.prog W = .ok (.string (strB ((bL s).drop (k + 1)))) W) ∧ (∀ W, (Op.stringOp .add (strB ((bL s).take k)) (strB ((bL s).drop (k + 1)))).run Tryd.prog W = .ok (.string S3) W) ∧ Hid (∀ p, IsCall (bL S3) p → ∀ d, p = some d → Ca.same d a = false)) := by
          intro hkn
          have hle : ((bL s).drop (k + 1)).length = s.size - (k + 1) := by rw [List.length_drop, hl]
          refine ⟨strB ((bL s).take k ++ (bL s).drop (k + 1)), by rw [strB_size, List.length_append]; omega, sl_drop s (k + 1) (by rw [hn.out]; omega) .i64 ((k : Int) + 1) (by omega), sum_B _ _ (by omega), fun p hp d hd => ?_⟩
          subst hd
          rw [bL_strB] at hp
          exact unlike ho hp (by rw [List.length_append, hl, hlt, hle]; rw [← hn.out] at hkn; omega)
        obtain ⟨S2, hS2e⟩ : ∃ S, strB ((bL s).take k ++ [c] ++ (bL s).drop k) = S := ⟨_, rfl⟩
        have hS2 : S2.size ≤ 140737488355328 := by
          rw [← hS2e, strB_size]
          simp only [List.length_append, List.length_cons, List.length_nil]
          omega
        have HU2 : Hid (∀ p, IsCall (bL S2) p → ∀ d, p = some d → Ca.same d a = false) := fun p hp d hd => by
          subst hd
          rw [← hS2e, bL_strB] at hp
          exact unlike ho hp (by simp only [List.length_append, List.length_cons, List.length_nil]; omega)
        rw [hS2e] at a2
        clear hS2e hlt hld hk h0 h1 hat ho
        replace hcut := hcut.out
        generalize strB ((bL s).take k ++ [c]) = S1 at a1 a2
        generalize strB ((bL s).drop k) = R at s2 a2
        generalize strB ((bL s).drop (k + 1)) = R3 at hcut
        generalize strB ((bL s).take k) = A at s1 a1 hcut
        go_upto_region 4 with fail
        try simp only [Act.put, List.setIfInBounds_toArray, List.set_cons_zero, List.set_cons_succ]
        rename World => V
        refine wp_region_held_drew (S := fun v => Below V.heap.size V v) (by kernel_rfl) ((Below.refl _ _).drew) (fun hHeld => ?_)
        refine wpAnyH_take (i := 0) (v := ?v1) rfl (by kernel_rfl) (by kernel_rfl) (by kernel_rfl) (fun _ _ _ h => h) (Or.inl ⟨by rfl, ?hy1⟩) hHeld ?rest1
        case hy1 => (intro w hSw; clear hSw; go_simp; try with_reducible rfl)
        try simp only [List.getElem_toArray]
        try simp only [List.getElem_cons_succ]
        try simp only [List.getElem_cons_zero]
        try simp only [Act.put]
        try simp only [List.setIfInBounds_toArray]
        try simp only [List.set_cons_succ]
        try simp only [List.set_cons_zero]
        refine wpAnyH_take (i := 1) (v := ?v2) rfl (by kernel_rfl) (by kernel_rfl) (by kernel_rfl) (fun _ _ _ h => h) (Or.inl ⟨by rfl, ?hy2⟩) hHeld ?rest2
        case hy2 => (intro w hSw; clear hSw; go_simp; try with_reducible rfl)
        try simp only [List.getElem_toArray]
        try simp only [List.getElem_cons_succ]
        try simp only [List.getElem_cons_zero]
        try simp only [Act.put]
        try simp only [List.setIfInBounds_toArray]
        try simp only [List.set_cons_succ]
        try simp only [List.set_cons_zero]
        refine wpAnyH_take (i := 2) (v := ?v3) rfl (by kernel_rfl) (by kernel_rfl) (by kernel_rfl) (fun _ _ _ h => h) (Or.inl ⟨by rfl, ?hy3⟩) hHeld ?rest3
        case hy3 => (intro w hSw; clear hSw; go_simp; try with_reducible rfl)
        try simp only [List.getElem_toArray]
        try simp only [List.getElem_cons_succ]
        try simp only [List.getElem_cons_zero]
        try simp only [Act.put]
        try simp only [List.setIfInBounds_toArray]
        try simp only [List.set_cons_succ]
        try simp only [List.set_cons_zero]
        refine wpAnyH_take (i := 3) (v := ?v4) rfl (by kernel_rfl) (by kernel_rfl) (by kernel_rfl) (fun _ _ _ h => h) (Or.inl ⟨by rfl, ?hy4⟩) hHeld ?rest4
        case hy4 => (intro w hSw; clear hSw; go_simp; try with_reducible rfl)
        try simp only [List.getElem_toArray]
        try simp only [List.getElem_cons_succ]
        try simp only [List.getElem_cons_zero]
        try simp only [Act.put]
        try simp only [List.setIfInBounds_toArray]
        try simp only [List.set_cons_succ]
        try simp only [List.set_cons_zero]
        refine wpAnyH_take (i := 7) (v := ?v5) rfl (by kernel_rfl) (by kernel_rfl) (by kernel_rfl) (fun _ _ _ h => h) (Or.inl ⟨by rfl, ?hy5⟩) hHeld ?rest5
        case hy5 => (intro w hSw; clear hSw; go_simp; try with_reducible rfl)
        try simp only [List.getElem_toArray]
        try simp only [List.getElem_cons_succ]
        try simp only [List.getElem_cons_zero]
        try simp only [Act.put]
        try simp only [List.setIfInBounds_toArray]
        try simp only [List.set_cons_succ]
        try simp only [List.set_cons_zero]
        refine wpAnyH_take (i := 8) (v := ?v6) rfl (by kernel_rfl) (by kernel_rfl) (by kernel_rfl) (fun _ _ _ h => h) (Or.inl ⟨by rfl, ?hy6⟩) hHeld ?rest6
        case hy6 => (intro w hSw; clear hSw; go_simp; try with_reducible rfl)
        try simp only [List.getElem_toArray]
        try simp only [List.getElem_cons_succ]
        try simp only [List.getElem_cons_zero]
        try simp only [Act.put]
        try simp only [List.setIfInBounds_toArray]
        try simp only [List.set_cons_succ]
        try simp only [List.set_cons_zero]
        refine wpAnyH_take (i := 9) (v := ?v7) rfl (by kernel_rfl) (by kernel_rfl) (by kernel_rfl) (fun _ _ _ h => h) (Or.inl ⟨by rfl, ?hy7⟩) hHeld ?rest7
        case hy7 => (intro w hSw; clear hSw; go_simp; try with_reducible rfl)
        try simp only [List.getElem_toArray]
        try simp only [List.getElem_cons_succ]
        try simp only [List.getElem_cons_zero]
        try simp only [Act.put]
        try simp only [List.setIfInBounds_toArray]
        try simp only [List.set_cons_succ]
        try simp only [List.set_cons_zero]
        refine wpAnyH_ready (rs := [4, 15]) (by kernel_rfl) (by simp) ?_
        refine AllReadyH.cons rfl (fun K hK => ?_) (AllReadyH.cons rfl (fun K hK => ?_) (AllReadyH.nil))
        · rw [if_pos (by rfl)]
          refine wp_byte _ rfl c rfl ?_
          intro gB u1 hcB hb
          refine hK.out _ _ (below_next hHeld hb) (fun hHeld => ?_)
          clear hK K hb
          try simp only [List.getElem_toArray]
          try simp only [List.getElem_cons_succ]
          try simp only [List.getElem_cons_zero]
          try simp only [Act.put]
          try simp only [List.setIfInBounds_toArray]
          try simp only [List.set_cons_succ]
          try simp only [List.set_cons_zero]
          refine wpAnyH_ready (rs := [5, 15]) (by kernel_rfl) (by simp) ?_
          refine AllReadyH.cons rfl (fun K hK => ?_) (AllReadyH.cons rfl (fun K hK => ?_) (AllReadyH.nil))
          · rw [if_pos (by rfl)]
            refine wp_conv _ rfl rfl (byte_str hcB) ?_
            refine hK.out _ _ hHeld (fun hHeld => ?_)
            clear hK K 
            try simp only [List.getElem_toArray]
            try simp only [List.getElem_cons_succ]
            try simp only [List.getElem_cons_zero]
            try simp only [Act.put]
            try simp only [List.setIfInBounds_toArray]
            try simp only [List.set_cons_succ]
            try simp only [List.set_cons_zero]
            refine wpAnyH_take (i := 6) (v := ?v8) rfl (by kernel_rfl) (by kernel_rfl) (by kernel_rfl) (fun _ _ _ h => h) (Or.inl ⟨by rfl, ?hy8⟩) hHeld ?rest8
            case hy8 => (intro w hSw; clear hSw; go_simp; try with_reducible rfl)
            try simp only [List.getElem_toArray]
            try simp only [List.getElem_cons_succ]
            try simp only [List.getElem_cons_zero]
            try simp only [Act.put]
            try simp only [List.setIfInBounds_toArray]
            try simp only [List.set_cons_succ]
            try simp only [List.set_cons_zero]
            refine wpAnyH_take (i := 10) (v := ?v9) rfl (by kernel_rfl) (by kernel_rfl) (by kernel_rfl) (fun _ _ _ h => h) (Or.inl ⟨by rfl, ?hy9⟩) hHeld ?rest9
            case hy9 => (intro w hSw; clear hSw; go_simp; try with_reducible rfl)
            try simp only [List.getElem_toArray]
            try simp only [List.getElem_cons_succ]
            try simp only [List.getElem_cons_zero]
            try simp only [Act.put]
            try simp only [List.setIfInBounds_toArray]
            try simp only [List.set_cons_succ]
            try simp only [List.set_cons_zero]
            refine wpAnyH_ready (rs := [11, 15]) (by kernel_rfl) (by simp) ?_
            refine AllReadyH.cons rfl (fun K hK => ?_) (AllReadyH.cons rfl (fun K hK => ?_) (AllReadyH.nil))
            · go_simp
              go_wp2_with (refine (parse_ok S2 hS2 _ (hE.next hHeld)).mono ?_; rintro r u3 ⟨⟨o2, ho2, rfl⟩, hb⟩; obtain ⟨kko2, hkko2⟩ : ∃ kk : Int, Hid ((if o2.isSome = true then 0 else 210) = kk) := ⟨_, rfl⟩; rw [hkko2.out])
              refine hK.out _ _ (below_next hHeld hb) (fun hHeld => ?_)
              clear hK K hb
              refine wpAnyH_take (i := 12) (v := ?v10) rfl (by kernel_rfl) (by kernel_rfl) (by kernel_rfl) (fun _ _ _ h => h) (Or.inl ⟨by rfl, ?hy10⟩) hHeld ?rest10
              case hy10 => (intro w hSw; clear hSw; go_simp; try with_reducible rfl)
              try simp only [List.getElem_toArray]
              try simp only [List.getElem_cons_succ]
              try simp only [List.getElem_cons_zero]
              try simp only [Act.put]
              try simp only [List.setIfInBounds_toArray]
              try simp only [List.set_cons_succ]
              try simp only [List.set_cons_zero]
              refine wpAnyH_take (i := 13) (v := ?v11) rfl (by kernel_rfl) (by kernel_rfl) (by kernel_rfl) (fun _ _ _ h => h) (Or.inl ⟨by rfl, ?hy11⟩) hHeld ?rest11
              case hy11 => (intro w hSw; clear hSw; go_simp; try with_reducible rfl)
              try simp only [List.getElem_toArray]
              try simp only [List.getElem_cons_succ]
              try simp only [List.getElem_cons_zero]
              try simp only [Act.put]
              try simp only [List.setIfInBounds_toArray]
              try simp only [List.set_cons_succ]
              try simp only [List.set_cons_zero]
              refine wpAnyH_take (i := 14) (v := ?v12) rfl (by kernel_rfl) (by kernel_rfl) (by kernel_rfl) (fun _ _ _ h => h) (Or.inl ⟨by rfl, ?hy12⟩) hHeld ?rest12
              case hy12 => (intro w hSw; clear hSw; go_simp; try with_reducible rfl)
              try simp only [List.getElem_toArray]
              try simp only [List.getElem_cons_succ]
              try simp only [List.getElem_cons_zero]
              try simp only [Act.put]
              try simp only [List.setIfInBounds_toArray]
              try simp only [List.set_cons_succ]
              try simp only [List.set_cons_zero]
              refine wpAnyH_ready (rs := [15]) (by kernel_rfl) (by simp) ?_
              refine AllReadyH.cons rfl (fun K hK => ?_) (AllReadyH.nil)
              rw [if_pos (by rfl)]
              refine wp_alloc_any zeroCa rfl ?_
              intro yp u4 y0 hb yl yt
              have yg := Nat.le_trans hHeld.size yl
              refine hK.out _ _ (below_next hHeld hb) (fun hHeld => ?_)
              clear hK K hb yl yt
              try simp only [List.getElem_toArray]
              try simp only [List.getElem_cons_succ]
              try simp only [List.getElem_cons_zero]
              try simp only [Act.put]
              try simp only [List.setIfInBounds_toArray]
              try simp only [List.set_cons_succ]
              try simp only [List.set_cons_zero]
              refine wpAnyH_ready (rs := [16]) (by kernel_rfl) (by simp) ?_
              refine AllReadyH.cons rfl (fun K hK => ?_) (AllReadyH.nil)
              rw [if_pos (by rfl)]
              refine wp_store_all 24 _ _ rfl (cells := (o2.getD Ca.zero).arr) y0 rfl rfl sizeCa rfl (Ca.arr_one _) ?_
              intro u5 hn9 hk9
              replace y0 := hn9
              refine hK.out _ _ (hHeld.trans (hk9.below1 yg hHeld.size)) (fun hHeld => ?_)
              clear hK K hk9 hn9
              try simp only [List.getElem_toArray]
              try simp only [List.getElem_cons_succ]
              try simp only [List.getElem_cons_zero]
              try simp only [Act.put]
              try simp only [List.setIfInBounds_toArray]
              try simp only [List.set_cons_succ]
              try simp only [List.set_cons_zero]
              refine wpAnyH_take (i := 17) (v := ?v13) rfl (by kernel_rfl) (by kernel_rfl) (by kernel_rfl) (fun _ _ _ h => h) (Or.inl ⟨by rfl, ?hy13⟩) hHeld ?rest13
              case hy13 => (intro w hSw; clear hSw; go_simp; try with_reducible rfl)
              try simp only [List.getElem_toArray]
              try simp only [List.getElem_cons_succ]
              try simp only [List.getElem_cons_zero]
              try simp only [Act.put]
              try simp only [List.setIfInBounds_toArray]
              try simp only [List.set_cons_succ]
              try simp only [List.set_cons_zero]
              refine wpAnyH_done (by kernel_rfl) ?_ _
              replace b1 := b1.below hHeld
              replace hE := hE.next hHeld
              replace hB := below_next hB hHeld
              clear hHeld
              have HO := HU2.out o2 ho2
              clear ho2 hcB
              cases o2 with
              | none =>
                obtain rfl : kko2 = 210 := hkko2.out.symm
                by_cases hkn : k = n
                · have e1 : ((k : Int) == (n : Int)) = true := by simp; omega
                  clear hkn
                  go_wp2_with fail
                  go_ret
                  exact ⟨rfl, hB⟩
                · have e1 : ((k : Int) == (n : Int)) = false := by simp; omega
                  have kn1 : ((k : Int) + 1) ≤ (n : Int) := by omega
                  obtain ⟨S3, hS3, s3, s4, HU3⟩ := hcut hkn
                  have hw1 : IntKind.i64.wrap ((k : Int) + 1) = (k : Int) + 1 := by rw [IntKind.wrap_i64]; omega
                  clear hkn hcut
                  go_upto_region 9 with fail
                  try simp only [Act.put, List.setIfInBounds_toArray, List.set_cons_zero, List.set_cons_succ]
                  rename World => V9
                  refine wp_region_held_drew (S := fun v => Below V9.heap.size V9 v) (by kernel_rfl) ((Below.refl _ _).drew) (fun hHeld => ?_)
                  refine wpAnyH_take (i := 0) (v := ?v14) rfl (by kernel_rfl) (by kernel_rfl) (by kernel_rfl) (fun _ _ _ h => h) (Or.inl ⟨by rfl, ?hy14⟩) hHeld ?rest14
                  case hy14 => (intro w hSw; clear hSw; go_simp; try with_reducible rfl)
                  try simp only [List.getElem_toArray]
                  try simp only [List.getElem_cons_succ]
                  try simp only [List.getElem_cons_zero]
                  try simp only [Act.put]
                  try simp only [List.setIfInBounds_toArray]
                  try simp only [List.set_cons_succ]
                  try simp only [List.set_cons_zero]
                  refine wpAnyH_take (i := 1) (v := ?v15) rfl (by kernel_rfl) (by kernel_rfl) (by kernel_rfl) (fun _ _ _ h => h) (Or.inl ⟨by rfl, ?hy15⟩) hHeld ?rest15
                  case hy15 => (intro w hSw; clear hSw; go_simp; try with_reducible rfl)
                  try simp only [List.getElem_toArray]
                  try simp only [List.getElem_cons_succ]
                  try simp only [List.getElem_cons_zero]
                  try simp only [Act.put]
                  try simp only [List.setIfInBounds_toArray]
                  try simp only [List.set_cons_succ]
                  try simp only [List.set_cons_zero]
                  refine wpAnyH_take (i := 2) (v := ?v16) rfl (by kernel_rfl) (by kernel_rfl) (by kernel_rfl) (fun _ _ _ h => h) (Or.inl ⟨by rfl, ?hy16⟩) hHeld ?rest16
                  case hy16 => (intro w hSw; clear hSw; go_simp; try with_reducible rfl)
                  try simp only [List.getElem_toArray]
                  try simp only [List.getElem_cons_succ]
                  try simp only [List.getElem_cons_zero]
                  try simp only [Act.put]
                  try simp only [List.setIfInBounds_toArray]
                  try simp only [List.set_cons_succ]
                  try simp only [List.set_cons_zero]
                  refine wpAnyH_take (i := 3) (v := ?v17) rfl (by kernel_rfl) (by kernel_rfl) (by kernel_rfl) (fun _ _ _ h => h) (Or.inl ⟨by rfl, ?hy17⟩) hHeld ?rest17
                  case hy17 => (intro w hSw; clear hSw; go_simp; try with_reducible rfl)
                  try simp only [List.getElem_toArray]
                  try simp only [List.getElem_cons_succ]
                  try simp only [List.getElem_cons_zero]
                  try simp only [Act.put]
                  try simp only [List.setIfInBounds_toArray]
                  try simp only [List.set_cons_succ]
                  try simp only [List.set_cons_zero]
                  refine wpAnyH_take (i := 4) (v := ?v18) rfl (by kernel_rfl) (by kernel_rfl) (by kernel_rfl) (fun _ _ _ h => h) (Or.inl ⟨by rfl, ?hy18⟩) hHeld ?rest18
                  case hy18 => (intro w hSw; clear hSw; go_simp; try with_reducible rfl)
                  try simp only [List.getElem_toArray]
                  try simp only [List.getElem_cons_succ]
                  try simp only [List.getElem_cons_zero]
                  try simp only [Act.put]
                  try simp only [List.setIfInBounds_toArray]
                  try simp only [List.set_cons_succ]
                  try simp only [List.set_cons_zero]
                  refine wpAnyH_take (i := 5) (v := ?v19) rfl (by kernel_rfl) (by kernel_rfl) (by kernel_rfl) (fun _ _ _ h => h) (Or.inl ⟨by rfl, ?hy19⟩) hHeld ?rest19
                  case hy19 => (intro w hSw; clear hSw; go_simp; try with_reducible rfl)
                  try simp only [List.getElem_toArray]
                  try simp only [List.getElem_cons_succ]
                  try simp only [List.getElem_cons_zero]
                  try simp only [Act.put]
                  try simp only [List.setIfInBounds_toArray]
                  try simp only [List.set_cons_succ]
                  try simp only [List.set_cons_zero]
                  refine wpAnyH_take (i := 6) (v := ?v20) rfl (by kernel_rfl) (by kernel_rfl) (by kernel_rfl) (fun _ _ _ h => h) (Or.inl ⟨by rfl, ?hy20⟩) hHeld ?rest20
                  case hy20 => (intro w hSw; clear hSw; go_simp; try with_reducible rfl)
                  try simp only [List.getElem_toArray]
                  try simp only [List.getElem_cons_succ]
                  try simp only [List.getElem_cons_zero]
                  try simp only [Act.put]
                  try simp only [List.setIfInBounds_toArray]
                  try simp only [List.set_cons_succ]
                  try simp only [List.set_cons_zero]
                  refine wpAnyH_take (i := 7) (v := ?v21) rfl (by kernel_rfl) (by kernel_rfl) (by kernel_rfl) (fun _ _ _ h => h) (Or.inl ⟨by rfl, ?hy21⟩) hHeld ?rest21
                  case hy21 => (intro w hSw; clear hSw; go_simp; try with_reducible rfl)
                  try simp only [List.getElem_toArray]
                  try simp only [List.getElem_cons_succ]
                  try simp only [List.getElem_cons_zero]
                  try simp only [Act.put]
                  try simp only [List.setIfInBounds_toArray]
                  try simp only [List.set_cons_succ]
                  try simp only [List.set_cons_zero]
                  refine wpAnyH_ready (rs := [8, 12]) (by kernel_rfl) (by simp) ?_
                  refine AllReadyH.cons rfl (fun K hK => ?_) (AllReadyH.cons rfl (fun K hK => ?_) (AllReadyH.nil))
                  · go_simp
                    go_wp2_with (refine (parse_ok S3 hS3 _ (hE.next hHeld)).mono ?_; rintro r u1 ⟨⟨o3, ho3, rfl⟩, hb⟩; obtain ⟨kko3, hkko3⟩ : ∃ kk : Int, Hid ((if o3.isSome = true then 0 else 210) = kk) := ⟨_, rfl⟩; rw [hkko3.out])
                    refine hK.out _ _ (below_next hHeld hb) (fun hHeld => ?_)
                    clear hK K hb
                    refine wpAnyH_take (i := 9) (v := ?v22) rfl (by kernel_rfl) (by kernel_rfl) (by kernel_rfl) (fun _ _ _ h => h) (Or.inl ⟨by rfl, ?hy22⟩) hHeld ?rest22
                    case hy22 => (intro w hSw; clear hSw; go_simp; try with_reducible rfl)
                    try simp only [List.getElem_toArray]
                    try simp only [List.getElem_cons_succ]
                    try simp only [List.getElem_cons_zero]
                    try simp only [Act.put]
                    try simp only [List.setIfInBounds_toArray]
                    try simp only [List.set_cons_succ]
                    try simp only [List.set_cons_zero]
                    refine wpAnyH_take (i := 10) (v := ?v23) rfl (by kernel_rfl) (by kernel_rfl) (by kernel_rfl) (fun _ _ _ h => h) (Or.inl ⟨by rfl, ?hy23⟩) hHeld ?rest23
                    case hy23 => (intro w hSw; clear hSw; go_simp; try with_reducible rfl)
                    try simp only [List.getElem_toArray]
                    try simp only [List.getElem_cons_succ]
                    try simp only [List.getElem_cons_zero]
                    try simp only [Act.put]
                    try simp only [List.setIfInBounds_toArray]
                    try simp only [List.set_cons_succ]
                    try simp only [List.set_cons_zero]
                    refine wpAnyH_take (i := 11) (v := ?v24) rfl (by kernel_rfl) (by kernel_rfl) (by kernel_rfl) (fun _ _ _ h => h) (Or.inl ⟨by rfl, ?hy24⟩) hHeld ?rest24
                    case hy24 => (intro w hSw; clear hSw; go_simp; try with_reducible rfl)
                    try simp only [List.getElem_toArray]
                    try simp only [List.getElem_cons_succ]
                    try simp only [List.getElem_cons_zero]
                    try simp only [Act.put]
                    try simp only [List.setIfInBounds_toArray]
                    try simp only [List.set_cons_succ]
                    try simp only [List.set_cons_zero]
                    refine wpAnyH_ready (rs := [12]) (by kernel_rfl) (by simp) ?_
                    refine AllReadyH.cons rfl (fun K hK => ?_) (AllReadyH.nil)
                    rw [if_pos (by rfl)]
                    refine wp_alloc_any zeroCa rfl ?_
                    intro yp u2 y0 hb yl yt
                    have yg := Nat.le_trans hHeld.size yl
                    refine hK.out _ _ (below_next hHeld hb) (fun hHeld => ?_)
                    clear hK K hb yl yt
                    try simp only [List.getElem_toArray]
                    try simp only [List.getElem_cons_succ]
                    try simp only [List.getElem_cons_zero]
                    try simp only [Act.put]
                    try simp only [List.setIfInBounds_toArray]
                    try simp only [List.set_cons_succ]
                    try simp only [List.set_cons_zero]
                    refine wpAnyH_ready (rs := [13]) (by kernel_rfl) (by simp) ?_
                    refine AllReadyH.cons rfl (fun K hK => ?_) (AllReadyH.nil)
                    rw [if_pos (by rfl)]
                    refine wp_store_all 24 _ _ rfl (cells := (o3.getD Ca.zero).arr) y0 rfl rfl sizeCa rfl (Ca.arr_one _) ?_
                    intro u3 hn9 hk9
                    replace y0 := hn9
                    refine hK.out _ _ (hHeld.trans (hk9.below1 yg hHeld.size)) (fun hHeld => ?_)
                    clear hK K hk9 hn9
                    try simp only [List.getElem_toArray]
                    try simp only [List.getElem_cons_succ]
                    try simp only [List.getElem_cons_zero]
                    try simp only [Act.put]
                    try simp only [List.setIfInBounds_toArray]
                    try simp only [List.set_cons_succ]
                    try simp only [List.set_cons_zero]
                    refine wpAnyH_take (i := 14) (v := ?v25) rfl (by kernel_rfl) (by kernel_rfl) (by kernel_rfl) (fun _ _ _ h => h) (Or.inl ⟨by rfl, ?hy25⟩) hHeld ?rest25
                    case hy25 => (intro w hSw; clear hSw; go_simp; try with_reducible rfl)
                    try simp only [List.getElem_toArray]
                    try simp only [List.getElem_cons_succ]
                    try simp only [List.getElem_cons_zero]
                    try simp only [Act.put]
                    try simp only [List.setIfInBounds_toArray]
                    try simp only [List.set_cons_succ]
                    try simp only [List.set_cons_zero]
                    refine wpAnyH_done (by kernel_rfl) ?_ _
                    replace b1 := b1.below hHeld
                    replace hB := below_next hB hHeld
                    clear hHeld hE
                    have HO := HU3.out o3 ho3
                    clear ho3
                    cases o3 with
                    | none =>
                      obtain rfl : kko3 = 210 := hkko3.out.symm
                      go_wp2_with fail
                      go_ret
                      exact ⟨rfl, hB⟩
                    | some d =>
                      obtain rfl : kko3 = 0 := hkko3.out.symm
                      have nq := neqCa d a false (HO d rfl)
                      clear HO
                      go_wp2_with (first | refine load_want (by rfl) 24 _ rfl y0 rfl Tryd.underlying24 rfl sizeCa ?_ | refine load_want (by rfl) 24 _ rfl b1 rfl Tryd.underlying24 rfl sizeCa ?_)
                      go_ret
                      exact ⟨rfl, hB⟩
                  · rw [if_pos (by rfl)]
                    refine wp_alloc_any zeroCa rfl ?_
                    intro yp u4 y0 hb yl yt
                    have yg := Nat.le_trans hHeld.size yl
                    refine hK.out _ _ (below_next hHeld hb) (fun hHeld => ?_)
                    clear hK K hb yl yt
                    try simp only [List.getElem_toArray]
                    try simp only [List.getElem_cons_succ]
                    try simp only [List.getElem_cons_zero]
                    try simp only [Act.put]
                    try simp only [List.setIfInBounds_toArray]
                    try simp only [List.set_cons_succ]
                    try simp only [List.set_cons_zero]
                    refine wpAnyH_ready (rs := [8]) (by kernel_rfl) (by simp) ?_
                    refine AllReadyH.cons rfl (fun K hK => ?_) (AllReadyH.nil)
                    go_simp
                    go_wp2_with (refine (parse_ok S3 hS3 _ (hE.next hHeld)).mono ?_; rintro r u5 ⟨⟨o3, ho3, rfl⟩, hb⟩; obtain ⟨kko3, hkko3⟩ : ∃ kk : Int, Hid ((if o3.isSome = true then 0 else 210) = kk) := ⟨_, rfl⟩; rw [hkko3.out])
                    replace y0 := y0.below hb
                    refine hK.out _ _ (below_next hHeld hb) (fun hHeld => ?_)
                    clear hK K hb
                    refine wpAnyH_take (i := 9) (v := ?v26) rfl (by kernel_rfl) (by kernel_rfl) (by kernel_rfl) (fun _ _ _ h => h) (Or.inl ⟨by rfl, ?hy26⟩) hHeld ?rest26
                    case hy26 => (intro w hSw; clear hSw; go_simp; try with_reducible rfl)
                    try simp only [List.getElem_toArray]
                    try simp only [List.getElem_cons_succ]
                    try simp only [List.getElem_cons_zero]
                    try simp only [Act.put]
                    try simp only [List.setIfInBounds_toArray]
                    try simp only [List.set_cons_succ]
                    try simp only [List.set_cons_zero]
                    refine wpAnyH_take (i := 10) (v := ?v27) rfl (by kernel_rfl) (by kernel_rfl) (by kernel_rfl) (fun _ _ _ h => h) (Or.inl ⟨by rfl, ?hy27⟩) hHeld ?rest27
                    case hy27 => (intro w hSw; clear hSw; go_simp; try with_reducible rfl)
                    try simp only [List.getElem_toArray]
                    try simp only [List.getElem_cons_succ]
                    try simp only [List.getElem_cons_zero]
                    try simp only [Act.put]
                    try simp only [List.setIfInBounds_toArray]
                    try simp only [List.set_cons_succ]
                    try simp only [List.set_cons_zero]
                    refine wpAnyH_take (i := 11) (v := ?v28) rfl (by kernel_rfl) (by kernel_rfl) (by kernel_rfl) (fun _ _ _ h => h) (Or.inl ⟨by rfl, ?hy28⟩) hHeld ?rest28
                    case hy28 => (intro w hSw; clear hSw; go_simp; try with_reducible rfl)
                    try simp only [List.getElem_toArray]
                    try simp only [List.getElem_cons_succ]
                    try simp only [List.getElem_cons_zero]
                    try simp only [Act.put]
                    try simp only [List.setIfInBounds_toArray]
                    try simp only [List.set_cons_succ]
                    try simp only [List.set_cons_zero]
                    refine wpAnyH_ready (rs := [13]) (by kernel_rfl) (by simp) ?_
                    refine AllReadyH.cons rfl (fun K hK => ?_) (AllReadyH.nil)
                    rw [if_pos (by rfl)]
                    refine wp_store_all 24 _ _ rfl (cells := (o3.getD Ca.zero).arr) y0 rfl rfl sizeCa rfl (Ca.arr_one _) ?_
                    intro u6 hn9 hk9
                    replace y0 := hn9
                    refine hK.out _ _ (hHeld.trans (hk9.below1 yg hHeld.size)) (fun hHeld => ?_)
                    clear hK K hk9 hn9
                    try simp only [List.getElem_toArray]
                    try simp only [List.getElem_cons_succ]
                    try simp only [List.getElem_cons_zero]
                    try simp only [Act.put]
                    try simp only [List.setIfInBounds_toArray]
                    try simp only [List.set_cons_succ]
                    try simp only [List.set_cons_zero]
                    refine wpAnyH_take (i := 14) (v := ?v29) rfl (by kernel_rfl) (by kernel_rfl) (by kernel_rfl) (fun _ _ _ h => h) (Or.inl ⟨by rfl, ?hy29⟩) hHeld ?rest29
                    case hy29 => (intro w hSw; clear hSw; go_simp; try with_reducible rfl)
                    try simp only [List.getElem_toArray]
                    try simp only [List.getElem_cons_succ]
                    try simp only [List.getElem_cons_zero]
                    try simp only [Act.put]
                    try simp only [List.setIfInBounds_toArray]
                    try simp only [List.set_cons_succ]
                    try simp only [List.set_cons_zero]
                    refine wpAnyH_done (by kernel_rfl) ?_ _
                    replace b1 := b1.below hHeld
                    replace hB := below_next hB hHeld
                    clear hHeld hE
                    have HO := HU3.out o3 ho3
                    clear ho3
                    cases o3 with
                    | none =>
                      obtain rfl : kko3 = 210 := hkko3.out.symm
                      go_wp2_with fail
                      go_ret
                      exact ⟨rfl, hB⟩
                    | some d =>
                      obtain rfl : kko3 = 0 := hkko3.out.symm
                      have nq := neqCa d a false (HO d rfl)
                      clear HO
                      go_wp2_with (first | refine load_want (by rfl) 24 _ rfl y0 rfl Tryd.underlying24 rfl sizeCa ?_ | refine load_want (by rfl) 24 _ rfl b1 rfl Tryd.underlying24 rfl sizeCa ?_)
                      go_ret
                      exact ⟨rfl, hB⟩
              | some d =>
                obtain rfl : kko2 = 0 := hkko2.out.symm
                have nq := eqlCa d a false (HO d rfl)
                go_upto_region 7 with (go_big_may; first | refine load_want (by rfl) 24 _ rfl y0 rfl Tryd.underlying24 rfl sizeCa ?_ | refine load_want (by rfl) 24 _ rfl b1 rfl Tryd.underlying24 rfl sizeCa ?_)
                try simp only [Act.put, List.setIfInBounds_toArray, List.set_cons_zero, List.set_cons_succ]
                clear nq y0
                by_cases hkn : k = n
                · have e1 : ((k : Int) == (n : Int)) = true := by simp; omega
                  clear hkn
                  go_wp2_with fail
                  go_ret
                  exact ⟨rfl, hB⟩
                · have e1 : ((k : Int) == (n : Int)) = false := by simp; omega
                  have kn1 : ((k : Int) + 1) ≤ (n : Int) := by omega
                  obtain ⟨S3, hS3, s3, s4, HU3⟩ := hcut hkn
                  have hw1 : IntKind.i64.wrap ((k : Int) + 1) = (k : Int) + 1 := by rw [IntKind.wrap_i64]; omega
                  clear hkn hcut
                  go_upto_region 9 with fail
                  try simp only [Act.put, List.setIfInBounds_toArray, List.set_cons_zero, List.set_cons_succ]
                  rename World => V9
                  refine wp_region_held_drew (S := fun v => Below V9.heap.size V9 v) (by kernel_rfl) ((Below.refl _ _).drew) (fun hHeld => ?_)
                  refine wpAnyH_take (i := 0) (v := ?v30) rfl (by kernel_rfl) (by kernel_rfl) (by kernel_rfl) (fun _ _ _ h => h) (Or.inl ⟨by rfl, ?hy30⟩) hHeld ?rest30
                  case hy30 => (intro w hSw; clear hSw; go_simp; try with_reducible rfl)
                  try simp only [List.getElem_toArray]
                  try simp only [List.getElem_cons_succ]
                  try simp only [List.getElem_cons_zero]
                  try simp only [Act.put]
                  try simp only [List.setIfInBounds_toArray]
                  try simp only [List.set_cons_succ]
                  try simp only [List.set_cons_zero]
                  refine wpAnyH_take (i := 1) (v := ?v31) rfl (by kernel_rfl) (by kernel_rfl) (by kernel_rfl) (fun _ _ _ h => h) (Or.inl ⟨by rfl, ?hy31⟩) hHeld ?rest31
                  case hy31 => (intro w hSw; clear hSw; go_simp; try with_reducible rfl)
                  try simp only [List.getElem_toArray]
                  try simp only [List.getElem_cons_succ]
                  try simp only [List.getElem_cons_zero]
                  try simp only [Act.put]
                  try simp only [List.setIfInBounds_toArray]
                  try simp only [List.set_cons_succ]
                  try simp only [List.set_cons_zero]
                  refine wpAnyH_take (i := 2) (v := ?v32) rfl (by kernel_rfl) (by kernel_rfl) (by kernel_rfl) (fun _ _ _ h => h) (Or.inl ⟨by rfl, ?hy32⟩) hHeld ?rest32
                  case hy32 => (intro w hSw; clear hSw; go_simp; try with_reducible rfl)
                  try simp only [List.getElem_toArray]
                  try simp only [List.getElem_cons_succ]
                  try simp only [List.getElem_cons_zero]
                  try simp only [Act.put]
                  try simp only [List.setIfInBounds_toArray]
                  try simp only [List.set_cons_succ]
                  try simp only [List.set_cons_zero]
                  refine wpAnyH_take (i := 3) (v := ?v33) rfl (by kernel_rfl) (by kernel_rfl) (by kernel_rfl) (fun _ _ _ h => h) (Or.inl ⟨by rfl, ?hy33⟩) hHeld ?rest33
                  case hy33 => (intro w hSw; clear hSw; go_simp; try with_reducible rfl)
                  try simp only [List.getElem_toArray]
                  try simp only [List.getElem_cons_succ]
                  try simp only [List.getElem_cons_zero]
                  try simp only [Act.put]
                  try simp only [List.setIfInBounds_toArray]
                  try simp only [List.set_cons_succ]
                  try simp only [List.set_cons_zero]
                  refine wpAnyH_take (i := 4) (v := ?v34) rfl (by kernel_rfl) (by kernel_rfl) (by kernel_rfl) (fun _ _ _ h => h) (Or.inl ⟨by rfl, ?hy34⟩) hHeld ?rest34
                  case hy34 => (intro w hSw; clear hSw; go_simp; try with_reducible rfl)
                  try simp only [List.getElem_toArray]
                  try simp only [List.getElem_cons_succ]
                  try simp only [List.getElem_cons_zero]
                  try simp only [Act.put]
                  try simp only [List.setIfInBounds_toArray]
                  try simp only [List.set_cons_succ]
                  try simp only [List.set_cons_zero]
                  refine wpAnyH_take (i := 5) (v := ?v35) rfl (by kernel_rfl) (by kernel_rfl) (by kernel_rfl) (fun _ _ _ h => h) (Or.inl ⟨by rfl, ?hy35⟩) hHeld ?rest35
                  case hy35 => (intro w hSw; clear hSw; go_simp; try with_reducible rfl)
                  try simp only [List.getElem_toArray]
                  try simp only [List.getElem_cons_succ]
                  try simp only [List.getElem_cons_zero]
                  try simp only [Act.put]
                  try simp only [List.setIfInBounds_toArray]
                  try simp only [List.set_cons_succ]
                  try simp only [List.set_cons_zero]
                  refine wpAnyH_take (i := 6) (v := ?v36) rfl (by kernel_rfl) (by kernel_rfl) (by kernel_rfl) (fun _ _ _ h => h) (Or.inl ⟨by rfl, ?hy36⟩) hHeld ?rest36
                  case hy36 => (intro w hSw; clear hSw; go_simp; try with_reducible rfl)
                  try simp only [List.getElem_toArray]
                  try simp only [List.getElem_cons_succ]
                  try simp only [List.getElem_cons_zero]
                  try simp only [Act.put]
                  try simp only [List.setIfInBounds_toArray]
                  try simp only [List.set_cons_succ]
                  try simp only [List.set_cons_zero]
                  refine wpAnyH_take (i := 7) (v := ?v37) rfl (by kernel_rfl) (by kernel_rfl) (by kernel_rfl) (fun _ _ _ h => h) (Or.inl ⟨by rfl, ?hy37⟩) hHeld ?rest37
                  case hy37 => (intro w hSw; clear hSw; go_simp; try with_reducible rfl)
                  try simp only [List.getElem_toArray]
                  try simp only [List.getElem_cons_succ]
                  try simp only [List.getElem_cons_zero]
                  try simp only [Act.put]
                  try simp only [List.setIfInBounds_toArray]
                  try simp only [List.set_cons_succ]
                  try simp only [List.set_cons_zero]
                  refine wpAnyH_ready (rs := [8, 12]) (by kernel_rfl) (by simp) ?_
                  refine AllReadyH.cons rfl (fun K hK => ?_) (AllReadyH.cons rfl (fun K hK => ?_) (AllReadyH.nil))
                  · go_simp
                    go_wp2_with (refine (parse_ok S3 hS3 _ (hE.next hHeld)).mono ?_; rintro r u1 ⟨⟨o3, ho3, rfl⟩, hb⟩; obtain ⟨kko3, hkko3⟩ : ∃ kk : Int, Hid ((if o3.isSome = true then 0 else 210) = kk) := ⟨_, rfl⟩; rw [hkko3.out])
                    refine hK.out _ _ (below_next hHeld hb) (fun hHeld => ?_)
                    clear hK K hb
                    refine wpAnyH_take (i := 9) (v := ?v38) rfl (by kernel_rfl) (by kernel_rfl) (by kernel_rfl) (fun _ _ _ h => h) (Or.inl ⟨by rfl, ?hy38⟩) hHeld ?rest38
                    case hy38 => (intro w hSw; clear hSw; go_simp; try with_reducible rfl)
                    try simp only [List.getElem_toArray]
                    try simp only [List.getElem_cons_succ]
                    try simp only [List.getElem_cons_zero]
                    try simp only [Act.put]
                    try simp only [List.setIfInBounds_toArray]
                    try simp only [List.set_cons_succ]
                    try simp only [List.set_cons_zero]
                    refine wpAnyH_take (i := 10) (v := ?v39) rfl (by kernel_rfl) (by kernel_rfl) (by kernel_rfl) (fun _ _ _ h => h) (Or.inl ⟨by rfl, ?hy39⟩) hHeld ?rest39
                    case hy39 => (intro w hSw; clear hSw; go_simp; try with_reducible rfl)
                    try simp only [List.getElem_toArray]
                    try simp only [List.getElem_cons_succ]
                    try simp only [List.getElem_cons_zero]
                    try simp only [Act.put]
                    try simp only [List.setIfInBounds_toArray]
                    try simp only [List.set_cons_succ]
                    try simp only [List.set_cons_zero]
                    refine wpAnyH_take (i := 11) (v := ?v40) rfl (by kernel_rfl) (by kernel_rfl) (by kernel_rfl) (fun _ _ _ h => h) (Or.inl ⟨by rfl, ?hy40⟩) hHeld ?rest40
                    case hy40 => (intro w hSw; clear hSw; go_simp; try with_reducible rfl)
                    try simp only [List.getElem_toArray]
                    try simp only [List.getElem_cons_succ]
                    try simp only [List.getElem_cons_zero]
                    try simp only [Act.put]
                    try simp only [List.setIfInBounds_toArray]
                    try simp only [List.set_cons_succ]
                    try simp only [List.set_cons_zero]
                    refine wpAnyH_ready (rs := [12]) (by kernel_rfl) (by simp) ?_
                    refine AllReadyH.cons rfl (fun K hK => ?_) (AllReadyH.nil)
                    rw [if_pos (by rfl)]
                    refine wp_alloc_any zeroCa rfl ?_
                    intro yp u2 y0 hb yl yt
                    have yg := Nat.le_trans hHeld.size yl
                    refine hK.out _ _ (below_next hHeld hb) (fun hHeld => ?_)
                    clear hK K hb yl yt
                    try simp only [List.getElem_toArray]
                    try simp only [List.getElem_cons_succ]
                    try simp only [List.getElem_cons_zero]
                    try simp only [Act.put]
                    try simp only [List.setIfInBounds_toArray]
                    try simp only [List.set_cons_succ]
                    try simp only [List.set_cons_zero]
                    refine wpAnyH_ready (rs := [13]) (by kernel_rfl) (by simp) ?_
                    refine AllReadyH.cons rfl (fun K hK => ?_) (AllReadyH.nil)
                    rw [if_pos (by rfl)]
                    refine wp_store_all 24 _ _ rfl (cells := (o3.getD Ca.zero).arr) y0 rfl rfl sizeCa rfl (Ca.arr_one _) ?_
                    intro u3 hn9 hk9
                    replace y0 := hn9
                    refine hK.out _ _ (hHeld.trans (hk9.below1 yg hHeld.size)) (fun hHeld => ?_)
                    clear hK K hk9 hn9
                    try simp only [List.getElem_toArray]
                    try simp only [List.getElem_cons_succ]
                    try simp only [List.getElem_cons_zero]
                    try simp only [Act.put]
                    try simp only [List.setIfInBounds_toArray]
                    try simp only [List.set_cons_succ]
                    try simp only [List.set_cons_zero]
                    refine wpAnyH_take (i := 14) (v := ?v41) rfl (by kernel_rfl) (by kernel_rfl) (by kernel_rfl) (fun _ _ _ h => h) (Or.inl ⟨by rfl, ?hy41⟩) hHeld ?rest41
                    case hy41 => (intro w hSw; clear hSw; go_simp; try with_reducible rfl)
                    try simp only [List.getElem_toArray]
                    try simp only [List.getElem_cons_succ]
                    try simp only [List.getElem_cons_zero]
                    try simp only [Act.put]
                    try simp only [List.setIfInBounds_toArray]
                    try simp only [List.set_cons_succ]
                    try simp only [List.set_cons_zero]
                    refine wpAnyH_done (by kernel_rfl) ?_ _
                    replace b1 := b1.below hHeld
                    replace hB := below_next hB hHeld
                    clear hHeld hE
                    have HO := HU3.out o3 ho3
                    clear ho3
                    cases o3 with
                    | none =>
                      obtain rfl : kko3 = 210 := hkko3.out.symm
                      go_wp2_with fail
                      go_ret
                      exact ⟨rfl, hB⟩
                    | some d =>
                      obtain rfl : kko3 = 0 := hkko3.out.symm
                      have nq := neqCa d a false (HO d rfl)
                      clear HO
                      go_wp2_with (first | refine load_want (by rfl) 24 _ rfl y0 rfl Tryd.underlying24 rfl sizeCa ?_ | refine load_want (by rfl) 24 _ rfl b1 rfl Tryd.underlying24 rfl sizeCa ?_)
                      go_ret
                      exact ⟨rfl, hB⟩
                  · rw [if_pos (by rfl)]
                    refine wp_alloc_any zeroCa rfl ?_
                    intro yp u4 y0 hb yl yt
                    have yg := Nat.le_trans hHeld.size yl
                    refine hK.out _ _ (below_next hHeld hb) (fun hHeld => ?_)
                    clear hK K hb yl yt
                    try simp only [List.getElem_toArray]
                    try simp only [List.getElem_cons_succ]
                    try simp only [List.getElem_cons_zero]
                    try simp only [Act.put]
                    try simp only [List.setIfInBounds_toArray]
                    try simp only [List.set_cons_succ]
                    try simp only [List.set_cons_zero]
                    refine wpAnyH_ready (rs := [8]) (by kernel_rfl) (by simp) ?_
                    refine AllReadyH.cons rfl (fun K hK => ?_) (AllReadyH.nil)
                    go_simp
                    go_wp2_with (refine (parse_ok S3 hS3 _ (hE.next hHeld)).mono ?_; rintro r u5 ⟨⟨o3, ho3, rfl⟩, hb⟩; obtain ⟨kko3, hkko3⟩ : ∃ kk : Int, Hid ((if o3.isSome = true then 0 else 210) = kk) := ⟨_, rfl⟩; rw [hkko3.out])
                    replace y0 := y0.below hb
                    refine hK.out _ _ (below_next hHeld hb) (fun hHeld => ?_)
                    clear hK K hb
                    refine wpAnyH_take (i := 9) (v := ?v42) rfl (by kernel_rfl) (by kernel_rfl) (by kernel_rfl) (fun _ _ _ h => h) (Or.inl ⟨by rfl, ?hy42⟩) hHeld ?rest42
                    case hy42 => (intro w hSw; clear hSw; go_simp; try with_reducible rfl)
                    try simp only [List.getElem_toArray]
                    try simp only [List.getElem_cons_succ]
                    try simp only [List.getElem_cons_zero]
                    try simp only [Act.put]
                    try simp only [List.setIfInBounds_toArray]
                    try simp only [List.set_cons_succ]
                    try simp only [List.set_cons_zero]
                    refine wpAnyH_take (i := 10) (v := ?v43) rfl (by kernel_rfl) (by kernel_rfl) (by kernel_rfl) (fun _ _ _ h => h) (Or.inl ⟨by rfl, ?hy43⟩) hHeld ?rest43
                    case hy43 => (intro w hSw; clear hSw; go_simp; try with_reducible rfl)
                    try simp only [List.getElem_toArray]
                    try simp only [List.getElem_cons_succ]
                    try simp only [List.getElem_cons_zero]
                    try simp only [Act.put]
                    try simp only [List.setIfInBounds_toArray]
                    try simp only [List.set_cons_succ]
                    try simp only [List.set_cons_zero]
                    refine wpAnyH_take (i := 11) (v := ?v44) rfl (by kernel_rfl) (by kernel_rfl) (by kernel_rfl) (fun _ _ _ h => h) (Or.inl ⟨by rfl, ?hy44⟩) hHeld ?rest44
                    case hy44 => (intro w hSw; clear hSw; go_simp; try with_reducible rfl)
                    try simp only [List.getElem_toArray]
                    try simp only [List.getElem_cons_succ]
                    try simp only [List.getElem_cons_zero]
                    try simp only [Act.put]
                    try simp only [List.setIfInBounds_toArray]
                    try simp only [List.set_cons_succ]
                    try simp only [List.set_cons_zero]
                    refine wpAnyH_ready (rs := [13]) (by kernel_rfl) (by simp) ?_
                    refine AllReadyH.cons rfl (fun K hK => ?_) (AllReadyH.nil)
                    rw [if_pos (by rfl)]
                    refine wp_store_all 24 _ _ rfl (cells := (o3.getD Ca.zero).arr) y0 rfl rfl sizeCa rfl (Ca.arr_one _) ?_
                    intro u6 hn9 hk9
                    replace y0 := hn9
                    refine hK.out _ _ (hHeld.trans (hk9.below1 yg hHeld.size)) (fun hHeld => ?_)
                    clear hK K hk9 hn9
                    try simp only [List.getElem_toArray]
                    try simp only [List.getElem_cons_succ]
                    try simp only [List.getElem_cons_zero]
                    try simp only [Act.put]
                    try simp only [List.setIfInBounds_toArray]
                    try simp only [List.set_cons_succ]
                    try simp only [List.set_cons_zero]
                    refine wpAnyH_take (i := 14) (v := ?v45) rfl (by kernel_rfl) (by kernel_rfl) (by kernel_rfl) (fun _ _ _ h => h) (Or.inl ⟨by rfl, ?hy45⟩) hHeld ?rest45
                    case hy45 => (intro w hSw; clear hSw; go_simp; try with_reducible rfl)
                    try simp only [List.getElem_toArray]
                    try simp only [List.getElem_cons_succ]
                    try simp only [List.getElem_cons_zero]
                    try simp only [Act.put]
                    try simp only [List.setIfInBounds_toArray]
                    try simp only [List.set_cons_succ]
                    try simp only [List.set_cons_zero]
                    refine wpAnyH_done (by kernel_rfl) ?_ _
                    replace b1 := b1.below hHeld
                    replace hB := below_next hB hHeld
                    clear hHeld hE
                    have HO := HU3.out o3 ho3
                    clear ho3
                    cases o3 with
                    | none =>
                      obtain rfl : kko3 = 210 := hkko3.out.symm
                      go_wp2_with fail
                      go_ret
                      exact ⟨rfl, hB⟩
                    | some d =>
                      obtain rfl : kko3 = 0 := hkko3.out.symm
                      have nq := neqCa d a false (HO d rfl)
                      clear HO
                      go_wp2_with (first | refine load_want (by rfl) 24 _ rfl y0 rfl Tryd.underlying24 rfl sizeCa ?_ | refine load_want (by rfl) 24 _ rfl b1 rfl Tryd.underlying24 rfl sizeCa ?_)
                      go_ret
                      exact ⟨rfl, hB⟩
            · rw [if_pos (by rfl)]
              refine wp_alloc_any zeroCa rfl ?_
              intro yp u6 y0 hb yl yt
              have yg := Nat.le_trans hHeld.size yl
              replace hcB := hcB.below hb
              refine hK.out _ _ (below_next hHeld hb) (fun hHeld => ?_)
              clear hK K hb yl yt
              try simp only [List.getElem_toArray]
              try simp only [List.getElem_cons_succ]
              try simp only [List.getElem_cons_zero]
              try simp only [Act.put]
              try simp only [List.setIfInBounds_toArray]
              try simp only [List.set_cons_succ]
              try simp only [List.set_cons_zero]
              refine wpAnyH_ready (rs := [11]) (by kernel_rfl) (by simp) ?_
              refine AllReadyH.cons rfl (fun K hK => ?_) (AllReadyH.nil)
              go_simp
              go_wp2_with (refine (parse_ok S2 hS2 _ (hE.next hHeld)).mono ?_; rintro r u7 ⟨⟨o2, ho2, rfl⟩, hb⟩; obtain ⟨kko2, hkko2⟩ : ∃ kk : Int, Hid ((if o2.isSome = true then 0 else 210) = kk) := ⟨_, rfl⟩; rw [hkko2.out])
              replace y0 := y0.below hb
              refine hK.out _ _ (below_next hHeld hb) (fun hHeld => ?_)
              clear hK K hb
              refine wpAnyH_take (i := 12) (v := ?v46) rfl (by kernel_rfl) (by kernel_rfl) (by kernel_rfl) (fun _ _ _ h => h) (Or.inl ⟨by rfl, ?hy46⟩) hHeld ?rest46
              case hy46 => (intro w hSw; clear hSw; go_simp; try with_reducible rfl)
              try simp only [List.getElem_toArray]
              try simp only [List.getElem_cons_succ]
              try simp only [List.getElem_cons_zero]
              try simp only [Act.put]
              try simp only [List.setIfInBounds_toArray]
              try simp only [List.set_cons_succ]
              try simp only [List.set_cons_zero]
              refine wpAnyH_take (i := 13) (v := ?v47) rfl (by kernel_rfl) (by kernel_rfl) (by kernel_rfl) (fun _ _ _ h => h) (Or.inl ⟨by rfl, ?hy47⟩) hHeld ?rest47
              case hy47 => (intro w hSw; clear hSw; go_simp; try with_reducible rfl)
              try simp only [List.getElem_toArray]
              try simp only [List.getElem_cons_succ]
              try simp only [List.getElem_cons_zero]
              try simp only [Act.put]
              try simp only [List.setIfInBounds_toArray]
              try simp only [List.set_cons_succ]
              try simp only [List.set_cons_zero]
              refine wpAnyH_take (i := 14) (v := ?v48) rfl (by kernel_rfl) (by kernel_rfl) (by kernel_rfl) (fun _ _ _ h => h) (Or.inl ⟨by rfl, ?hy48⟩) hHeld ?rest48
              case hy48 => (intro w hSw; clear hSw; go_simp; try with_reducible rfl)
              try simp only [List.getElem_toArray]
              try simp only [List.getElem_cons_succ]
              try simp only [List.getElem_cons_zero]
              try simp only [Act.put]
              try simp only [List.setIfInBounds_toArray]
              try simp only [List.set_cons_succ]
              try simp only [List.set_cons_zero]
              refine wpAnyH_ready (rs := [16]) (by kernel_rfl) (by simp) ?_
              refine AllReadyH.cons rfl (fun K hK => ?_) (AllReadyH.nil)
              rw [if_pos (by rfl)]
              refine wp_store_all 24 _ _ rfl (cells := (o2.getD Ca.zero).arr) y0 rfl rfl sizeCa rfl (Ca.arr_one _) ?_
              intro u8 hn9 hk9
              replace y0 := hn9
              refine hK.out _ _ (hHeld.trans (hk9.below1 yg hHeld.size)) (fun hHeld => ?_)
              clear hK K hk9 hn9
              try simp only [List.getElem_toArray]
              try simp only [List.getElem_cons_succ]
              try simp only [List.getElem_cons_zero]
              try simp only [Act.put]
              try simp only [List.setIfInBounds_toArray]
              try simp only [List.set_cons_succ]
              try simp only [List.set_cons_zero]
              refine wpAnyH_take (i := 17) (v := ?v49) rfl (by kernel_rfl) (by kernel_rfl) (by kernel_rfl) (fun _ _ _ h => h) (Or.inl ⟨by rfl, ?hy49⟩) hHeld ?rest49
              case hy49 => (intro w hSw; clear hSw; go_simp; try with_reducible rfl)
              try simp only [List.getElem_toArray]
              try simp only [List.getElem_cons_succ]
              try simp only [List.getElem_cons_zero]
              try simp only [Act.put]
              try simp only [List.setIfInBounds_toArray]
              try simp only [List.set_cons_succ]
              try simp only [List.set_cons_zero]
              refine wpAnyH_done (by kernel_rfl) ?_ _
              replace b1 := b1.below hHeld
              replace hE := hE.next hHeld
              replace hB := below_next hB hHeld
              clear hHeld
              have HO := HU2.out o2 ho2
              clear ho2 hcB
              cases o2 with
              | none =>
                obtain rfl : kko2 = 210 := hkko2.out.symm
                by_cases hkn : k = n
                · have e1 : ((k : Int) == (n : Int)) = true := by simp; omega
                  clear hkn
                  go_wp2_with fail
                  go_ret
                  exact ⟨rfl, hB⟩
                · have e1 : ((k : Int) == (n : Int)) = false := by simp; omega
                  have kn1 : ((k : Int) + 1) ≤ (n : Int) := by omega
                  obtain ⟨S3, hS3, s3, s4, HU3⟩ := hcut hkn
                  have hw1 : IntKind.i64.wrap ((k : Int) + 1) = (k : Int) + 1 := by rw [IntKind.wrap_i64]; omega
                  clear hkn hcut
                  go_upto_region 9 with fail
                  try simp only [Act.put, List.setIfInBounds_toArray, List.set_cons_zero, List.set_cons_succ]
                  rename World => V9
                  refine wp_region_held_drew (S := fun v => Below V9.heap.size V9 v) (by kernel_rfl) ((Below.refl _ _).drew) (fun hHeld => ?_)
                  refine wpAnyH_take (i := 0) (v := ?v50) rfl (by kernel_rfl) (by kernel_rfl) (by kernel_rfl) (fun _ _ _ h => h) (Or.inl ⟨by rfl, ?hy50⟩) hHeld ?rest50
                  case hy50 => (intro w hSw; clear hSw; go_simp; try with_reducible rfl)
                  try simp only [List.getElem_toArray]
                  try simp only [List.getElem_cons_succ]
                  try simp only [List.getElem_cons_zero]
                  try simp only [Act.put]
                  try simp only [List.setIfInBounds_toArray]
                  try simp only [List.set_cons_succ]
                  try simp only [List.set_cons_zero]
                  refine wpAnyH_take (i := 1) (v := ?v51) rfl (by kernel_rfl) (by kernel_rfl) (by kernel_rfl) (fun _ _ _ h => h) (Or.inl ⟨by rfl, ?hy51⟩) hHeld ?rest51
                  case hy51 => (intro w hSw; clear hSw; go_simp; try with_reducible rfl)
                  try simp only [List.getElem_toArray]
                  try simp only [List.getElem_cons_succ]
                  try simp only [List.getElem_cons_zero]
                  try simp only [Act.put]
                  try simp only [List.setIfInBounds_toArray]
                  try simp only [List.set_cons_succ]
                  try simp only [List.set_cons_zero]
                  refine wpAnyH_take (i := 2) (v := ?v52) rfl (by kernel_rfl) (by kernel_rfl) (by kernel_rfl) (fun _ _ _ h => h) (Or.inl ⟨by rfl, ?hy52⟩) hHeld ?rest52
                  case hy52 => (intro w hSw; clear hSw; go_simp; try with_reducible rfl)
                  try simp only [List.getElem_toArray]
                  try simp only [List.getElem_cons_succ]
                  try simp only [List.getElem_cons_zero]
                  try simp only [Act.put]
                  try simp only [List.setIfInBounds_toArray]
                  try simp only [List.set_cons_succ]
                  try simp only [List.set_cons_zero]
                  refine wpAnyH_take (i := 3) (v := ?v53) rfl (by kernel_rfl) (by kernel_rfl) (by kernel_rfl) (fun _ _ _ h => h) (Or.inl ⟨by rfl, ?hy53⟩) hHeld ?rest53
                  case hy53 => (intro w hSw; clear hSw; go_simp; try with_reducible rfl)
                  try simp only [List.getElem_toArray]
                  try simp only [List.getElem_cons_succ]
                  try simp only [List.getElem_cons_zero]
                  try simp only [Act.put]
                  try simp only [List.setIfInBounds_toArray]
                  try simp only [List.set_cons_succ]
                  try simp only [List.set_cons_zero]
                  refine wpAnyH_take (i := 4) (v := ?v54) rfl (by kernel_rfl) (by kernel_rfl) (by kernel_rfl) (fun _ _ _ h => h) (Or.inl ⟨by rfl, ?hy54⟩) hHeld ?rest54
                  case hy54 => (intro w hSw; clear hSw; go_simp; try with_reducible rfl)
                  try simp only [List.getElem_toArray]
                  try simp only [List.getElem_cons_succ]
                  try simp only [List.getElem_cons_zero]
                  try simp only [Act.put]
                  try simp only [List.setIfInBounds_toArray]
                  try simp only [List.set_cons_succ]
                  try simp only [List.set_cons_zero]
                  refine wpAnyH_take (i := 5) (v := ?v55) rfl (by kernel_rfl) (by kernel_rfl) (by kernel_rfl) (fun _ _ _ h => h) (Or.inl ⟨by rfl, ?hy55⟩) hHeld ?rest55
                  case hy55 => (intro w hSw; clear hSw; go_simp; try with_reducible rfl)
                  try simp only [List.getElem_toArray]
                  try simp only [List.getElem_cons_succ]
                  try simp only [List.getElem_cons_zero]
                  try simp only [Act.put]
                  try simp only [List.setIfInBounds_toArray]
                  try simp only [List.set_cons_succ]
                  try simp only [List.set_cons_zero]
                  refine wpAnyH_take (i := 6) (v := ?v56) rfl (by kernel_rfl) (by kernel_rfl) (by kernel_rfl) (fun _ _ _ h => h) (Or.inl ⟨by rfl, ?hy56⟩) hHeld ?rest56
                  case hy56 => (intro w hSw; clear hSw; go_simp; try with_reducible rfl)
                  try simp only [List.getElem_toArray]
                  try simp only [List.getElem_cons_succ]
                  try simp only [List.getElem_cons_zero]
                  try simp only [Act.put]
                  try simp only [List.setIfInBounds_toArray]
                  try simp only [List.set_cons_succ]
                  try simp only [List.set_cons_zero]
                  refine wpAnyH_take (i := 7) (v := ?v57) rfl (by kernel_rfl) (by kernel_rfl) (by kernel_rfl) (fun _ _ _ h => h) (Or.inl ⟨by rfl, ?hy57⟩) hHeld ?rest57
                  case hy57 => (intro w hSw; clear hSw; go_simp; try with_reducible rfl)
                  try simp only [List.getElem_toArray]
                  try simp only [List.getElem_cons_succ]
                  try simp only [List.getElem_cons_zero]
                  try simp only [Act.put]
                  try simp only [List.setIfInBounds_toArray]
                  try simp only [List.set_cons_succ]
                  try simp only [List.set_cons_zero]
                  refine wpAnyH_ready (rs := [8, 12]) (by kernel_rfl) (by simp) ?_
                  refine AllReadyH.cons rfl (fun K hK => ?_) (AllReadyH.cons rfl (fun K hK => ?_) (AllReadyH.nil))
                  · go_simp
                    go_wp2_with (refine (parse_ok S3 hS3 _ (hE.next hHeld)).mono ?_; rintro r u1 ⟨⟨o3, ho3, rfl⟩, hb⟩; obtain ⟨kko3, hkko3⟩ : ∃ kk : Int, Hid ((if o3.isSome = true then 0 else 210) = kk) := ⟨_, rfl⟩; rw [hkko3.out])
                    refine hK.out _ _ (below_next hHeld hb) (fun hHeld => ?_)
                    clear hK K hb
                    refine wpAnyH_take (i := 9) (v := ?v58) rfl (by kernel_rfl) (by kernel_rfl) (by kernel_rfl) (fun _ _ _ h => h) (Or.inl ⟨by rfl, ?hy58⟩) hHeld ?rest58
                    case hy58 => (intro w hSw; clear hSw; go_simp; try with_reducible rfl)
                    try simp only [List.getElem_toArray]
                    try simp only [List.getElem_cons_succ]
                    try simp only [List.getElem_cons_zero]
                    try simp only [Act.put]
                    try simp only [List.setIfInBounds_toArray]
                    try simp only [List.set_cons_succ]
                    try simp only [List.set_cons_zero]
                    refine wpAnyH_take (i := 10) (v := ?v59) rfl (by kernel_rfl) (by kernel_rfl) (by kernel_rfl) (fun _ _ _ h => h) (Or.inl ⟨by rfl, ?hy59⟩) hHeld ?rest59
                    case hy59 => (intro w hSw; clear hSw; go_simp; try with_reducible rfl)
                    try simp only [List.getElem_toArray]
                    try simp only [List.getElem_cons_succ]
                    try simp only [List.getElem_cons_zero]
                    try simp only [Act.put]
                    try simp only [List.setIfInBounds_toArray]
                    try simp only [List.set_cons_succ]
                    try simp only [List.set_cons_zero]
                    refine wpAnyH_take (i := 11) (v := ?v60) rfl (by kernel_rfl) (by kernel_rfl) (by kernel_rfl) (fun _ _ _ h => h) (Or.inl ⟨by rfl, ?hy60⟩) hHeld ?rest60
                    case hy60 => (intro w hSw; clear hSw; go_simp; try with_reducible rfl)
                    try simp only [List.getElem_toArray]
                    try simp only [List.getElem_cons_succ]
                    try simp only [List.getElem_cons_zero]
                    try simp only [Act.put]
                    try simp only [List.setIfInBounds_toArray]
                    try simp only [List.set_cons_succ]
                    try simp only [List.set_cons_zero]
                    refine wpAnyH_ready (rs := [12]) (by kernel_rfl) (by simp) ?_
                    refine AllReadyH.cons rfl (fun K hK => ?_) (AllReadyH.nil)
                    rw [if_pos (by rfl)]
                    refine wp_alloc_any zeroCa rfl ?_
                    intro yp u2 y0 hb yl yt
                    have yg := Nat.le_trans hHeld.size yl
                    refine hK.out _ _ (below_next hHeld hb) (fun hHeld => ?_)
                    clear hK K hb yl yt
                    try simp only [List.getElem_toArray]
                    try simp only [List.getElem_cons_succ]
                    try simp only [List.getElem_cons_zero]
                    try simp only [Act.put]
                    try simp only [List.setIfInBounds_toArray]
                    try simp only [List.set_cons_succ]
                    try simp only [List.set_cons_zero]
                    refine wpAnyH_ready (rs := [13]) (by kernel_rfl) (by simp) ?_
                    refine AllReadyH.cons rfl (fun K hK => ?_) (AllReadyH.nil)
                    rw [if_pos (by rfl)]
                    refine wp_store_all 24 _ _ rfl (cells := (o3.getD Ca.zero).arr) y0 rfl rfl sizeCa rfl (Ca.arr_one _) ?_
                    intro u3 hn9 hk9
                    replace y0 := hn9
                    refine hK.out _ _ (hHeld.trans (hk9.below1 yg hHeld.size)) (fun hHeld => ?_)
                    clear hK K hk9 hn9
                    try simp only [List.getElem_toArray]
                    try simp only [List.getElem_cons_succ]
                    try simp only [List.getElem_cons_zero]
                    try simp only [Act.put]
                    try simp only [List.setIfInBounds_toArray]
                    try simp only [List.set_cons_succ]
                    try simp only [List.set_cons_zero]
                    refine wpAnyH_take (i := 14) (v := ?v61) rfl (by kernel_rfl) (by kernel_rfl) (by kernel_rfl) (fun _ _ _ h => h) (Or.inl ⟨by rfl, ?hy61⟩) hHeld ?rest61
                    case hy61 => (intro w hSw; clear hSw; go_simp; try with_reducible rfl)
                    try simp only [List.getElem_toArray]
                    try simp only [List.getElem_cons_succ]
                    try simp only [List.getElem_cons_zero]
                    try simp only [Act.put]
                    try simp only [List.setIfInBounds_toArray]
                    try simp only [List.set_cons_succ]
                    try simp only [List.set_cons_zero]
                    refine wpAnyH_done (by kernel_rfl) ?_ _
                    replace b1 := b1.below hHeld
                    replace hB := below_next hB hHeld
                    clear hHeld hE
                    have HO := HU3.out o3 ho3
                    clear ho3
                    cases o3 with
                    | none =>
                      obtain rfl : kko3 = 210 := hkko3.out.symm
                      go_wp2_with fail
                      go_ret
                      exact ⟨rfl, hB⟩
                    | some d =>
                      obtain rfl : kko3 = 0 := hkko3.out.symm
                      have nq := neqCa d a false (HO d rfl)
                      clear HO
                      go_wp2_with (first | refine load_want (by rfl) 24 _ rfl y0 rfl Tryd.underlying24 rfl sizeCa ?_ | refine load_want (by rfl) 24 _ rfl b1 rfl Tryd.underlying24 rfl sizeCa ?_)
                      go_ret
                      exact ⟨rfl, hB⟩
                  · rw [if_pos (by rfl)]
                    refine wp_alloc_any zeroCa rfl ?_
                    intro yp u4 y0 hb yl yt
                    have yg := Nat.le_trans hHeld.size yl
                    refine hK.out _ _ (below_next hHeld hb) (fun hHeld => ?_)
                    clear hK K hb yl yt
                    try simp only [List.getElem_toArray]
                    try simp only [List.getElem_cons_succ]
                    try simp only [List.getElem_cons_zero]
                    try simp only [Act.put]
                    try simp only [List.setIfInBounds_toArray]
                    try simp only [List.set_cons_succ]
                    try simp only [List.set_cons_zero]
                    refine wpAnyH_ready (rs := [8]) (by kernel_rfl) (by simp) ?_
                    refine AllReadyH.cons rfl (fun K hK => ?_) (AllReadyH.nil)
                    go_simp
                    go_wp2_with (refine (parse_ok S3 hS3 _ (hE.next hHeld)).mono ?_; rintro r u5 ⟨⟨o3, ho3, rfl⟩, hb⟩; obtain ⟨kko3, hkko3⟩ : ∃ kk : Int, Hid ((if o3.isSome = true then 0 else 210) = kk) := ⟨_, rfl⟩; rw [hkko3.out])
                    replace y0 := y0.below hb
                    refine hK.out _ _ (below_next hHeld hb) (fun hHeld => ?_)
                    clear hK K hb
                    refine wpAnyH_take (i := 9) (v := ?v62) rfl (by kernel_rfl) (by kernel_rfl) (by kernel_rfl) (fun _ _ _ h => h) (Or.inl ⟨by rfl, ?hy62⟩) hHeld ?rest62
                    case hy62 => (intro w hSw; clear hSw; go_simp; try with_reducible rfl)
                    try simp only [List.getElem_toArray]
                    try simp only [List.getElem_cons_succ]
                    try simp only [List.getElem_cons_zero]
                    try simp only [Act.put]
                    try simp only [List.setIfInBounds_toArray]
                    try simp only [List.set_cons_succ]
                    try simp only [List.set_cons_zero]
                    refine wpAnyH_take (i := 10) (v := ?v63) rfl (by kernel_rfl) (by kernel_rfl) (by kernel_rfl) (fun _ _ _ h => h) (Or.inl ⟨by rfl, ?hy63⟩) hHeld ?rest63
                    case hy63 => (intro w hSw; clear hSw; go_simp; try with_reducible rfl)
                    try simp only [List.getElem_toArray]
                    try simp only [List.getElem_cons_succ]
                    try simp only [List.getElem_cons_zero]
                    try simp only [Act.put]
                    try simp only [List.setIfInBounds_toArray]
                    try simp only [List.set_cons_succ]
                    try simp only [List.set_cons_zero]
                    refine wpAnyH_take (i := 11) (v := ?v64) rfl (by kernel_rfl) (by kernel_rfl) (by kernel_rfl) (fun _ _ _ h => h) (Or.inl ⟨by rfl, ?hy64⟩) hHeld ?rest64
                    case hy64 => (intro w hSw; clear hSw; go_simp; try with_reducible rfl)
                    try simp only [List.getElem_toArray]
                    try simp only [List.getElem_cons_succ]
                    try simp only [List.getElem_cons_zero]
                    try simp only [Act.put]
                    try simp only [List.setIfInBounds_toArray]
                    try simp only [List.set_cons_succ]
                    try simp only [List.set_cons_zero]
                    refine wpAnyH_ready (rs := [13]) (by kernel_rfl) (by simp) ?_
                    refine AllReadyH.cons rfl (fun K hK => ?_) (AllReadyH.nil)
                    rw [if_pos (by rfl)]
                    refine wp_store_all 24 _ _ rfl (cells := (o3.getD Ca.zero).arr) y0 rfl rfl sizeCa rfl (Ca.arr_one _) ?_
                    intro u6 hn9 hk9
                    replace y0 := hn9
                    refine hK.out _ _ (hHeld.trans (hk9.below1 yg hHeld.size)) (fun hHeld => ?_)
                    clear hK K hk9 hn9
                    try simp only [List.getElem_toArray]
                    try simp only [List.getElem_cons_succ]
                    try simp only [List.getElem_cons_zero]
                    try simp only [Act.put]
                    try simp only [List.setIfInBounds_toArray]
                    try simp only [List.set_cons_succ]
                    try simp only [List.set_cons_zero]
                    refine wpAnyH_take (i := 14) (v := ?v65) rfl (by kernel_rfl) (by kernel_rfl) (by kernel_rfl) (fun _ _ _ h => h) (Or.inl ⟨by rfl, ?hy65⟩) hHeld ?rest65
                    case hy65 => (intro w hSw; clear hSw; go_simp; try with_reducible rfl)
                    try simp only [List.getElem_toArray]
                    try simp only [List.getElem_cons_succ]
                    try simp only [List.getElem_cons_zero]
                    try simp only [Act.put]
                    try simp only [List.setIfInBounds_toArray]
                    try simp only [List.set_cons_succ]
                    try simp only [List.set_cons_zero]
                    refine wpAnyH_done (by kernel_rfl) ?_ _
                    replace b1 := b1.below hHeld
                    replace hB := below_next hB hHeld
                    clear hHeld hE
                    have HO := HU3.out o3 ho3
                    clear ho3
                    cases o3 with
                    | none =>
                      obtain rfl : kko3 = 210 := hkko3.out.symm
                      go_wp2_with fail
                      go_ret
                      exact ⟨rfl, hB⟩
                    | some d =>
                      obtain rfl : kko3 = 0 := hkko3.out.symm
                      have nq := neqCa d a false (HO d rfl)
                      clear HO
                      go_wp2_with (first | refine load_want (by rfl) 24 _ rfl y0 rfl Tryd.underlying24 rfl sizeCa ?_ | refine load_want (by rfl) 24 _ rfl b1 rfl Tryd.underlying24 rfl sizeCa ?_)
                      go_ret
                      exact ⟨rfl, hB⟩
              | some d =>
                obtain rfl : kko2 = 0 := hkko2.out.symm
                have nq := eqlCa d a false (HO d rfl)
                go_upto_region 7 with (go_big_may; first | refine load_want (by rfl) 24 _ rfl y0 rfl Tryd.underlying24 rfl sizeCa ?_ | refine load_want (by rfl) 24 _ rfl b1 rfl Tryd.underlying24 rfl sizeCa ?_)
                try simp only [Act.put, List.setIfInBounds_toArray, List.set_cons_zero, List.set_cons_succ]
                clear nq y0
                by_cases hkn : k = n
                · have e1 : ((k : Int) == (n : Int)) = true := by simp; omega
                  clear hkn
                  go_wp2_with fail
                  go_ret
                  exact ⟨rfl, hB⟩
                · have e1 : ((k : Int) == (n : Int)) = false := by simp; omega
                  have kn1 : ((k : Int) + 1) ≤ (n : Int) := by omega
                  obtain ⟨S3, hS3, s3, s4, HU3⟩ := hcut hkn
                  have hw1 : IntKind.i64.wrap ((k : Int) + 1) = (k : Int) + 1 := by rw [IntKind.wrap_i64]; omega
                  clear hkn hcut
                  go_upto_region 9 with fail
                  try simp only [Act.put, List.setIfInBounds_toArray, List.set_cons_zero, List.set_cons_succ]
                  rename World => V9
                  refine wp_region_held_drew (S := fun v => Below V9.heap.size V9 v) (by kernel_rfl) ((Below.refl _ _).drew) (fun hHeld => ?_)
                  refine wpAnyH_take (i := 0) (v := ?v66) rfl (by kernel_rfl) (by kernel_rfl) (by kernel_rfl) (fun _ _ _ h => h) (Or.inl ⟨by rfl, ?hy66⟩) hHeld ?rest66
                  case hy66 => (intro w hSw; clear hSw; go_simp; try with_reducible rfl)
                  try simp only [List.getElem_toArray]
                  try simp only [List.getElem_cons_succ]
                  try simp only [List.getElem_cons_zero]
                  try simp only [Act.put]
                  try simp only [List.setIfInBounds_toArray]
                  try simp only [List.set_cons_succ]
                  try simp only [List.set_cons_zero]
                  refine wpAnyH_take (i := 1) (v := ?v67) rfl (by kernel_rfl) (by kernel_rfl) (by kernel_rfl) (fun _ _ _ h => h) (Or.inl ⟨by rfl, ?hy67⟩) hHeld ?rest67
                  case hy67 => (intro w hSw; clear hSw; go_simp; try with_reducible rfl)
                  try simp only [List.getElem_toArray]
                  try simp only [List.getElem_cons_succ]
                  try simp only [List.getElem_cons_zero]
                  try simp only [Act.put]
                  try simp only [List.setIfInBounds_toArray]
                  try simp only [List.set_cons_succ]
                  try simp only [List.set_cons_zero]
                  refine wpAnyH_take (i := 2) (v := ?v68) rfl (by kernel_rfl) (by kernel_rfl) (by kernel_rfl) (fun _ _ _ h => h) (Or.inl ⟨by rfl, ?hy68⟩) hHeld ?rest68
                  case hy68 => (intro w hSw; clear hSw; go_simp; try with_reducible rfl)
                  try simp only [List.getElem_toArray]
                  try simp only [List.getElem_cons_succ]
                  try simp only [List.getElem_cons_zero]
                  try simp only [Act.put]
                  try simp only [List.setIfInBounds_toArray]
                  try simp only [List.set_cons_succ]
                  try simp only [List.set_cons_zero]
                  refine wpAnyH_take (i := 3) (v := ?v69) rfl (by kernel_rfl) (by kernel_rfl) (by kernel_rfl) (fun _ _ _ h => h) (Or.inl ⟨by rfl, ?hy69⟩) hHeld ?rest69
                  case hy69 => (intro w hSw; clear hSw; go_simp; try with_reducible rfl)
                  try simp only [List.getElem_toArray]
                  try simp only [List.getElem_cons_succ]
                  try simp only [List.getElem_cons_zero]
                  try simp only [Act.put]
                  try simp only [List.setIfInBounds_toArray]
                  try simp only [List.set_cons_succ]
                  try simp only [List.set_cons_zero]
                  refine wpAnyH_take (i := 4) (v := ?v70) rfl (by kernel_rfl) (by kernel_rfl) (by kernel_rfl) (fun _ _ _ h => h) (Or.inl ⟨by rfl, ?hy70⟩) hHeld ?rest70
                  case hy70 => (intro w hSw; clear hSw; go_simp; try with_reducible rfl)
                  try simp only [List.getElem_toArray]
                  try simp only [List.getElem_cons_succ]
                  try simp only [List.getElem_cons_zero]
                  try simp only [Act.put]
                  try simp only [List.setIfInBounds_toArray]
                  try simp only [List.set_cons_succ]
                  try simp only [List.set_cons_zero]
                  refine wpAnyH_take (i := 5) (v := ?v71) rfl (by kernel_rfl) (by kernel_rfl) (by kernel_rfl) (fun _ _ _ h => h) (Or.inl ⟨by rfl, ?hy71⟩) hHeld ?rest71
                  case hy71 => (intro w hSw; clear hSw; go_simp; try with_reducible rfl)
                  try simp only [List.getElem_toArray]
                  try simp only [List.getElem_cons_succ]
                  try simp only [List.getElem_cons_zero]
                  try simp only [Act.put]
                  try simp only [List.setIfInBounds_toArray]
                  try simp only [List.set_cons_succ]
                  try simp only [List.set_cons_zero]
                  refine wpAnyH_take (i := 6) (v := ?v72) rfl (by kernel_rfl) (by kernel_rfl) (by kernel_rfl) (fun _ _ _ h => h) (Or.inl ⟨by rfl, ?hy72⟩) hHeld ?rest72
                  case hy72 => (intro w hSw; clear hSw; go_simp; try with_reducible rfl)
                  try simp only [List.getElem_toArray]
                  try simp only [List.getElem_cons_succ]
                  try simp only [List.getElem_cons_zero]
                  try simp only [Act.put]
                  try simp only [List.setIfInBounds_toArray]
                  try simp only [List.set_cons_succ]
                  try simp only [List.set_cons_zero]
                  refine wpAnyH_take (i := 7) (v := ?v73) rfl (by kernel_rfl) (by kernel_rfl) (by kernel_rfl) (fun _ _ _ h => h) (Or.inl ⟨by rfl, ?hy73⟩) hHeld ?rest73
                  case hy73 => (intro w hSw; clear hSw; go_simp; try with_reducible rfl)
                  try simp only [List.getElem_toArray]
                  try simp only [List.getElem_cons_succ]
                  try simp only [List.getElem_cons_zero]
                  try simp only [Act.put]
                  try simp only [List.setIfInBounds_toArray]
                  try simp only [List.set_cons_succ]
                  try simp only [List.set_cons_zero]
                  refine wpAnyH_ready (rs := [8, 12]) (by kernel_rfl) (by simp) ?_
                  refine AllReadyH.cons rfl (fun K hK => ?_) (AllReadyH.cons rfl (fun K hK => ?_) (AllReadyH.nil))
                  · go_simp
                    go_wp2_with (refine (parse_ok S3 hS3 _ (hE.next hHeld)).mono ?_; rintro r u1 ⟨⟨o3, ho3, rfl⟩, hb⟩; obtain ⟨kko3, hkko3⟩ : ∃ kk : Int, Hid ((if o3.isSome = true then 0 else 210) = kk) := ⟨_, rfl⟩; rw [hkko3.out])
                    refine hK.out _ _ (below_next hHeld hb) (fun hHeld => ?_)
                    clear hK K hb
                    refine wpAnyH_take (i := 9) (v := ?v74) rfl (by kernel_rfl) (by kernel_rfl) (by kernel_rfl) (fun _ _ _ h => h) (Or.inl ⟨by rfl, ?hy74⟩) hHeld ?rest74
                    case hy74 => (intro w hSw; clear hSw; go_simp; try with_reducible rfl)
                    try simp only [List.getElem_toArray]
                    try simp only [List.getElem_cons_succ]
                    try simp only [List.getElem_cons_zero]
                    try simp only [Act.put]
                    try simp only [List.setIfInBounds_toArray]
                    try simp only [List.set_cons_succ]
                    try simp only [List.set_cons_zero]
                    refine wpAnyH_take (i := 10) (v := ?v75) rfl (by kernel_rfl) (by kernel_rfl) (by kernel_rfl) (fun _ _ _ h => h) (Or.inl ⟨by rfl, ?hy75⟩) hHeld ?rest75
                    case hy75 => (intro w hSw; clear hSw; go_simp; try with_reducible rfl)
                    try simp only [List.getElem_toArray]
                    try simp only [List.getElem_cons_succ]
                    try simp only [List.getElem_cons_zero]
                    try simp only [Act.put]
                    try simp only [List.setIfInBounds_toArray]
                    try simp only [List.set_cons_succ]
                    try simp only [List.set_cons_zero]
                    refine wpAnyH_take (i := 11) (v := ?v76) rfl (by kernel_rfl) (by kernel_rfl) (by kernel_rfl) (fun _ _ _ h => h) (Or.inl ⟨by rfl, ?hy76⟩) hHeld ?rest76
                    case hy76 => (intro w hSw; clear hSw; go_simp; try with_reducible rfl)
                    try simp only [List.getElem_toArray]
                    try simp only [List.getElem_cons_succ]
                    try simp only [List.getElem_cons_zero]
                    try simp only [Act.put]
                    try simp only [List.setIfInBounds_toArray]
                    try simp only [List.set_cons_succ]
                    try simp only [List.set_cons_zero]
                    refine wpAnyH_ready (rs := [12]) (by kernel_rfl) (by simp) ?_
                    refine AllReadyH.cons rfl (fun K hK => ?_) (AllReadyH.nil)
                    rw [if_pos (by rfl)]
                    refine wp_alloc_any zeroCa rfl ?_
                    intro yp u2 y0 hb yl yt
                    have yg := Nat.le_trans hHeld.size yl
                    refine hK.out _ _ (below_next hHeld hb) (fun hHeld => ?_)
                    clear hK K hb yl yt
                    try simp only [List.getElem_toArray]
                    try simp only [List.getElem_cons_succ]
                    try simp only [List.getElem_cons_zero]
                    try simp only [Act.put]
                    try simp only [List.setIfInBounds_toArray]
                    try simp only [List.set_cons_succ]
                    try simp only [List.set_cons_zero]
                    refine wpAnyH_ready (rs := [13]) (by kernel_rfl) (by simp) ?_
                    refine AllReadyH.cons rfl (fun K hK => ?_) (AllReadyH.nil)
                    rw [if_pos (by rfl)]
                    refine wp_store_all 24 _ _ rfl (cells := (o3.getD Ca.zero).arr) y0 rfl rfl sizeCa rfl (Ca.arr_one _) ?_
                    intro u3 hn9 hk9
                    replace y0 := hn9
                    refine hK.out _ _ (hHeld.trans (hk9.below1 yg hHeld.size)) (fun hHeld => ?_)
                    clear hK K hk9 hn9
                    try simp only [List.getElem_toArray]
                    try simp only [List.getElem_cons_succ]
                    try simp only [List.getElem_cons_zero]
                    try simp only [Act.put]
                    try simp only [List.setIfInBounds_toArray]
                    try simp only [List.set_cons_succ]
                    try simp only [List.set_cons_zero]
                    refine wpAnyH_take (i := 14) (v := ?v77) rfl (by kernel_rfl) (by kernel_rfl) (by kernel_rfl) (fun _ _ _ h => h) (Or.inl ⟨by rfl, ?hy77⟩) hHeld ?rest77
                    case hy77 => (intro w hSw; clear hSw; go_simp; try with_reducible rfl)
                    try simp only [List.getElem_toArray]
                    try simp only [List.getElem_cons_succ]
                    try simp only [List.getElem_cons_zero]
                    try simp only [Act.put]
                    try simp only [List.setIfInBounds_toArray]
                    try simp only [List.set_cons_succ]
                    try simp only [List.set_cons_zero]
                    refine wpAnyH_done (by kernel_rfl) ?_ _
                    replace b1 := b1.below hHeld
                    replace hB := below_next hB hHeld
                    clear hHeld hE
                    have HO := HU3.out o3 ho3
                    clear ho3
                    cases o3 with
                    | none =>
                      obtain rfl : kko3 = 210 := hkko3.out.symm
                      go_wp2_with fail
                      go_ret
                      exact ⟨rfl, hB⟩
                    | some d =>
                      obtain rfl : kko3 = 0 := hkko3.out.symm
                      have nq := neqCa d a false (HO d rfl)
                      clear HO
                      go_wp2_with (first | refine load_want (by rfl) 24 _ rfl y0 rfl Tryd.underlying24 rfl sizeCa ?_ | refine load_want (by rfl) 24 _ rfl b1 rfl Tryd.underlying24 rfl sizeCa ?_)
                      go_ret
                      exact ⟨rfl, hB⟩
                  · rw [if_pos (by rfl)]
                    refine wp_alloc_any zeroCa rfl ?_
                    intro yp u4 y0 hb yl yt
                    have yg := Nat.le_trans hHeld.size yl
                    refine hK.out _ _ (below_next hHeld hb) (fun hHeld => ?_)
                    clear hK K hb yl yt
                    try simp only [List.getElem_toArray]
                    try simp only [List.getElem_cons_succ]
                    try simp only [List.getElem_cons_zero]
                    try simp only [Act.put]
                    try simp only [List.setIfInBounds_toArray]
                    try simp only [List.set_cons_succ]
                    try simp only [List.set_cons_zero]
                    refine wpAnyH_ready (rs := [8]) (by kernel_rfl) (by simp) ?_
                    refine AllReadyH.cons rfl (fun K hK => ?_) (AllReadyH.nil)
                    go_simp
                    go_wp2_with (refine (parse_ok S3 hS3 _ (hE.next hHeld)).mono ?_; rintro r u5 ⟨⟨o3, ho3, rfl⟩, hb⟩; obtain ⟨kko3, hkko3⟩ : ∃ kk : Int, Hid ((if o3.isSome = true then 0 else 210) = kk) := ⟨_, rfl⟩; rw [hkko3.out])
                    replace y0 := y0.below hb
                    refine hK.out _ _ (below_next hHeld hb) (fun hHeld => ?_)
                    clear hK K hb
                    refine wpAnyH_take (i := 9) (v := ?v78) rfl (by kernel_rfl) (by kernel_rfl) (by kernel_rfl) (fun _ _ _ h => h) (Or.inl ⟨by rfl, ?hy78⟩) hHeld ?rest78
                    case hy78 => (intro w hSw; clear hSw; go_simp; try with_reducible rfl)
                    try simp only [List.getElem_toArray]
                    try simp only [List.getElem_cons_succ]
                    try simp only [List.getElem_cons_zero]
                    try simp only [Act.put]
                    try simp only [List.setIfInBounds_toArray]
                    try simp only [List.set_cons_succ]
                    try simp only [List.set_cons_zero]
                    refine wpAnyH_take (i := 10) (v := ?v79) rfl (by kernel_rfl) (by kernel_rfl) (by kernel_rfl) (fun _ _ _ h => h) (Or.inl ⟨by rfl, ?hy79⟩) hHeld ?rest79
                    case hy79 => (intro w hSw; clear hSw; go_simp; try with_reducible rfl)
                    try simp only [List.getElem_toArray]
                    try simp only [List.getElem_cons_succ]
                    try simp only [List.getElem_cons_zero]
                    try simp only [Act.put]
                    try simp only [List.setIfInBounds_toArray]
                    try simp only [List.set_cons_succ]
                    try simp only [List.set_cons_zero]
                    refine wpAnyH_take (i := 11) (v := ?v80) rfl (by kernel_rfl) (by kernel_rfl) (by kernel_rfl) (fun _ _ _ h => h) (Or.inl ⟨by rfl, ?hy80⟩) hHeld ?rest80
                    case hy80 => (intro w hSw; clear hSw; go_simp; try with_reducible rfl)
                    try simp only [List.getElem_toArray]
                    try simp only [List.getElem_cons_succ]
                    try simp only [List.getElem_cons_zero]
                    try simp only [Act.put]
                    try simp only [List.setIfInBounds_toArray]
                    try simp only [List.set_cons_succ]
                    try simp only [List.set_cons_zero]
                    refine wpAnyH_ready (rs := [13]) (by kernel_rfl) (by simp) ?_
                    refine AllReadyH.cons rfl (fun K hK => ?_) (AllReadyH.nil)
                    rw [if_pos (by rfl)]
                    refine wp_store_all 24 _ _ rfl (cells := (o3.getD Ca.zero).arr) y0 rfl rfl sizeCa rfl (Ca.arr_one _) ?_
                    intro u6 hn9 hk9
                    replace y0 := hn9
                    refine hK.out _ _ (hHeld.trans (hk9.below1 yg hHeld.size)) (fun hHeld => ?_)
                    clear hK K hk9 hn9
                    try simp only [List.getElem_toArray]
                    try simp only [List.getElem_cons_succ]
                    try simp only [List.getElem_cons_zero]
                    try simp only [Act.put]
                    try simp only [List.setIfInBounds_toArray]
                    try simp only [List.set_cons_succ]
                    try simp only [List.set_cons_zero]
                    refine wpAnyH_take (i := 14) (v := ?v81) rfl (by kernel_rfl) (by kernel_rfl) (by kernel_rfl) (fun _ _ _ h => h) (Or.inl ⟨by rfl, ?hy81⟩) hHeld ?rest81
                    case hy81 => (intro w hSw; clear hSw; go_simp; try with_reducible rfl)
                    try simp only [List.getElem_toArray]
                    try simp only [List.getElem_cons_succ]
                    try simp only [List.getElem_cons_zero]
                    try simp only [Act.put]
                    try simp only [List.setIfInBounds_toArray]
                    try simp only [List.set_cons_succ]
                    try simp only [List.set_cons_zero]
                    refine wpAnyH_done (by kernel_rfl) ?_ _
                    replace b1 := b1.below hHeld
                    replace hB := below_next hB hHeld
                    clear hHeld hE
                    have HO := HU3.out o3 ho3
                    clear ho3
                    cases o3 with
                    | none =>
                      obtain rfl : kko3 = 210 := hkko3.out.symm
                      go_wp2_with fail
                      go_ret
                      exact ⟨rfl, hB⟩
                    | some d =>
                      obtain rfl : kko3 = 0 := hkko3.out.symm
                      have nq := neqCa d a false (HO d rfl)
                      clear HO
                      go_wp2_with (first | refine load_want (by rfl) 24 _ rfl y0 rfl Tryd.underlying24 rfl sizeCa ?_ | refine load_want (by rfl) 24 _ rfl b1 rfl Tryd.underlying24 rfl sizeCa ?_)
                      go_ret
                      exact ⟨rfl, hB⟩
          · rw [if_pos (by rfl)]
            refine wp_alloc_any zeroCa rfl ?_
            intro yp u9 y0 hb yl yt
            have yg := Nat.le_trans hHeld.size yl
            replace hcB := hcB.below hb
            refine hK.out _ _ (below_next hHeld hb) (fun hHeld => ?_)
            clear hK K hb yl yt
            try simp only [List.getElem_toArray]
            try simp only [List.getElem_cons_succ]
            try simp only [List.getElem_cons_zero]
            try simp only [Act.put]
            try simp only [List.setIfInBounds_toArray]
            try simp only [List.set_cons_succ]
            try simp only [List.set_cons_zero]
            refine wpAnyH_ready (rs := [5]) (by kernel_rfl) (by simp) ?_
            refine AllReadyH.cons rfl (fun K hK => ?_) (AllReadyH.nil)
            rw [if_pos (by rfl)]
            refine wp_conv _ rfl rfl (byte_str hcB) ?_
            refine hK.out _ _ hHeld (fun hHeld => ?_)
            clear hK K 
            try simp only [List.getElem_toArray]
            try simp only [List.getElem_cons_succ]
            try simp only [List.getElem_cons_zero]
            try simp only [Act.put]
            try simp only [List.setIfInBounds_toArray]
            try simp only [List.set_cons_succ]
            try simp only [List.set_cons_zero]
            refine wpAnyH_take (i := 6) (v := ?v82) rfl (by kernel_rfl) (by kernel_rfl) (by kernel_rfl) (fun _ _ _ h => h) (Or.inl ⟨by rfl, ?hy82⟩) hHeld ?rest82
            case hy82 => (intro w hSw; clear hSw; go_simp; try with_reducible rfl)
            try simp only [List.getElem_toArray]
            try simp only [List.getElem_cons_succ]
            try simp only [List.getElem_cons_zero]
            try simp only [Act.put]
            try simp only [List.setIfInBounds_toArray]
            try simp only [List.set_cons_succ]
            try simp only [List.set_cons_zero]
            refine wpAnyH_take (i := 10) (v := ?v83) rfl (by kernel_rfl) (by kernel_rfl) (by kernel_rfl) (fun _ _ _ h => h) (Or.inl ⟨by rfl, ?hy83⟩) hHeld ?rest83
            case hy83 => (intro w hSw; clear hSw; go_simp; try with_reducible rfl)
            try simp only [List.getElem_toArray]
            try simp only [List.getElem_cons_succ]
            try simp only [List.getElem_cons_zero]
            try simp only [Act.put]
            try simp only [List.setIfInBounds_toArray]
            try simp only [List.set_cons_succ]
            try simp only [List.set_cons_zero]
            refine wpAnyH_ready (rs := [11]) (by kernel_rfl) (by simp) ?_
            refine AllReadyH.cons rfl (fun K hK => ?_) (AllReadyH.nil)
            go_simp
            go_wp2_with (refine (parse_ok S2 hS2 _ (hE.next hHeld)).mono ?_; rintro r u11 ⟨⟨o2, ho2, rfl⟩, hb⟩; obtain ⟨kko2, hkko2⟩ : ∃ kk : Int, Hid ((if o2.isSome = true then 0 else 210) = kk) := ⟨_, rfl⟩; rw [hkko2.out])
            replace y0 := y0.below hb
            refine hK.out _ _ (below_next hHeld hb) (fun hHeld => ?_)
            clear hK K hb
            refine wpAnyH_take (i := 12) (v := ?v84) rfl (by kernel_rfl) (by kernel_rfl) (by kernel_rfl) (fun _ _ _ h => h) (Or.inl ⟨by rfl, ?hy84⟩) hHeld ?rest84
            case hy84 => (intro w hSw; clear hSw; go_simp; try with_reducible rfl)
            try simp only [List.getElem_toArray]
            try simp only [List.getElem_cons_succ]
            try simp only [List.getElem_cons_zero]
            try simp only [Act.put]
            try simp only [List.setIfInBounds_toArray]
            try simp only [List.set_cons_succ]
            try simp only [List.set_cons_zero]
            refine wpAnyH_take (i := 13) (v := ?v85) rfl (by kernel_rfl) (by kernel_rfl) (by kernel_rfl) (fun _ _ _ h => h) (Or.inl ⟨by rfl, ?hy85⟩) hHeld ?rest85
            case hy85 => (intro w hSw; clear hSw; go_simp; try with_reducible rfl)
            try simp only [List.getElem_toArray]
            try simp only [List.getElem_cons_succ]
            try simp only [List.getElem_cons_zero]
            try simp only [Act.put]
            try simp only [List.setIfInBounds_toArray]
            try simp only [List.set_cons_succ]
            try simp only [List.set_cons_zero]
            refine wpAnyH_take (i := 14) (v := ?v86) rfl (by kernel_rfl) (by kernel_rfl) (by kernel_rfl) (fun _ _ _ h => h) (Or.inl ⟨by rfl, ?hy86⟩) hHeld ?rest86
            case hy86 => (intro w hSw; clear hSw; go_simp; try with_reducible rfl)
            try simp only [List.getElem_toArray]
            try simp only [List.getElem_cons_succ]
            try simp only [List.getElem_cons_zero]
            try simp only [Act.put]
            try simp only [List.setIfInBounds_toArray]
            try simp only [List.set_cons_succ]
            try simp only [List.set_cons_zero]
            refine wpAnyH_ready (rs := [16]) (by kernel_rfl) (by simp) ?_
            refine AllReadyH.cons rfl (fun K hK => ?_) (AllReadyH.nil)
            rw [if_pos (by rfl)]
            refine wp_store_all 24 _ _ rfl (cells := (o2.getD Ca.zero).arr) y0 rfl rfl sizeCa rfl (Ca.arr_one _) ?_
            intro u12 hn9 hk9
            replace y0 := hn9
            refine hK.out _ _ (hHeld.trans (hk9.below1 yg hHeld.size)) (fun hHeld => ?_)
            clear hK K hk9 hn9
            try simp only [List.getElem_toArray]
            try simp only [List.getElem_cons_succ]
            try simp only [List.getElem_cons_zero]
            try simp only [Act.put]
            try simp only [List.setIfInBounds_toArray]
            try simp only [List.set_cons_succ]
            try simp only [List.set_cons_zero]
            refine wpAnyH_take (i := 17) (v := ?v87) rfl (by kernel_rfl) (by kernel_rfl) (by kernel_rfl) (fun _ _ _ h => h) (Or.inl ⟨by rfl, ?hy87⟩) hHeld ?rest87
            case hy87 => (intro w hSw; clear hSw; go_simp; try with_reducible rfl)
            try simp only [List.getElem_toArray]
            try simp only [List.getElem_cons_succ]
            try simp only [List.getElem_cons_zero]
            try simp only [Act.put]
            try simp only [List.setIfInBounds_toArray]
            try simp only [List.set_cons_succ]
            try simp only [List.set_cons_zero]
            refine wpAnyH_done (by kernel_rfl) ?_ _
            replace b1 := b1.below hHeld
            replace hE := hE.next hHeld
            replace hB := below_next hB hHeld
            clear hHeld
            have HO := HU2.out o2 ho2
            clear ho2 hcB
            cases o2 with
            | none =>
              obtain rfl : kko2 = 210 := hkko2.out.symm
              by_cases hkn : k = n
              · have e1 : ((k : Int) == (n : Int)) = true := by simp; omega
                clear hkn
                go_wp2_with fail
                go_ret
                exact ⟨rfl, hB⟩
              · have e1 : ((k : Int) == (n : Int)) = false := by simp; omega
                have kn1 : ((k : Int) + 1) ≤ (n : Int) := by omega
                obtain ⟨S3, hS3, s3, s4, HU3⟩ := hcut hkn
                have hw1 : IntKind.i64.wrap ((k : Int) + 1) = (k : Int) + 1 := by rw [IntKind.wrap_i64]; omega
                clear hkn hcut
                go_upto_region 9 with fail
                try simp only [Act.put, List.setIfInBounds_toArray, List.set_cons_zero, List.set_cons_succ]
                rename World => V9
                refine wp_region_held_drew (S := fun v => Below V9.heap.size V9 v) (by kernel_rfl) ((Below.refl _ _).drew) (fun hHeld => ?_)
                refine wpAnyH_take (i := 0) (v := ?v88) rfl (by kernel_rfl) (by kernel_rfl) (by kernel_rfl) (fun _ _ _ h => h) (Or.inl ⟨by rfl, ?hy88⟩) hHeld ?rest88
                case hy88 => (intro w hSw; clear hSw; go_simp; try with_reducible rfl)
                try simp only [List.getElem_toArray]
                try simp only [List.getElem_cons_succ]
                try simp only [List.getElem_cons_zero]
                try simp only [Act.put]
                try simp only [List.setIfInBounds_toArray]
                try simp only [List.set_cons_succ]
                try simp only [List.set_cons_zero]
                refine wpAnyH_take (i := 1) (v := ?v89) rfl (by kernel_rfl) (by kernel_rfl) (by kernel_rfl) (fun _ _ _ h => h) (Or.inl ⟨by rfl, ?hy89⟩) hHeld ?rest89
                case hy89 => (intro w hSw; clear hSw; go_simp; try with_reducible rfl)
                try simp only [List.getElem_toArray]
                try simp only [List.getElem_cons_succ]
                try simp only [List.getElem_cons_zero]
                try simp only [Act.put]
                try simp only [List.setIfInBounds_toArray]
                try simp only [List.set_cons_succ]
                try simp only [List.set_cons_zero]
                refine wpAnyH_take (i := 2) (v := ?v90) rfl (by kernel_rfl) (by kernel_rfl) (by kernel_rfl) (fun _ _ _ h => h) (Or.inl ⟨by rfl, ?hy90⟩) hHeld ?rest90
                case hy90 => (intro w hSw; clear hSw; go_simp; try with_reducible rfl)
                try simp only [List.getElem_toArray]
                try simp only [List.getElem_cons_succ]
                try simp only [List.getElem_cons_zero]
                try simp only [Act.put]
                try simp only [List.setIfInBounds_toArray]
                try simp only [List.set_cons_succ]
                try simp only [List.set_cons_zero]
                refine wpAnyH_take (i := 3) (v := ?v91) rfl (by kernel_rfl) (by kernel_rfl) (by kernel_rfl) (fun _ _ _ h => h) (Or.inl ⟨by rfl, ?hy91⟩) hHeld ?rest91
                case hy91 => (intro w hSw; clear hSw; go_simp; try with_reducible rfl)
                try simp only [List.getElem_toArray]
                try simp only [List.getElem_cons_succ]
                try simp only [List.getElem_cons_zero]
                try simp only [Act.put]
                try simp only [List.setIfInBounds_toArray]
                try simp only [List.set_cons_succ]
                try simp only [List.set_cons_zero]
                refine wpAnyH_take (i := 4) (v := ?v92) rfl (by kernel_rfl) (by kernel_rfl) (by kernel_rfl) (fun _ _ _ h => h) (Or.inl ⟨by rfl, ?hy92⟩) hHeld ?rest92
                case hy92 => (intro w hSw; clear hSw; go_simp; try with_reducible rfl)
                try simp only [List.getElem_toArray]
                try simp only [List.getElem_cons_succ]
                try simp only [List.getElem_cons_zero]
                try simp only [Act.put]
                try simp only [List.setIfInBounds_toArray]
                try simp only [List.set_cons_succ]
                try simp only [List.set_cons_zero]
                refine wpAnyH_take (i := 5) (v := ?v93) rfl (by kernel_rfl) (by kernel_rfl) (by kernel_rfl) (fun _ _ _ h => h) (Or.inl ⟨by rfl, ?hy93⟩) hHeld ?rest93
                case hy93 => (intro w hSw; clear hSw; go_simp; try with_reducible rfl)
                try simp only [List.getElem_toArray]
                try simp only [List.getElem_cons_succ]
                try simp only [List.getElem_cons_zero]
                try simp only [Act.put]
                try simp only [List.setIfInBounds_toArray]
                try simp only [List.set_cons_succ]
                try simp only [List.set_cons_zero]
                refine wpAnyH_take (i := 6) (v := ?v94) rfl (by kernel_rfl) (by kernel_rfl) (by kernel_rfl) (fun _ _ _ h => h) (Or.inl ⟨by rfl, ?hy94⟩) hHeld ?rest94
                case hy94 => (intro w hSw; clear hSw; go_simp; try with_reducible rfl)
                try simp only [List.getElem_toArray]
                try simp only [List.getElem_cons_succ]
                try simp only [List.getElem_cons_zero]
                try simp only [Act.put]
                try simp only [List.setIfInBounds_toArray]
                try simp only [List.set_cons_succ]
                try simp only [List.set_cons_zero]
                refine wpAnyH_take (i := 7) (v := ?v95) rfl (by kernel_rfl) (by kernel_rfl) (by kernel_rfl) (fun _ _ _ h => h) (Or.inl ⟨by rfl, ?hy95⟩) hHeld ?rest95
                case hy95 => (intro w hSw; clear hSw; go_simp; try with_reducible rfl)
                try simp only [List.getElem_toArray]
                try simp only [List.getElem_cons_succ]
                try simp only [List.getElem_cons_zero]
                try simp only [Act.put]
                try simp only [List.setIfInBounds_toArray]
                try simp only [List.set_cons_succ]
                try simp only [List.set_cons_zero]
                refine wpAnyH_ready (rs := [8, 12]) (by kernel_rfl) (by simp) ?_
                refine AllReadyH.cons rfl (fun K hK => ?_) (AllReadyH.cons rfl (fun K hK => ?_) (AllReadyH.nil))
                · go_simp
                  go_wp2_with (refine (parse_ok S3 hS3 _ (hE.next hHeld)).mono ?_; rintro r u1 ⟨⟨o3, ho3, rfl⟩, hb⟩; obtain ⟨kko3, hkko3⟩ : ∃ kk : Int, Hid ((if o3.isSome = true then 0 else 210) = kk) := ⟨_, rfl⟩; rw [hkko3.out])
                  refine hK.out _ _ (below_next hHeld hb) (fun hHeld => ?_)
                  clear hK K hb
                  refine wpAnyH_take (i := 9) (v := ?v96) rfl (by kernel_rfl) (by kernel_rfl) (by kernel_rfl) (fun _ _ _ h => h) (Or.inl ⟨by rfl, ?hy96⟩) hHeld ?rest96
                  case hy96 => (intro w hSw; clear hSw; go_simp; try with_reducible rfl)
                  try simp only [List.getElem_toArray]
                  try simp only [List.getElem_cons_succ]
                  try simp only [List.getElem_cons_zero]
                  try simp only [Act.put]
                  try simp only [List.setIfInBounds_toArray]
                  try simp only [List.set_cons_succ]
                  try simp only [List.set_cons_zero]
                  refine wpAnyH_take (i := 10) (v := ?v97) rfl (by kernel_rfl) (by kernel_rfl) (by kernel_rfl) (fun _ _ _ h => h) (Or.inl ⟨by rfl, ?hy97⟩) hHeld ?rest97
                  case hy97 => (intro w hSw; clear hSw; go_simp; try with_reducible rfl)
                  try simp only [List.getElem_toArray]
                  try simp only [List.getElem_cons_succ]
                  try simp only [List.getElem_cons_zero]
                  try simp only [Act.put]
                  try simp only [List.setIfInBounds_toArray]
                  try simp only [List.set_cons_succ]
                  try simp only [List.set_cons_zero]
                  refine wpAnyH_take (i := 11) (v := ?v98) rfl (by kernel_rfl) (by kernel_rfl) (by kernel_rfl) (fun _ _ _ h => h) (Or.inl ⟨by rfl, ?hy98⟩) hHeld ?rest98
                  case hy98 => (intro w hSw; clear hSw; go_simp; try with_reducible rfl)
                  try simp only [List.getElem_toArray]
                  try simp only [List.getElem_cons_succ]
                  try simp only [List.getElem_cons_zero]
                  try simp only [Act.put]
                  try simp only [List.setIfInBounds_toArray]
                  try simp only [List.set_cons_succ]
                  try simp only [List.set_cons_zero]
                  refine wpAnyH_ready (rs := [12]) (by kernel_rfl) (by simp) ?_
                  refine AllReadyH.cons rfl (fun K hK => ?_) (AllReadyH.nil)
                  rw [if_pos (by rfl)]
                  refine wp_alloc_any zeroCa rfl ?_
                  intro yp u2 y0 hb yl yt
                  have yg := Nat.le_trans hHeld.size yl
                  refine hK.out _ _ (below_next hHeld hb) (fun hHeld => ?_)
                  clear hK K hb yl yt
                  try simp only [List.getElem_toArray]
                  try simp only [List.getElem_cons_succ]
                  try simp only [List.getElem_cons_zero]
                  try simp only [Act.put]
                  try simp only [List.setIfInBounds_toArray]
                  try simp only [List.set_cons_succ]
                  try simp only [List.set_cons_zero]
                  refine wpAnyH_ready (rs := [13]) (by kernel_rfl) (by simp) ?_
                  refine AllReadyH.cons rfl (fun K hK => ?_) (AllReadyH.nil)
                  rw [if_pos (by rfl)]
                  refine wp_store_all 24 _ _ rfl (cells := (o3.getD Ca.zero).arr) y0 rfl rfl sizeCa rfl (Ca.arr_one _) ?_
                  intro u3 hn9 hk9
                  replace y0 := hn9
                  refine hK.out _ _ (hHeld.trans (hk9.below1 yg hHeld.size)) (fun hHeld => ?_)
                  clear hK K hk9 hn9
                  try simp only [List.getElem_toArray]
                  try simp only [List.getElem_cons_succ]
                  try simp only [List.getElem_cons_zero]
                  try simp only [Act.put]
                  try simp only [List.setIfInBounds_toArray]
                  try simp only [List.set_cons_succ]
                  try simp only [List.set_cons_zero]
                  refine wpAnyH_take (i := 14) (v := ?v99) rfl (by kernel_rfl) (by kernel_rfl) (by kernel_rfl) (fun _ _ _ h => h) (Or.inl ⟨by rfl, ?hy99⟩) hHeld ?rest99
                  case hy99 => (intro w hSw; clear hSw; go_simp; try with_reducible rfl)
                  try simp only [List.getElem_toArray]
                  try simp only [List.getElem_cons_succ]
                  try simp only [List.getElem_cons_zero]
                  try simp only [Act.put]
                  try simp only [List.setIfInBounds_toArray]
                  try simp only [List.set_cons_succ]
                  try simp only [List.set_cons_zero]
                  refine wpAnyH_done (by kernel_rfl) ?_ _
                  replace b1 := b1.below hHeld
                  replace hB := below_next hB hHeld
                  clear hHeld hE
                  have HO := HU3.out o3 ho3
                  clear ho3
                  cases o3 with
                  | none =>
                    obtain rfl : kko3 = 210 := hkko3.out.symm
                    go_wp2_with fail
                    go_ret
                    exact ⟨rfl, hB⟩
                  | some d =>
                    obtain rfl : kko3 = 0 := hkko3.out.symm
                    have nq := neqCa d a false (HO d rfl)
                    clear HO
                    go_wp2_with (first | refine load_want (by rfl) 24 _ rfl y0 rfl Tryd.underlying24 rfl sizeCa ?_ | refine load_want (by rfl) 24 _ rfl b1 rfl Tryd.underlying24 rfl sizeCa ?_)
                    go_ret
                    exact ⟨rfl, hB⟩
                · rw [if_pos (by rfl)]
                  refine wp_alloc_any zeroCa rfl ?_
                  intro yp u4 y0 hb yl yt
                  have yg := Nat.le_trans hHeld.size yl
                  refine hK.out _ _ (below_next hHeld hb) (fun hHeld => ?_)
                  clear hK K hb yl yt
                  try simp only [List.getElem_toArray]
                  try simp only [List.getElem_cons_succ]
                  try simp only [List.getElem_cons_zero]
                  try simp only [Act.put]
                  try simp only [List.setIfInBounds_toArray]
                  try simp only [List.set_cons_succ]
                  try simp only [List.set_cons_zero]
                  refine wpAnyH_ready (rs := [8]) (by kernel_rfl) (by simp) ?_
                  refine AllReadyH.cons rfl (fun K hK => ?_) (AllReadyH.nil)
                  go_simp
                  go_wp2_with (refine (parse_ok S3 hS3 _ (hE.next hHeld)).mono ?_; rintro r u5 ⟨⟨o3, ho3, rfl⟩, hb⟩; obtain ⟨kko3, hkko3⟩ : ∃ kk : Int, Hid ((if o3.isSome = true then 0 else 210) = kk) := ⟨_, rfl⟩; rw [hkko3.out])
                  replace y0 := y0.below hb
                  refine hK.out _ _ (below_next hHeld hb) (fun hHeld => ?_)
                  clear hK K hb
                  refine wpAnyH_take (i := 9) (v := ?v100) rfl (by kernel_rfl) (by kernel_rfl) (by kernel_rfl) (fun _ _ _ h => h) (Or.inl ⟨by rfl, ?hy100⟩) hHeld ?rest100
                  case hy100 => (intro w hSw; clear hSw; go_simp; try with_reducible rfl)
                  try simp only [List.getElem_toArray]
                  try simp only [List.getElem_cons_succ]
                  try simp only [List.getElem_cons_zero]
                  try simp only [Act.put]
                  try simp only [List.setIfInBounds_toArray]
                  try simp only [List.set_cons_succ]
                  try simp only [List.set_cons_zero]
                  refine wpAnyH_take (i := 10) (v := ?v101) rfl (by kernel_rfl) (by kernel_rfl) (by kernel_rfl) (fun _ _ _ h => h) (Or.inl ⟨by rfl, ?hy101⟩) hHeld ?rest101
                  case hy101 => (intro w hSw; clear hSw; go_simp; try with_reducible rfl)
                  try simp only [List.getElem_toArray]
                  try simp only [List.getElem_cons_succ]
                  try simp only [List.getElem_cons_zero]
                  try simp only [Act.put]
                  try simp only [List.setIfInBounds_toArray]
                  try simp only [List.set_cons_succ]
                  try simp only [List.set_cons_zero]
                  refine wpAnyH_take (i := 11) (v := ?v102) rfl (by kernel_rfl) (by kernel_rfl) (by kernel_rfl) (fun _ _ _ h => h) (Or.inl ⟨by rfl, ?hy102⟩) hHeld ?rest102
                  case hy102 => (intro w hSw; clear hSw; go_simp; try with_reducible rfl)
                  try simp only [List.getElem_toArray]
                  try simp only [List.getElem_cons_succ]
                  try simp only [List.getElem_cons_zero]
                  try simp only [Act.put]
                  try simp only [List.setIfInBounds_toArray]
                  try simp only [List.set_cons_succ]
                  try simp only [List.set_cons_zero]
                  refine wpAnyH_ready (rs := [13]) (by kernel_rfl) (by simp) ?_
                  refine AllReadyH.cons rfl (fun K hK => ?_) (AllReadyH.nil)
                  rw [if_pos (by rfl)]
                  refine wp_store_all 24 _ _ rfl (cells := (o3.getD Ca.zero).arr) y0 rfl rfl sizeCa rfl (Ca.arr_one _) ?_
                  intro u6 hn9 hk9
                  replace y0 := hn9
                  refine hK.out _ _ (hHeld.trans (hk9.below1 yg hHeld.size)) (fun hHeld => ?_)
                  clear hK K hk9 hn9
                  try simp only [List.getElem_toArray]
                  try simp only [List.getElem_cons_succ]
                  try simp only [List.getElem_cons_zero]
                  try simp only [Act.put]
                  try simp only [List.setIfInBounds_toArray]
                  try simp only [List.set_cons_succ]
                  try simp only [List.set_cons_zero]
                  refine wpAnyH_take (i := 14) (v := ?v103) rfl (by kernel_rfl) (by kernel_rfl) (by kernel_rfl) (fun _ _ _ h => h) (Or.inl ⟨by rfl, ?hy103⟩) hHeld ?rest103
                  case hy103 => (intro w hSw; clear hSw; go_simp; try with_reducible rfl)
                  try simp only [List.getElem_toArray]
                  try simp only [List.getElem_cons_succ]
                  try simp only [List.getElem_cons_zero]
                  try simp only [Act.put]
                  try simp only [List.setIfInBounds_toArray]
                  try simp only [List.set_cons_succ]
                  try simp only [List.set_cons_zero]
                  refine wpAnyH_done (by kernel_rfl) ?_ _
                  replace b1 := b1.below hHeld
                  replace hB := below_next hB hHeld
                  clear hHeld hE
                  have HO := HU3.out o3 ho3
                  clear ho3
                  cases o3 with
                  | none =>
                    obtain rfl : kko3 = 210 := hkko3.out.symm
                    go_wp2_with fail
                    go_ret
                    exact ⟨rfl, hB⟩
                  | some d =>
                    obtain rfl : kko3 = 0 := hkko3.out.symm
                    have nq := neqCa d a false (HO d rfl)
                    clear HO
                    go_wp2_with (first | refine load_want (by rfl) 24 _ rfl y0 rfl Tryd.underlying24 rfl sizeCa ?_ | refine load_want (by rfl) 24 _ rfl b1 rfl Tryd.underlying24 rfl sizeCa ?_)
                    go_ret
                    exact ⟨rfl, hB⟩
            | some d =>
              obtain rfl : kko2 = 0 := hkko2.out.symm
              have nq := eqlCa d a false (HO d rfl)
              go_upto_region 7 with (go_big_may; first | refine load_want (by rfl) 24 _ rfl y0 rfl Tryd.underlying24 rfl sizeCa ?_ | refine load_want (by rfl) 24 _ rfl b1 rfl Tryd.underlying24 rfl sizeCa ?_)
              try simp only [Act.put, List.setIfInBounds_toArray, List.set_cons_zero, List.set_cons_succ]
              clear nq y0
              by_cases hkn : k = n
              · have e1 : ((k : Int) == (n : Int)) = true := by simp; omega
                clear hkn
                go_wp2_with fail
                go_ret
                exact ⟨rfl, hB⟩
              · have e1 : ((k : Int) == (n : Int)) = false := by simp; omega
                have kn1 : ((k : Int) + 1) ≤ (n : Int) := by omega
                obtain ⟨S3, hS3, s3, s4, HU3⟩ := hcut hkn
                have hw1 : IntKind.i64.wrap ((k : Int) + 1) = (k : Int) + 1 := by rw [IntKind.wrap_i64]; omega
                clear hkn hcut
                go_upto_region 9 with fail
                try simp only [Act.put, List.setIfInBounds_toArray, List.set_cons_zero, List.set_cons_succ]
                rename World => V9
                refine wp_region_held_drew (S := fun v => Below V9.heap.size V9 v) (by kernel_rfl) ((Below.refl _ _).drew) (fun hHeld => ?_)
                refine wpAnyH_take (i := 0) (v := ?v104) rfl (by kernel_rfl) (by kernel_rfl) (by kernel_rfl) (fun _ _ _ h => h) (Or.inl ⟨by rfl, ?hy104⟩) hHeld ?rest104
                case hy104 => (intro w hSw; clear hSw; go_simp; try with_reducible rfl)
                try simp only [List.getElem_toArray]
                try simp only [List.getElem_cons_succ]
                try simp only [List.getElem_cons_zero]
                try simp only [Act.put]
                try simp only [List.setIfInBounds_toArray]
                try simp only [List.set_cons_succ]
                try simp only [List.set_cons_zero]
                refine wpAnyH_take (i := 1) (v := ?v105) rfl (by kernel_rfl) (by kernel_rfl) (by kernel_rfl) (fun _ _ _ h => h) (Or.inl ⟨by rfl, ?hy105⟩) hHeld ?rest105
                case hy105 => (intro w hSw; clear hSw; go_simp; try with_reducible rfl)
                try simp only [List.getElem_toArray]
                try simp only [List.getElem_cons_succ]
                try simp only [List.getElem_cons_zero]
                try simp only [Act.put]
                try simp only [List.setIfInBounds_toArray]
                try simp only [List.set_cons_succ]
                try simp only [List.set_cons_zero]
                refine wpAnyH_take (i := 2) (v := ?v106) rfl (by kernel_rfl) (by kernel_rfl) (by kernel_rfl) (fun _ _ _ h => h) (Or.inl ⟨by rfl, ?hy106⟩) hHeld ?rest106
                case hy106 => (intro w hSw; clear hSw; go_simp; try with_reducible rfl)
                try simp only [List.getElem_toArray]
                try simp only [List.getElem_cons_succ]
                try simp only [List.getElem_cons_zero]
                try simp only [Act.put]
                try simp only [List.setIfInBounds_toArray]
                try simp only [List.set_cons_succ]
                try simp only [List.set_cons_zero]
                refine wpAnyH_take (i := 3) (v := ?v107) rfl (by kernel_rfl) (by kernel_rfl) (by kernel_rfl) (fun _ _ _ h => h) (Or.inl ⟨by rfl, ?hy107⟩) hHeld ?rest107
                case hy107 => (intro w hSw; clear hSw; go_simp; try with_reducible rfl)
                try simp only [List.getElem_toArray]
                try simp only [List.getElem_cons_succ]
                try simp only [List.getElem_cons_zero]
                try simp only [Act.put]
                try simp only [List.setIfInBounds_toArray]
                try simp only [List.set_cons_succ]
                try simp only [List.set_cons_zero]
                refine wpAnyH_take (i := 4) (v := ?v108) rfl (by kernel_rfl) (by kernel_rfl) (by kernel_rfl) (fun _ _ _ h => h) (Or.inl ⟨by rfl, ?hy108⟩) hHeld ?rest108
                case hy108 => (intro w hSw; clear hSw; go_simp; try with_reducible rfl)
                try simp only [List.getElem_toArray]
                try simp only [List.getElem_cons_succ]
                try simp only [List.getElem_cons_zero]
                try simp only [Act.put]
                try simp only [List.setIfInBounds_toArray]
                try simp only [List.set_cons_succ]
                try simp only [List.set_cons_zero]
                refine wpAnyH_take (i := 5) (v := ?v109) rfl (by kernel_rfl) (by kernel_rfl) (by kernel_rfl) (fun _ _ _ h => h) (Or.inl ⟨by rfl, ?hy109⟩) hHeld ?rest109
                case hy109 => (intro w hSw; clear hSw; go_simp; try with_reducible rfl)
                try simp only [List.getElem_toArray]
                try simp only [List.getElem_cons_succ]
                try simp only [List.getElem_cons_zero]
                try simp only [Act.put]
                try simp only [List.setIfInBounds_toArray]
                try simp only [List.set_cons_succ]
                try simp only [List.set_cons_zero]
                refine wpAnyH_take (i := 6) (v := ?v110) rfl (by kernel_rfl) (by kernel_rfl) (by kernel_rfl) (fun _ _ _ h => h) (Or.inl ⟨by rfl, ?hy110⟩) hHeld ?rest110
                case hy110 => (intro w hSw; clear hSw; go_simp; try with_reducible rfl)
                try simp only [List.getElem_toArray]
                try simp only [List.getElem_cons_succ]
                try simp only [List.getElem_cons_zero]
                try simp only [Act.put]
                try simp only [List.setIfInBounds_toArray]
                try simp only [List.set_cons_succ]
                try simp only [List.set_cons_zero]
                refine wpAnyH_take (i := 7) (v := ?v111) rfl (by kernel_rfl) (by kernel_rfl) (by kernel_rfl) (fun _ _ _ h => h) (Or.inl ⟨by rfl, ?hy111⟩) hHeld ?rest111
                case hy111 => (intro w hSw; clear hSw; go_simp; try with_reducible rfl)
                try simp only [List.getElem_toArray]
                try simp only [List.getElem_cons_succ]
                try simp only [List.getElem_cons_zero]
                try simp only [Act.put]
                try simp only [List.setIfInBounds_toArray]
                try simp only [List.set_cons_succ]
                try simp only [List.set_cons_zero]
                refine wpAnyH_ready (rs := [8, 12]) (by kernel_rfl) (by simp) ?_
                refine AllReadyH.cons rfl (fun K hK => ?_) (AllReadyH.cons rfl (fun K hK => ?_) (AllReadyH.nil))
                · go_simp
                  go_wp2_with (refine (parse_ok S3 hS3 _ (hE.next hHeld)).mono ?_; rintro r u1 ⟨⟨o3, ho3, rfl⟩, hb⟩; obtain ⟨kko3, hkko3⟩ : ∃ kk : Int, Hid ((if o3.isSome = true then 0 else 210) = kk) := ⟨_, rfl⟩; rw [hkko3.out])
                  refine hK.out _ _ (below_next hHeld hb) (fun hHeld => ?_)
                  clear hK K hb
                  refine wpAnyH_take (i := 9) (v := ?v112) rfl (by kernel_rfl) (by kernel_rfl) (by kernel_rfl) (fun _ _ _ h => h) (Or.inl ⟨by rfl, ?hy112⟩) hHeld ?rest112
                  case hy112 => (intro w hSw; clear hSw; go_simp; try with_reducible rfl)
                  try simp only [List.getElem_toArray]
                  try simp only [List.getElem_cons_succ]
                  try simp only [List.getElem_cons_zero]
                  try simp only [Act.put]
                  try simp only [List.setIfInBounds_toArray]
                  try simp only [List.set_cons_succ]
                  try simp only [List.set_cons_zero]
                  refine wpAnyH_take (i := 10) (v := ?v113) rfl (by kernel_rfl) (by kernel_rfl) (by kernel_rfl) (fun _ _ _ h => h) (Or.inl ⟨by rfl, ?hy113⟩) hHeld ?rest113
                  case hy113 => (intro w hSw; clear hSw; go_simp; try with_reducible rfl)
                  try simp only [List.getElem_toArray]
                  try simp only [List.getElem_cons_succ]
                  try simp only [List.getElem_cons_zero]
                  try simp only [Act.put]
                  try simp only [List.setIfInBounds_toArray]
                  try simp only [List.set_cons_succ]
                  try simp only [List.set_cons_zero]
                  refine wpAnyH_take (i := 11) (v := ?v114) rfl (by kernel_rfl) (by kernel_rfl) (by kernel_rfl) (fun _ _ _ h => h) (Or.inl ⟨by rfl, ?hy114⟩) hHeld ?rest114
                  case hy114 => (intro w hSw; clear hSw; go_simp; try with_reducible rfl)
                  try simp only [List.getElem_toArray]
                  try simp only [List.getElem_cons_succ]
                  try simp only [List.getElem_cons_zero]
                  try simp only [Act.put]
                  try simp only [List.setIfInBounds_toArray]
                  try simp only [List.set_cons_succ]
                  try simp only [List.set_cons_zero]
                  refine wpAnyH_ready (rs := [12]) (by kernel_rfl) (by simp) ?_
                  refine AllReadyH.cons rfl (fun K hK => ?_) (AllReadyH.nil)
                  rw [if_pos (by rfl)]
                  refine wp_alloc_any zeroCa rfl ?_
                  intro yp u2 y0 hb yl yt
                  have yg := Nat.le_trans hHeld.size yl
                  refine hK.out _ _ (below_next hHeld hb) (fun hHeld => ?_)
                  clear hK K hb yl yt
                  try simp only [List.getElem_toArray]
                  try simp only [List.getElem_cons_succ]
                  try simp only [List.getElem_cons_zero]
                  try simp only [Act.put]
                  try simp only [List.setIfInBounds_toArray]
                  try simp only [List.set_cons_succ]
                  try simp only [List.set_cons_zero]
                  refine wpAnyH_ready (rs := [13]) (by kernel_rfl) (by simp) ?_
                  refine AllReadyH.cons rfl (fun K hK => ?_) (AllReadyH.nil)
                  rw [if_pos (by rfl)]
                  refine wp_store_all 24 _ _ rfl (cells := (o3.getD Ca.zero).arr) y0 rfl rfl sizeCa rfl (Ca.arr_one _) ?_
                  intro u3 hn9 hk9
                  replace y0 := hn9
                  refine hK.out _ _ (hHeld.trans (hk9.below1 yg hHeld.size)) (fun hHeld => ?_)
                  clear hK K hk9 hn9
                  try simp only [List.getElem_toArray]
                  try simp only [List.getElem_cons_succ]
                  try simp only [List.getElem_cons_zero]
                  try simp only [Act.put]
                  try simp only [List.setIfInBounds_toArray]
                  try simp only [List.set_cons_succ]
                  try simp only [List.set_cons_zero]
                  refine wpAnyH_take (i := 14) (v := ?v115) rfl (by kernel_rfl) (by kernel_rfl) (by kernel_rfl) (fun _ _ _ h => h) (Or.inl ⟨by rfl, ?hy115⟩) hHeld ?rest115
                  case hy115 => (intro w hSw; clear hSw; go_simp; try with_reducible rfl)
                  try simp only [List.getElem_toArray]
                  try simp only [List.getElem_cons_succ]
                  try simp only [List.getElem_cons_zero]
                  try simp only [Act.put]
                  try simp only [List.setIfInBounds_toArray]
                  try simp only [List.set_cons_succ]
                  try simp only [List.set_cons_zero]
                  refine wpAnyH_done (by kernel_rfl) ?_ _
                  replace b1 := b1.below hHeld
                  replace hB := below_next hB hHeld
                  clear hHeld hE
                  have HO := HU3.out o3 ho3
                  clear ho3
                  cases o3 with
                  | none =>
                    obtain rfl : kko3 = 210 := hkko3.out.symm
                    go_wp2_with fail
                    go_ret
                    exact ⟨rfl, hB⟩
                  | some d =>
                    obtain rfl : kko3 = 0 := hkko3.out.symm
                    have nq := neqCa d a false (HO d rfl)
                    clear HO
                    go_wp2_with (first | refine load_want (by rfl) 24 _ rfl y0 rfl Tryd.underlying24 rfl sizeCa ?_ | refine load_want (by rfl) 24 _ rfl b1 rfl Tryd.underlying24 rfl sizeCa ?_)
                    go_ret
                    exact ⟨rfl, hB⟩
                · rw [if_pos (by rfl)]
                  refine wp_alloc_any zeroCa rfl ?_
                  intro yp u4 y0 hb yl yt
                  have yg := Nat.le_trans hHeld.size yl
                  refine hK.out _ _ (below_next hHeld hb) (fun hHeld => ?_)
                  clear hK K hb yl yt
                  try simp only [List.getElem_toArray]
                  try simp only [List.getElem_cons_succ]
                  try simp only [List.getElem_cons_zero]
                  try simp only [Act.put]
                  try simp only [List.setIfInBounds_toArray]
                  try simp only [List.set_cons_succ]
                  try simp only [List.set_cons_zero]
                  refine wpAnyH_ready (rs := [8]) (by kernel_rfl) (by simp) ?_
                  refine AllReadyH.cons rfl (fun K hK => ?_) (AllReadyH.nil)
                  go_simp
                  go_wp2_with (refine (parse_ok S3 hS3 _ (hE.next hHeld)).mono ?_; rintro r u5 ⟨⟨o3, ho3, rfl⟩, hb⟩; obtain ⟨kko3, hkko3⟩ : ∃ kk : Int, Hid ((if o3.isSome = true then 0 else 210) = kk) := ⟨_, rfl⟩; rw [hkko3.out])
                  replace y0 := y0.below hb
                  refine hK.out _ _ (below_next hHeld hb) (fun hHeld => ?_)
                  clear hK K hb
                  refine wpAnyH_take (i := 9) (v := ?v116) rfl (by kernel_rfl) (by kernel_rfl) (by kernel_rfl) (fun _ _ _ h => h) (Or.inl ⟨by rfl, ?hy116⟩) hHeld ?rest116
                  case hy116 => (intro w hSw; clear hSw; go_simp; try with_reducible rfl)
                  try simp only [List.getElem_toArray]
                  try simp only [List.getElem_cons_succ]
                  try simp only [List.getElem_cons_zero]
                  try simp only [Act.put]
                  try simp only [List.setIfInBounds_toArray]
                  try simp only [List.set_cons_succ]
                  try simp only [List.set_cons_zero]
                  refine wpAnyH_take (i := 10) (v := ?v117) rfl (by kernel_rfl) (by kernel_rfl) (by kernel_rfl) (fun _ _ _ h => h) (Or.inl ⟨by rfl, ?hy117⟩) hHeld ?rest117
                  case hy117 => (intro w hSw; clear hSw; go_simp; try with_reducible rfl)
                  try simp only [List.getElem_toArray]
                  try simp only [List.getElem_cons_succ]
                  try simp only [List.getElem_cons_zero]
                  try simp only [Act.put]
                  try simp only [List.setIfInBounds_toArray]
                  try simp only [List.set_cons_succ]
                  try simp only [List.set_cons_zero]
                  refine wpAnyH_take (i := 11) (v := ?v118) rfl (by kernel_rfl) (by kernel_rfl) (by kernel_rfl) (fun _ _ _ h => h) (Or.inl ⟨by rfl, ?hy118⟩) hHeld ?rest118
                  case hy118 => (intro w hSw; clear hSw; go_simp; try with_reducible rfl)
                  try simp only [List.getElem_toArray]
                  try simp only [List.getElem_cons_succ]
                  try simp only [List.getElem_cons_zero]
                  try simp only [Act.put]
                  try simp only [List.setIfInBounds_toArray]
                  try simp only [List.set_cons_succ]
                  try simp only [List.set_cons_zero]
                  refine wpAnyH_ready (rs := [13]) (by kernel_rfl) (by simp) ?_
                  refine AllReadyH.cons rfl (fun K hK => ?_) (AllReadyH.nil)
                  rw [if_pos (by rfl)]
                  refine wp_store_all 24 _ _ rfl (cells := (o3.getD Ca.zero).arr) y0 rfl rfl sizeCa rfl (Ca.arr_one _) ?_
                  intro u6 hn9 hk9
                  replace y0 := hn9
                  refine hK.out _ _ (hHeld.trans (hk9.below1 yg hHeld.size)) (fun hHeld => ?_)
                  clear hK K hk9 hn9
                  try simp only [List.getElem_toArray]
                  try simp only [List.getElem_cons_succ]
                  try simp only [List.getElem_cons_zero]
                  try simp only [Act.put]
                  try simp only [List.setIfInBounds_toArray]
                  try simp only [List.set_cons_succ]
                  try simp only [List.set_cons_zero]
                  refine wpAnyH_take (i := 14) (v := ?v119) rfl (by kernel_rfl) (by kernel_rfl) (by kernel_rfl) (fun _ _ _ h => h) (Or.inl ⟨by rfl, ?hy119⟩) hHeld ?rest119
                  case hy119 => (intro w hSw; clear hSw; go_simp; try with_reducible rfl)
                  try simp only [List.getElem_toArray]
                  try simp only [List.getElem_cons_succ]
                  try simp only [List.getElem_cons_zero]
                  try simp only [Act.put]
                  try simp only [List.setIfInBounds_toArray]
                  try simp only [List.set_cons_succ]
                  try simp only [List.set_cons_zero]
                  refine wpAnyH_done (by kernel_rfl) ?_ _
                  replace b1 := b1.below hHeld
                  replace hB := below_next hB hHeld
                  clear hHeld hE
                  have HO := HU3.out o3 ho3
                  clear ho3
                  cases o3 with
                  | none =>
                    obtain rfl : kko3 = 210 := hkko3.out.symm
                    go_wp2_with fail
                    go_ret
                    exact ⟨rfl, hB⟩
                  | some d =>
                    obtain rfl : kko3 = 0 := hkko3.out.symm
                    have nq := neqCa d a false (HO d rfl)
                    clear HO
                    go_wp2_with (first | refine load_want (by rfl) 24 _ rfl y0 rfl Tryd.underlying24 rfl sizeCa ?_ | refine load_want (by rfl) 24 _ rfl b1 rfl Tryd.underlying24 rfl sizeCa ?_)
                    go_ret
                    exact ⟨rfl, hB⟩
        · rw [if_pos (by rfl)]
          refine wp_alloc_any zeroCa rfl ?_
          intro yp u13 y0 hb yl yt
          have yg := Nat.le_trans hHeld.size yl
          refine hK.out _ _ (below_next hHeld hb) (fun hHeld => ?_)
          clear hK K hb yl yt
          try simp only [List.getElem_toArray]
          try simp only [List.getElem_cons_succ]
          try simp only [List.getElem_cons_zero]
          try simp only [Act.put]
          try simp only [List.setIfInBounds_toArray]
          try simp only [List.set_cons_succ]
          try simp only [List.set_cons_zero]
          refine wpAnyH_ready (rs := [4]) (by kernel_rfl) (by simp) ?_
          refine AllReadyH.cons rfl (fun K hK => ?_) (AllReadyH.nil)
          rw [if_pos (by rfl)]
          refine wp_byte _ rfl c rfl ?_
          intro gB u14 hcB hb
          replace y0 := y0.below hb
          refine hK.out _ _ (below_next hHeld hb) (fun hHeld => ?_)
          clear hK K hb
          try simp only [List.getElem_toArray]
          try simp only [List.getElem_cons_succ]
          try simp only [List.getElem_cons_zero]
          try simp only [Act.put]
          try simp only [List.setIfInBounds_toArray]
          try simp only [List.set_cons_succ]
          try simp only [List.set_cons_zero]
          refine wpAnyH_ready (rs := [5]) (by kernel_rfl) (by simp) ?_
          refine AllReadyH.cons rfl (fun K hK => ?_) (AllReadyH.nil)
          rw [if_pos (by rfl)]
          refine wp_conv _ rfl rfl (byte_str hcB) ?_
          refine hK.out _ _ hHeld (fun hHeld => ?_)
          clear hK K 
          try simp only [List.getElem_toArray]
          try simp only [List.getElem_cons_succ]
          try simp only [List.getElem_cons_zero]
          try simp only [Act.put]
          try simp only [List.setIfInBounds_toArray]
          try simp only [List.set_cons_succ]
          try simp only [List.set_cons_zero]
          refine wpAnyH_take (i := 6) (v := ?v120) rfl (by kernel_rfl) (by kernel_rfl) (by kernel_rfl) (fun _ _ _ h => h) (Or.inl ⟨by rfl, ?hy120⟩) hHeld ?rest120
          case hy120 => (intro w hSw; clear hSw; go_simp; try with_reducible rfl)
          try simp only [List.getElem_toArray]
          try simp only [List.getElem_cons_succ]
          try simp only [List.getElem_cons_zero]
          try simp only [Act.put]
          try simp only [List.setIfInBounds_toArray]
          try simp only [List.set_cons_succ]
          try simp only [List.set_cons_zero]
          refine wpAnyH_take (i := 10) (v := ?v121) rfl (by kernel_rfl) (by kernel_rfl) (by kernel_rfl) (fun _ _ _ h => h) (Or.inl ⟨by rfl, ?hy121⟩) hHeld ?rest121
          case hy121 => (intro w hSw; clear hSw; go_simp; try with_reducible rfl)
          try simp only [List.getElem_toArray]
          try simp only [List.getElem_cons_succ]
          try simp only [List.getElem_cons_zero]
          try simp only [Act.put]
          try simp only [List.setIfInBounds_toArray]
          try simp only [List.set_cons_succ]
          try simp only [List.set_cons_zero]
          refine wpAnyH_ready (rs := [11]) (by kernel_rfl) (by simp) ?_
          refine AllReadyH.cons rfl (fun K hK => ?_) (AllReadyH.nil)
          go_simp
          go_wp2_with (refine (parse_ok S2 hS2 _ (hE.next hHeld)).mono ?_; rintro r u16 ⟨⟨o2, ho2, rfl⟩, hb⟩; obtain ⟨kko2, hkko2⟩ : ∃ kk : Int, Hid ((if o2.isSome = true then 0 else 210) = kk) := ⟨_, rfl⟩; rw [hkko2.out])
          replace y0 := y0.below hb
          refine hK.out _ _ (below_next hHeld hb) (fun hHeld => ?_)
          clear hK K hb
          refine wpAnyH_take (i := 12) (v := ?v122) rfl (by kernel_rfl) (by kernel_rfl) (by kernel_rfl) (fun _ _ _ h => h) (Or.inl ⟨by rfl, ?hy122⟩) hHeld ?rest122
          case hy122 => (intro w hSw; clear hSw; go_simp; try with_reducible rfl)
          try simp only [List.getElem_toArray]
          try simp only [List.getElem_cons_succ]
          try simp only [List.getElem_cons_zero]
          try simp only [Act.put]
          try simp only [List.setIfInBounds_toArray]
          try simp only [List.set_cons_succ]
          try simp only [List.set_cons_zero]
          refine wpAnyH_take (i := 13) (v := ?v123) rfl (by kernel_rfl) (by kernel_rfl) (by kernel_rfl) (fun _ _ _ h => h) (Or.inl ⟨by rfl, ?hy123⟩) hHeld ?rest123
          case hy123 => (intro w hSw; clear hSw; go_simp; try with_reducible rfl)
          try simp only [List.getElem_toArray]
          try simp only [List.getElem_cons_succ]
          try simp only [List.getElem_cons_zero]
          try simp only [Act.put]
          try simp only [List.setIfInBounds_toArray]
          try simp only [List.set_cons_succ]
          try simp only [List.set_cons_zero]
          refine wpAnyH_take (i := 14) (v := ?v124) rfl (by kernel_rfl) (by kernel_rfl) (by kernel_rfl) (fun _ _ _ h => h) (Or.inl ⟨by rfl, ?hy124⟩) hHeld ?rest124
          case hy124 => (intro w hSw; clear hSw; go_simp; try with_reducible rfl)
          try simp only [List.getElem_toArray]
          try simp only [List.getElem_cons_succ]
          try simp only [List.getElem_cons_zero]
          try simp only [Act.put]
          try simp only [List.setIfInBounds_toArray]
          try simp only [List.set_cons_succ]
          try simp only [List.set_cons_zero]
          refine wpAnyH_ready (rs := [16]) (by kernel_rfl) (by simp) ?_
          refine AllReadyH.cons rfl (fun K hK => ?_) (AllReadyH.nil)
          rw [if_pos (by rfl)]
          refine wp_store_all 24 _ _ rfl (cells := (o2.getD Ca.zero).arr) y0 rfl rfl sizeCa rfl (Ca.arr_one _) ?_
          intro u17 hn9 hk9
          replace y0 := hn9
          refine hK.out _ _ (hHeld.trans (hk9.below1 yg hHeld.size)) (fun hHeld => ?_)
          clear hK K hk9 hn9
          try simp only [List.getElem_toArray]
          try simp only [List.getElem_cons_succ]
          try simp only [List.getElem_cons_zero]
          try simp only [Act.put]
          try simp only [List.setIfInBounds_toArray]
          try simp only [List.set_cons_succ]
          try simp only [List.set_cons_zero]
          refine wpAnyH_take (i := 17) (v := ?v125) rfl (by kernel_rfl) (by kernel_rfl) (by kernel_rfl) (fun _ _ _ h => h) (Or.inl ⟨by rfl, ?hy125⟩) hHeld ?rest125
          case hy125 => (intro w hSw; clear hSw; go_simp; try with_reducible rfl)
          try simp only [List.getElem_toArray]
          try simp only [List.getElem_cons_succ]
          try simp only [List.getElem_cons_zero]
          try simp only [Act.put]
          try simp only [List.setIfInBounds_toArray]
          try simp only [List.set_cons_succ]
          try simp only [List.set_cons_zero]
          refine wpAnyH_done (by kernel_rfl) ?_ _
          replace b1 := b1.below hHeld
          replace hE := hE.next hHeld
          replace hB := below_next hB hHeld
          clear hHeld
          have HO := HU2.out o2 ho2
          clear ho2 hcB
          cases o2 with
          | none =>
            obtain rfl : kko2 = 210 := hkko2.out.symm
            by_cases hkn : k = n
            · have e1 : ((k : Int) == (n : Int)) = true := by simp; omega
              clear hkn
              go_wp2_with fail
              go_ret
              exact ⟨rfl, hB⟩
            · have e1 : ((k : Int) == (n : Int)) = false := by simp; omega
              have kn1 : ((k : Int) + 1) ≤ (n : Int) := by omega
              obtain ⟨S3, hS3, s3, s4, HU3⟩ := hcut hkn
              have hw1 : IntKind.i64.wrap ((k : Int) + 1) = (k : Int) + 1 := by rw [IntKind.wrap_i64]; omega
              clear hkn hcut
              go_upto_region 9 with fail
              try simp only [Act.put, List.setIfInBounds_toArray, List.set_cons_zero, List.set_cons_succ]
              rename World => V9
              refine wp_region_held_drew (S := fun v => Below V9.heap.size V9 v) (by kernel_rfl) ((Below.refl _ _).drew) (fun hHeld => ?_)
              refine wpAnyH_take (i := 0) (v := ?v126) rfl (by kernel_rfl) (by kernel_rfl) (by kernel_rfl) (fun _ _ _ h => h) (Or.inl ⟨by rfl, ?hy126⟩) hHeld ?rest126
              case hy126 => (intro w hSw; clear hSw; go_simp; try with_reducible rfl)
              try simp only [List.getElem_toArray]
              try simp only [List.getElem_cons_succ]
              try simp only [List.getElem_cons_zero]
              try simp only [Act.put]
              try simp only [List.setIfInBounds_toArray]
              try simp only [List.set_cons_succ]
              try simp only [List.set_cons_zero]
              refine wpAnyH_take (i := 1) (v := ?v127) rfl (by kernel_rfl) (by kernel_rfl) (by kernel_rfl) (fun _ _ _ h => h) (Or.inl ⟨by rfl, ?hy127⟩) hHeld ?rest127
              case hy127 => (intro w hSw; clear hSw; go_simp; try with_reducible rfl)
              try simp only [List.getElem_toArray]
              try simp only [List.getElem_cons_succ]
              try simp only [List.getElem_cons_zero]
              try simp only [Act.put]
              try simp only [List.setIfInBounds_toArray]
              try simp only [List.set_cons_succ]
              try simp only [List.set_cons_zero]
              refine wpAnyH_take (i := 2) (v := ?v128) rfl (by kernel_rfl) (by kernel_rfl) (by kernel_rfl) (fun _ _ _ h => h) (Or.inl ⟨by rfl, ?hy128⟩) hHeld ?rest128
              case hy128 => (intro w hSw; clear hSw; go_simp; try with_reducible rfl)
              try simp only [List.getElem_toArray]
              try simp only [List.getElem_cons_succ]
              try simp only [List.getElem_cons_zero]
              try simp only [Act.put]
              try simp only [List.setIfInBounds_toArray]
              try simp only [List.set_cons_succ]
              try simp only [List.set_cons_zero]
              refine wpAnyH_take (i := 3) (v := ?v129) rfl (by kernel_rfl) (by kernel_rfl) (by kernel_rfl) (fun _ _ _ h => h) (Or.inl ⟨by rfl, ?hy129⟩) hHeld ?rest129
              case hy129 => (intro w hSw; clear hSw; go_simp; try with_reducible rfl)
              try simp only [List.getElem_toArray]
              try simp only [List.getElem_cons_succ]
              try simp only [List.getElem_cons_zero]
              try simp only [Act.put]
              try simp only [List.setIfInBounds_toArray]
              try simp only [List.set_cons_succ]
              try simp only [List.set_cons_zero]
              refine wpAnyH_take (i := 4) (v := ?v130) rfl (by kernel_rfl) (by kernel_rfl) (by kernel_rfl) (fun _ _ _ h => h) (Or.inl ⟨by rfl, ?hy130⟩) hHeld ?rest130
              case hy130 => (intro w hSw; clear hSw; go_simp; try with_reducible rfl)
              try simp only [List.getElem_toArray]
              try simp only [List.getElem_cons_succ]
              try simp only [List.getElem_cons_zero]
              try simp only [Act.put]
              try simp only [List.setIfInBounds_toArray]
              try simp only [List.set_cons_succ]
              try simp only [List.set_cons_zero]
              refine wpAnyH_take (i := 5) (v := ?v131) rfl (by kernel_rfl) (by kernel_rfl) (by kernel_rfl) (fun _ _ _ h => h) (Or.inl ⟨by rfl, ?hy131⟩) hHeld ?rest131
              case hy131 => (intro w hSw; clear hSw; go_simp; try with_reducible rfl)
              try simp only [List.getElem_toArray]
              try simp only [List.getElem_cons_succ]
              try simp only [List.getElem_cons_zero]
              try simp only [Act.put]
              try simp only [List.setIfInBounds_toArray]
              try simp only [List.set_cons_succ]
              try simp only [List.set_cons_zero]
              refine wpAnyH_take (i := 6) (v := ?v132) rfl (by kernel_rfl) (by kernel_rfl) (by kernel_rfl) (fun _ _ _ h => h) (Or.inl ⟨by rfl, ?hy132⟩) hHeld ?rest132
              case hy132 => (intro w hSw; clear hSw; go_simp; try with_reducible rfl)
              try simp only [List.getElem_toArray]
              try simp only [List.getElem_cons_succ]
              try simp only [List.getElem_cons_zero]
              try simp only [Act.put]
              try simp only [List.setIfInBounds_toArray]
              try simp only [List.set_cons_succ]
              try simp only [List.set_cons_zero]
              refine wpAnyH_take (i := 7) (v := ?v133) rfl (by kernel_rfl) (by kernel_rfl) (by kernel_rfl) (fun _ _ _ h => h) (Or.inl ⟨by rfl, ?hy133⟩) hHeld ?rest133
              case hy133 => (intro w hSw; clear hSw; go_simp; try with_reducible rfl)
              try simp only [List.getElem_toArray]
              try simp only [List.getElem_cons_succ]
              try simp only [List.getElem_cons_zero]
              try simp only [Act.put]
              try simp only [List.setIfInBounds_toArray]
              try simp only [List.set_cons_succ]
              try simp only [List.set_cons_zero]
              refine wpAnyH_ready (rs := [8, 12]) (by kernel_rfl) (by simp) ?_
              refine AllReadyH.cons rfl (fun K hK => ?_) (AllReadyH.cons rfl (fun K hK => ?_) (AllReadyH.nil))
              · go_simp
                go_wp2_with (refine (parse_ok S3 hS3 _ (hE.next hHeld)).mono ?_; rintro r u1 ⟨⟨o3, ho3, rfl⟩, hb⟩; obtain ⟨kko3, hkko3⟩ : ∃ kk : Int, Hid ((if o3.isSome = true then 0 else 210) = kk) := ⟨_, rfl⟩; rw [hkko3.out])
                refine hK.out _ _ (below_next hHeld hb) (fun hHeld => ?_)
                clear hK K hb
                refine wpAnyH_take (i := 9) (v := ?v134) rfl (by kernel_rfl) (by kernel_rfl) (by kernel_rfl) (fun _ _ _ h => h) (Or.inl ⟨by rfl, ?hy134⟩) hHeld ?rest134
                case hy134 => (intro w hSw; clear hSw; go_simp; try with_reducible rfl)
                try simp only [List.getElem_toArray]
                try simp only [List.getElem_cons_succ]
                try simp only [List.getElem_cons_zero]
                try simp only [Act.put]
                try simp only [List.setIfInBounds_toArray]
                try simp only [List.set_cons_succ]
                try simp only [List.set_cons_zero]
                refine wpAnyH_take (i := 10) (v := ?v135) rfl (by kernel_rfl) (by kernel_rfl) (by kernel_rfl) (fun _ _ _ h => h) (Or.inl ⟨by rfl, ?hy135⟩) hHeld ?rest135
                case hy135 => (intro w hSw; clear hSw; go_simp; try with_reducible rfl)
                try simp only [List.getElem_toArray]
                try simp only [List.getElem_cons_succ]
                try simp only [List.getElem_cons_zero]
                try simp only [Act.put]
                try simp only [List.setIfInBounds_toArray]
                try simp only [List.set_cons_succ]
                try simp only [List.set_cons_zero]
                refine wpAnyH_take (i := 11) (v := ?v136) rfl (by kernel_rfl) (by kernel_rfl) (by kernel_rfl) (fun _ _ _ h => h) (Or.inl ⟨by rfl, ?hy136⟩) hHeld ?rest136
                case hy136 => (intro w hSw; clear hSw; go_simp; try with_reducible rfl)
                try simp only [List.getElem_toArray]
                try simp only [List.getElem_cons_succ]
                try simp only [List.getElem_cons_zero]
                try simp only [Act.put]
                try simp only [List.setIfInBounds_toArray]
                try simp only [List.set_cons_succ]
                try simp only [List.set_cons_zero]
                refine wpAnyH_ready (rs := [12]) (by kernel_rfl) (by simp) ?_
                refine AllReadyH.cons rfl (fun K hK => ?_) (AllReadyH.nil)
                rw [if_pos (by rfl)]
                refine wp_alloc_any zeroCa rfl ?_
                intro yp u2 y0 hb yl yt
                have yg := Nat.le_trans hHeld.size yl
                refine hK.out _ _ (below_next hHeld hb) (fun hHeld => ?_)
                clear hK K hb yl yt
                try simp only [List.getElem_toArray]
                try simp only [List.getElem_cons_succ]
                try simp only [List.getElem_cons_zero]
                try simp only [Act.put]
                try simp only [List.setIfInBounds_toArray]
                try simp only [List.set_cons_succ]
                try simp only [List.set_cons_zero]
                refine wpAnyH_ready (rs := [13]) (by kernel_rfl) (by simp) ?_
                refine AllReadyH.cons rfl (fun K hK => ?_) (AllReadyH.nil)
                rw [if_pos (by rfl)]
                refine wp_store_all 24 _ _ rfl (cells := (o3.getD Ca.zero).arr) y0 rfl rfl sizeCa rfl (Ca.arr_one _) ?_
                intro u3 hn9 hk9
                replace y0 := hn9
                refine hK.out _ _ (hHeld.trans (hk9.below1 yg hHeld.size)) (fun hHeld => ?_)
                clear hK K hk9 hn9
                try simp only [List.getElem_toArray]
                try simp only [List.getElem_cons_succ]
                try simp only [List.getElem_cons_zero]
                try simp only [Act.put]
                try simp only [List.setIfInBounds_toArray]
                try simp only [List.set_cons_succ]
                try simp only [List.set_cons_zero]
                refine wpAnyH_take (i := 14) (v := ?v137) rfl (by kernel_rfl) (by kernel_rfl) (by kernel_rfl) (fun _ _ _ h => h) (Or.inl ⟨by rfl, ?hy137⟩) hHeld ?rest137
                case hy137 => (intro w hSw; clear hSw; go_simp; try with_reducible rfl)
                try simp only [List.getElem_toArray]
                try simp only [List.getElem_cons_succ]
                try simp only [List.getElem_cons_zero]
                try simp only [Act.put]
                try simp only [List.setIfInBounds_toArray]
                try simp only [List.set_cons_succ]
                try simp only [List.set_cons_zero]
                refine wpAnyH_done (by kernel_rfl) ?_ _
                replace b1 := b1.below hHeld
                replace hB := below_next hB hHeld
                clear hHeld hE
                have HO := HU3.out o3 ho3
                clear ho3
                cases o3 with
                | none =>
                  obtain rfl : kko3 = 210 := hkko3.out.symm
                  go_wp2_with fail
                  go_ret
                  exact ⟨rfl, hB⟩
                | some d =>
                  obtain rfl : kko3 = 0 := hkko3.out.symm
                  have nq := neqCa d a false (HO d rfl)
                  clear HO
                  go_wp2_with (first | refine load_want (by rfl) 24 _ rfl y0 rfl Tryd.underlying24 rfl sizeCa ?_ | refine load_want (by rfl) 24 _ rfl b1 rfl Tryd.underlying24 rfl sizeCa ?_)
                  go_ret
                  exact ⟨rfl, hB⟩
              · rw [if_pos (by rfl)]
                refine wp_alloc_any zeroCa rfl ?_
                intro yp u4 y0 hb yl yt
                have yg := Nat.le_trans hHeld.size yl
                refine hK.out _ _ (below_next hHeld hb) (fun hHeld => ?_)
                clear hK K hb yl yt
                try simp only [List.getElem_toArray]
                try simp only [List.getElem_cons_succ]
                try simp only [List.getElem_cons_zero]
                try simp only [Act.put]
                try simp only [List.setIfInBounds_toArray]
                try simp only [List.set_cons_succ]
                try simp only [List.set_cons_zero]
                refine wpAnyH_ready (rs := [8]) (by kernel_rfl) (by simp) ?_
                refine AllReadyH.cons rfl (fun K hK => ?_) (AllReadyH.nil)
                go_simp
                go_wp2_with (refine (parse_ok S3 hS3 _ (hE.next hHeld)).mono ?_; rintro r u5 ⟨⟨o3, ho3, rfl⟩, hb⟩; obtain ⟨kko3, hkko3⟩ : ∃ kk : Int, Hid ((if o3.isSome = true then 0 else 210) = kk) := ⟨_, rfl⟩; rw [hkko3.out])
                replace y0 := y0.below hb
                refine hK.out _ _ (below_next hHeld hb) (fun hHeld => ?_)
                clear hK K hb
                refine wpAnyH_take (i := 9) (v := ?v138) rfl (by kernel_rfl) (by kernel_rfl) (by kernel_rfl) (fun _ _ _ h => h) (Or.inl ⟨by rfl, ?hy138⟩) hHeld ?rest138
                case hy138 => (intro w hSw; clear hSw; go_simp; try with_reducible rfl)
                try simp only [List.getElem_toArray]
                try simp only [List.getElem_cons_succ]
                try simp only [List.getElem_cons_zero]
                try simp only [Act.put]
                try simp only [List.setIfInBounds_toArray]
                try simp only [List.set_cons_succ]
                try simp only [List.set_cons_zero]
                refine wpAnyH_take (i := 10) (v := ?v139) rfl (by kernel_rfl) (by kernel_rfl) (by kernel_rfl) (fun _ _ _ h => h) (Or.inl ⟨by rfl, ?hy139⟩) hHeld ?rest139
                case hy139 => (intro w hSw; clear hSw; go_simp; try with_reducible rfl)
                try simp only [List.getElem_toArray]
                try simp only [List.getElem_cons_succ]
                try simp only [List.getElem_cons_zero]
                try simp only [Act.put]
                try simp only [List.setIfInBounds_toArray]
                try simp only [List.set_cons_succ]
                try simp only [List.set_cons_zero]
                refine wpAnyH_take (i := 11) (v := ?v140) rfl (by kernel_rfl) (by kernel_rfl) (by kernel_rfl) (fun _ _ _ h => h) (Or.inl ⟨by rfl, ?hy140⟩) hHeld ?rest140
                case hy140 => (intro w hSw; clear hSw; go_simp; try with_reducible rfl)
                try simp only [List.getElem_toArray]
                try simp only [List.getElem_cons_succ]
                try simp only [List.getElem_cons_zero]
                try simp only [Act.put]
                try simp only [List.setIfInBounds_toArray]
                try simp only [List.set_cons_succ]
                try simp only [List.set_cons_zero]
                refine wpAnyH_ready (rs := [13]) (by kernel_rfl) (by simp) ?_
                refine AllReadyH.cons rfl (fun K hK => ?_) (AllReadyH.nil)
                rw [if_pos (by rfl)]
                refine wp_store_all 24 _ _ rfl (cells := (o3.getD Ca.zero).arr) y0 rfl rfl sizeCa rfl (Ca.arr_one _) ?_
                intro u6 hn9 hk9
                replace y0 := hn9
                refine hK.out _ _ (hHeld.trans (hk9.below1 yg hHeld.size)) (fun hHeld => ?_)
                clear hK K hk9 hn9
                try simp only [List.getElem_toArray]
                try simp only [List.getElem_cons_succ]
                try simp only [List.getElem_cons_zero]
                try simp only [Act.put]
                try simp only [List.setIfInBounds_toArray]
                try simp only [List.set_cons_succ]
                try simp only [List.set_cons_zero]
                refine wpAnyH_take (i := 14) (v := ?v141) rfl (by kernel_rfl) (by kernel_rfl) (by kernel_rfl) (fun _ _ _ h => h) (Or.inl ⟨by rfl, ?hy141⟩) hHeld ?rest141
                case hy141 => (intro w hSw; clear hSw; go_simp; try with_reducible rfl)
                try simp only [List.getElem_toArray]
                try simp only [List.getElem_cons_succ]
                try simp only [List.getElem_cons_zero]
                try simp only [Act.put]
                try simp only [List.setIfInBounds_toArray]
                try simp only [List.set_cons_succ]
                try simp only [List.set_cons_zero]
                refine wpAnyH_done (by kernel_rfl) ?_ _
                replace b1 := b1.below hHeld
                replace hB := below_next hB hHeld
                clear hHeld hE
                have HO := HU3.out o3 ho3
                clear ho3
                cases o3 with
                | none =>
                  obtain rfl : kko3 = 210 := hkko3.out.symm
                  go_wp2_with fail
                  go_ret
                  exact ⟨rfl, hB⟩
                | some d =>
                  obtain rfl : kko3 = 0 := hkko3.out.symm
                  have nq := neqCa d a false (HO d rfl)
                  clear HO
                  go_wp2_with (first | refine load_want (by rfl) 24 _ rfl y0 rfl Tryd.underlying24 rfl sizeCa ?_ | refine load_want (by rfl) 24 _ rfl b1 rfl Tryd.underlying24 rfl sizeCa ?_)
                  go_ret
                  exact ⟨rfl, hB⟩
          | some d =>
            obtain rfl : kko2 = 0 := hkko2.out.symm
            have nq := eqlCa d a false (HO d rfl)
            go_upto_region 7 with (go_big_may; first | refine load_want (by rfl) 24 _ rfl y0 rfl Tryd.underlying24 rfl sizeCa ?_ | refine load_want (by rfl) 24 _ rfl b1 rfl Tryd.underlying24 rfl sizeCa ?_)
            try simp only [Act.put, List.setIfInBounds_toArray, List.set_cons_zero, List.set_cons_succ]
            clear nq y0
            by_cases hkn : k = n
            · have e1 : ((k : Int) == (n : Int)) = true := by simp; omega
              clear hkn
              go_wp2_with fail
              go_ret
              exact ⟨rfl, hB⟩
            · have e1 : ((k : Int) == (n : Int)) = false := by simp; omega
              have kn1 : ((k : Int) + 1) ≤ (n : Int) := by omega
              obtain ⟨S3, hS3, s3, s4, HU3⟩ := hcut hkn
              have hw1 : IntKind.i64.wrap ((k : Int) + 1) = (k : Int) + 1 := by rw [IntKind.wrap_i64]; omega
              clear hkn hcut
              go_upto_region 9 with fail
              try simp only [Act.put, List.setIfInBounds_toArray, List.set_cons_zero, List.set_cons_succ]
              rename World => V9
              refine wp_region_held_drew (S := fun v => Below V9.heap.size V9 v) (by kernel_rfl) ((Below.refl _ _).drew) (fun hHeld => ?_)
              refine wpAnyH_take (i := 0) (v := ?v142) rfl (by kernel_rfl) (by kernel_rfl) (by kernel_rfl) (fun _ _ _ h => h) (Or.inl ⟨by rfl, ?hy142⟩) hHeld ?rest142
              case hy142 => (intro w hSw; clear hSw; go_simp; try with_reducible rfl)
              try simp only [List.getElem_toArray]
              try simp only [List.getElem_cons_succ]
              try simp only [List.getElem_cons_zero]
              try simp only [Act.put]
              try simp only [List.setIfInBounds_toArray]
              try simp only [List.set_cons_succ]
              try simp only [List.set_cons_zero]
              refine wpAnyH_take (i := 1) (v := ?v143) rfl (by kernel_rfl) (by kernel_rfl) (by kernel_rfl) (fun _ _ _ h => h) (Or.inl ⟨by rfl, ?hy143⟩) hHeld ?rest143
              case hy143 => (intro w hSw; clear hSw; go_simp; try with_reducible rfl)
              try simp only [List.getElem_toArray]
              try simp only [List.getElem_cons_succ]
              try simp only [List.getElem_cons_zero]
              try simp only [Act.put]
              try simp only [List.setIfInBounds_toArray]
              try simp only [List.set_cons_succ]
              try simp only [List.set_cons_zero]
              refine wpAnyH_take (i := 2) (v := ?v144) rfl (by kernel_rfl) (by kernel_rfl) (by kernel_rfl) (fun _ _ _ h => h) (Or.inl ⟨by rfl, ?hy144⟩) hHeld ?rest144
              case hy144 => (intro w hSw; clear hSw; go_simp; try with_reducible rfl)
              try simp only [List.getElem_toArray]
              try simp only [List.getElem_cons_succ]
              try simp only [List.getElem_cons_zero]
              try simp only [Act.put]
              try simp only [List.setIfInBounds_toArray]
              try simp only [List.set_cons_succ]
              try simp only [List.set_cons_zero]
              refine wpAnyH_take (i := 3) (v := ?v145) rfl (by kernel_rfl) (by kernel_rfl) (by kernel_rfl) (fun _ _ _ h => h) (Or.inl ⟨by rfl, ?hy145⟩) hHeld ?rest145
              case hy145 => (intro w hSw; clear hSw; go_simp; try with_reducible rfl)
              try simp only [List.getElem_toArray]
              try simp only [List.getElem_cons_succ]
              try simp only [List.getElem_cons_zero]
              try simp only [Act.put]
              try simp only [List.setIfInBounds_toArray]
              try simp only [List.set_cons_succ]
              try simp only [List.set_cons_zero]
              refine wpAnyH_take (i := 4) (v := ?v146) rfl (by kernel_rfl) (by kernel_rfl) (by kernel_rfl) (fun _ _ _ h => h) (Or.inl ⟨by rfl, ?hy146⟩) hHeld ?rest146
              case hy146 => (intro w hSw; clear hSw; go_simp; try with_reducible rfl)
              try simp only [List.getElem_toArray]
              try simp only [List.getElem_cons_succ]
              try simp only [List.getElem_cons_zero]
              try simp only [Act.put]
              try simp only [List.setIfInBounds_toArray]
              try simp only [List.set_cons_succ]
              try simp only [List.set_cons_zero]
              refine wpAnyH_take (i := 5) (v := ?v147) rfl (by kernel_rfl) (by kernel_rfl) (by kernel_rfl) (fun _ _ _ h => h) (Or.inl ⟨by rfl, ?hy147⟩) hHeld ?rest147
              case hy147 => (intro w hSw; clear hSw; go_simp; try with_reducible rfl)
              try simp only [List.getElem_toArray]
              try simp only [List.getElem_cons_succ]
              try simp only [List.getElem_cons_zero]
              try simp only [Act.put]
              try simp only [List.setIfInBounds_toArray]
              try simp only [List.set_cons_succ]
              try simp only [List.set_cons_zero]
              refine wpAnyH_take (i := 6) (v := ?v148) rfl (by kernel_rfl) (by kernel_rfl) (by kernel_rfl) (fun _ _ _ h => h) (Or.inl ⟨by rfl, ?hy148⟩) hHeld ?rest148
              case hy148 => (intro w hSw; clear hSw; go_simp; try with_reducible rfl)
              try simp only [List.getElem_toArray]
              try simp only [List.getElem_cons_succ]
              try simp only [List.getElem_cons_zero]
              try simp only [Act.put]
              try simp only [List.setIfInBounds_toArray]
              try simp only [List.set_cons_succ]
              try simp only [List.set_cons_zero]
              refine wpAnyH_take (i := 7) (v := ?v149) rfl (by kernel_rfl) (by kernel_rfl) (by kernel_rfl) (fun _ _ _ h => h) (Or.inl ⟨by rfl, ?hy149⟩) hHeld ?rest149
              case hy149 => (intro w hSw; clear hSw; go_simp; try with_reducible rfl)
              try simp only [List.getElem_toArray]
              try simp only [List.getElem_cons_succ]
              try simp only [List.getElem_cons_zero]
              try simp only [Act.put]
              try simp only [List.setIfInBounds_toArray]
              try simp only [List.set_cons_succ]
              try simp only [List.set_cons_zero]
              refine wpAnyH_ready (rs := [8, 12]) (by kernel_rfl) (by simp) ?_
              refine AllReadyH.cons rfl (fun K hK => ?_) (AllReadyH.cons rfl (fun K hK => ?_) (AllReadyH.nil))
              · go_simp
                go_wp2_with (refine (parse_ok S3 hS3 _ (hE.next hHeld)).mono ?_; rintro r u1 ⟨⟨o3, ho3, rfl⟩, hb⟩; obtain ⟨kko3, hkko3⟩ : ∃ kk : Int, Hid ((if o3.isSome = true then 0 else 210) = kk) := ⟨_, rfl⟩; rw [hkko3.out])
                refine hK.out _ _ (below_next hHeld hb) (fun hHeld => ?_)
                clear hK K hb
                refine wpAnyH_take (i := 9) (v := ?v150) rfl (by kernel_rfl) (by kernel_rfl) (by kernel_rfl) (fun _ _ _ h => h) (Or.inl ⟨by rfl, ?hy150⟩) hHeld ?rest150
                case hy150 => (intro w hSw; clear hSw; go_simp; try with_reducible rfl)
                try simp only [List.getElem_toArray]
                try simp only [List.getElem_cons_succ]
                try simp only [List.getElem_cons_zero]
                try simp only [Act.put]
                try simp only [List.setIfInBounds_toArray]
                try simp only [List.set_cons_succ]
                try simp only [List.set_cons_zero]
                refine wpAnyH_take (i := 10) (v := ?v151) rfl (by kernel_rfl) (by kernel_rfl) (by kernel_rfl) (fun _ _ _ h => h) (Or.inl ⟨by rfl, ?hy151⟩) hHeld ?rest151
                case hy151 => (intro w hSw; clear hSw; go_simp; try with_reducible rfl)
                try simp only [List.getElem_toArray]
                try simp only [List.getElem_cons_succ]
                try simp only [List.getElem_cons_zero]
                try simp only [Act.put]
                try simp only [List.setIfInBounds_toArray]
                try simp only [List.set_cons_succ]
                try simp only [List.set_cons_zero]
                refine wpAnyH_take (i := 11) (v := ?v152) rfl (by kernel_rfl) (by kernel_rfl) (by kernel_rfl) (fun _ _ _ h => h) (Or.inl ⟨by rfl, ?hy152⟩) hHeld ?rest152
                case hy152 => (intro w hSw; clear hSw; go_simp; try with_reducible rfl)
                try simp only [List.getElem_toArray]
                try simp only [List.getElem_cons_succ]
                try simp only [List.getElem_cons_zero]
                try simp only [Act.put]
                try simp only [List.setIfInBounds_toArray]
                try simp only [List.set_cons_succ]
                try simp only [List.set_cons_zero]
                refine wpAnyH_ready (rs := [12]) (by kernel_rfl) (by simp) ?_
                refine AllReadyH.cons rfl (fun K hK => ?_) (AllReadyH.nil)
                rw [if_pos (by rfl)]
                refine wp_alloc_any zeroCa rfl ?_
                intro yp u2 y0 hb yl yt
                have yg := Nat.le_trans hHeld.size yl
                refine hK.out _ _ (below_next hHeld hb) (fun hHeld => ?_)
                clear hK K hb yl yt
                try simp only [List.getElem_toArray]
                try simp only [List.getElem_cons_succ]
                try simp only [List.getElem_cons_zero]
                try simp only [Act.put]
                try simp only [List.setIfInBounds_toArray]
                try simp only [List.set_cons_succ]
                try simp only [List.set_cons_zero]
                refine wpAnyH_ready (rs := [13]) (by kernel_rfl) (by simp) ?_
                refine AllReadyH.cons rfl (fun K hK => ?_) (AllReadyH.nil)
                rw [if_pos (by rfl)]
                refine wp_store_all 24 _ _ rfl (cells := (o3.getD Ca.zero).arr) y0 rfl rfl sizeCa rfl (Ca.arr_one _) ?_
                intro u3 hn9 hk9
                replace y0 := hn9
                refine hK.out _ _ (hHeld.trans (hk9.below1 yg hHeld.size)) (fun hHeld => ?_)
                clear hK K hk9 hn9
                try simp only [List.getElem_toArray]
                try simp only [List.getElem_cons_succ]
                try simp only [List.getElem_cons_zero]
                try simp only [Act.put]
                try simp only [List.setIfInBounds_toArray]
                try simp only [List.set_cons_succ]
                try simp only [List.set_cons_zero]
                refine wpAnyH_take (i := 14) (v := ?v153) rfl (by kernel_rfl) (by kernel_rfl) (by kernel_rfl) (fun _ _ _ h => h) (Or.inl ⟨by rfl, ?hy153⟩) hHeld ?rest153
                case hy153 => (intro w hSw; clear hSw; go_simp; try with_reducible rfl)
                try simp only [List.getElem_toArray]
                try simp only [List.getElem_cons_succ]
                try simp only [List.getElem_cons_zero]
                try simp only [Act.put]
                try simp only [List.setIfInBounds_toArray]
                try simp only [List.set_cons_succ]
                try simp only [List.set_cons_zero]
                refine wpAnyH_done (by kernel_rfl) ?_ _
                replace b1 := b1.below hHeld
                replace hB := below_next hB hHeld
                clear hHeld hE
                have HO := HU3.out o3 ho3
                clear ho3
                cases o3 with
                | none =>
                  obtain rfl : kko3 = 210 := hkko3.out.symm
                  go_wp2_with fail
                  go_ret
                  exact ⟨rfl, hB⟩
                | some d =>
                  obtain rfl : kko3 = 0 := hkko3.out.symm
                  have nq := neqCa d a false (HO d rfl)
                  clear HO
                  go_wp2_with (first | refine load_want (by rfl) 24 _ rfl y0 rfl Tryd.underlying24 rfl sizeCa ?_ | refine load_want (by rfl) 24 _ rfl b1 rfl Tryd.underlying24 rfl sizeCa ?_)
                  go_ret
                  exact ⟨rfl, hB⟩
              · rw [if_pos (by rfl)]
                refine wp_alloc_any zeroCa rfl ?_
                intro yp u4 y0 hb yl yt
                have yg := Nat.le_trans hHeld.size yl
                refine hK.out _ _ (below_next hHeld hb) (fun hHeld => ?_)
                clear hK K hb yl yt
                try simp only [List.getElem_toArray]
                try simp only [List.getElem_cons_succ]
                try simp only [List.getElem_cons_zero]
                try simp only [Act.put]
                try simp only [List.setIfInBounds_toArray]
                try simp only [List.set_cons_succ]
                try simp only [List.set_cons_zero]
                refine wpAnyH_ready (rs := [8]) (by kernel_rfl) (by simp) ?_
                refine AllReadyH.cons rfl (fun K hK => ?_) (AllReadyH.nil)
                go_simp
                go_wp2_with (refine (parse_ok S3 hS3 _ (hE.next hHeld)).mono ?_; rintro r u5 ⟨⟨o3, ho3, rfl⟩, hb⟩; obtain ⟨kko3, hkko3⟩ : ∃ kk : Int, Hid ((if o3.isSome = true then 0 else 210) = kk) := ⟨_, rfl⟩; rw [hkko3.out])
                replace y0 := y0.below hb
                refine hK.out _ _ (below_next hHeld hb) (fun hHeld => ?_)
                clear hK K hb
                refine wpAnyH_take (i := 9) (v := ?v154) rfl (by kernel_rfl) (by kernel_rfl) (by kernel_rfl) (fun _ _ _ h => h) (Or.inl ⟨by rfl, ?hy154⟩) hHeld ?rest154
                case hy154 => (intro w hSw; clear hSw; go_simp; try with_reducible rfl)
                try simp only [List.getElem_toArray]
                try simp only [List.getElem_cons_succ]
                try simp only [List.getElem_cons_zero]
                try simp only [Act.put]
                try simp only [List.setIfInBounds_toArray]
                try simp only [List.set_cons_succ]
                try simp only [List.set_cons_zero]
                refine wpAnyH_take (i := 10) (v := ?v155) rfl (by kernel_rfl) (by kernel_rfl) (by kernel_rfl) (fun _ _ _ h => h) (Or.inl ⟨by rfl, ?hy155⟩) hHeld ?rest155
                case hy155 => (intro w hSw; clear hSw; go_simp; try with_reducible rfl)
                try simp only [List.getElem_toArray]
                try simp only [List.getElem_cons_succ]
                try simp only [List.getElem_cons_zero]
                try simp only [Act.put]
                try simp only [List.setIfInBounds_toArray]
                try simp only [List.set_cons_succ]
                try simp only [List.set_cons_zero]
                refine wpAnyH_take (i := 11) (v := ?v156) rfl (by kernel_rfl) (by kernel_rfl) (by kernel_rfl) (fun _ _ _ h => h) (Or.inl ⟨by rfl, ?hy156⟩) hHeld ?rest156
                case hy156 => (intro w hSw; clear hSw; go_simp; try with_reducible rfl)
                try simp only [List.getElem_toArray]
                try simp only [List.getElem_cons_succ]
                try simp only [List.getElem_cons_zero]
                try simp only [Act.put]
                try simp only [List.setIfInBounds_toArray]
                try simp only [List.set_cons_succ]
                try simp only [List.set_cons_zero]
                refine wpAnyH_ready (rs := [13]) (by kernel_rfl) (by simp) ?_
                refine AllReadyH.cons rfl (fun K hK => ?_) (AllReadyH.nil)
                rw [if_pos (by rfl)]
                refine wp_store_all 24 _ _ rfl (cells := (o3.getD Ca.zero).arr) y0 rfl rfl sizeCa rfl (Ca.arr_one _) ?_
                intro u6 hn9 hk9
                replace y0 := hn9
                refine hK.out _ _ (hHeld.trans (hk9.below1 yg hHeld.size)) (fun hHeld => ?_)
                clear hK K hk9 hn9
                try simp only [List.getElem_toArray]
                try simp only [List.getElem_cons_succ]
                try simp only [List.getElem_cons_zero]
                try simp only [Act.put]
                try simp only [List.setIfInBounds_toArray]
                try simp only [List.set_cons_succ]
                try simp only [List.set_cons_zero]
                refine wpAnyH_take (i := 14) (v := ?v157) rfl (by kernel_rfl) (by kernel_rfl) (by kernel_rfl) (fun _ _ _ h => h) (Or.inl ⟨by rfl, ?hy157⟩) hHeld ?rest157
                case hy157 => (intro w hSw; clear hSw; go_simp; try with_reducible rfl)
                try simp only [List.getElem_toArray]
                try simp only [List.getElem_cons_succ]
                try simp only [List.getElem_cons_zero]
                try simp only [Act.put]
                try simp only [List.setIfInBounds_toArray]
                try simp only [List.set_cons_succ]
                try simp only [List.set_cons_zero]
                refine wpAnyH_done (by kernel_rfl) ?_ _
                replace b1 := b1.below hHeld
                replace hB := below_next hB hHeld
                clear hHeld hE
                have HO := HU3.out o3 ho3
                clear ho3
                cases o3 with
                | none =>
                  obtain rfl : kko3 = 210 := hkko3.out.symm
                  go_wp2_with fail
                  go_ret
                  exact ⟨rfl, hB⟩
                | some d =>
                  obtain rfl : kko3 = 0 := hkko3.out.symm
                  have nq := neqCa d a false (HO d rfl)
                  clear HO
                  go_wp2_with (first | refine load_want (by rfl) 24 _ rfl y0 rfl Tryd.underlying24 rfl sizeCa ?_ | refine load_want (by rfl) 24 _ rfl b1 rfl Tryd.underlying24 rfl sizeCa ?_)
                  go_ret
                  exact ⟨rfl, hB⟩


theorem laid_met (os : Os) : laidMetH Tryd.prog Rows.parseStrictRow.laid ((World.laidAll Tryd.prog os Rows.parseStrictRow.laid).forCall (fun _ _ => 0) ⟨#[], #[.string ByteArray.empty, .int .i64 0, .int .u8 0], []⟩).memory := by
  rw [MakeChecks.laidMetH_plain _ _ _ (by kernel_rfl)]
  exact laidMet_laidAll _ (by kernel_rfl) (by kernel_rfl)
def wdata (H : Type) : List (DataW H) := [.lit (.string []), .lit (.int .i64 0), .lit (.int .u8 0)]
theorem reads (os : Os) {H : Type} (enc : TypeId × Value → H) : ∃ places, DataW.whole enc Tryd.prog ((World.laidAll Tryd.prog os Rows.parseStrictRow.laid).forCall (fun _ _ => 0) ⟨#[], #[.string ByteArray.empty, .int .i64 0, .int .u8 0], []⟩).memory Tryd.f6.params.toList (OpenSpec.ofChange Rows.parseStrictSpec).vars false (#[.string ByteArray.empty, .int .i64 0, .int .u8 0] : Array Value).toList 8 = some (wdata H, [], places) :=
  ⟨[], by kernel_rfl⟩

set_option maxRecDepth 100000 in
theorem lifted (os : Os) (started : os.Started) (H : Type) (enc : TypeId × Value → H) (F : Stop.Interp) :
    ReturnsInHanded {} Tryd.checked os 6 .any ((OpenSpec.ofChange Rows.parseStrictSpec).preRow enc Tryd.prog Tryd.f6 Rows.parseStrictRow.domain false Rows.parseStrictRow.laid) (((OpenSpec.ofChange Rows.parseStrictSpec).at F).post enc Tryd.prog Tryd.f6 false true false false) := by
  obtain ⟨places, hx⟩ := reads os enc
  refine returnsInHanded_of_row (C := Tryd.checked) (s := OpenSpec.ofChange Rows.parseStrictSpec) own started (by kernel_rfl) Tryd.func6
    (witness_row_atRef (enc := enc) (C := Tryd.checked) false (World.laidAll Tryd.prog os Rows.parseStrictRow.laid) #[.string ByteArray.empty, .int .i64 0, .int .u8 0] (World.laidAll_os _ _ _) (by kernel_rfl) (by kernel_rfl) (by kernel_rfl)
      (OpenSpec.preRow_of_cond 8 hx (by kernel_rfl) (fun k hk => by cases hk) (by kernel_rfl) (laid_met os))) ?_
  intro W base args ds gs before hval0 hW hcnd hcond hsz0 hL0 hsh _
  have hL := hL0
  rw [MakeChecks.laidMetH_plain _ _ _ (by kernel_rfl)] at hL
  have hval : ∀ (j : Nat) t v, Tryd.f6.params[j]? = some t → args[j]? = some v → Value.okWide Tryd.prog W .any base t v := hval0
  have hsz : (DataW.weightsEach Tryd.prog (Tryd.f6.params.toList ++ Rows.parseStrictSpec.plain.varTypes Tryd.prog) (ds ++ gs)).all (· ≤ reachBytes) = true := hsz0
  have hW' := hW
  obtain ⟨p, q, hA0, hV, rfl, hfz, hnd⟩ := hW
  have hA : DataW.TrodAll enc Tryd.prog W 0 (fun _ => true) true Tryd.f6.params.toList args.toList ds p := hA0
  rw [Tryd.params6] at hA hval hsz
  obtain ⟨v0, vs0, d0, ds0, p0, q0, hargs, rfl, rfl, h0, r0⟩ := trodAll_cons hA
  obtain ⟨v1, vs1, d1, ds1, p1, q1, rfl, rfl, rfl, h1, r1⟩ := trodAll_cons r0
  obtain ⟨v2, vs2, d2, ds2, p2, q2, rfl, rfl, rfl, h2, r2⟩ := trodAll_cons r1
  obtain ⟨rfl, rfl, rfl⟩ := trodAll_nil r2
  obtain rfl : args = #[v0, v1, v2] := by cases args; simp_all
  obtain ⟨rfl, rfl⟩ := trodVars_none hV
  obtain ⟨a0, rfl, rfl, rfl, w0⟩ := open_string Tryd.underlying9 (hval 0 9 v0 rfl rfl) h0
  have z0 : a0.size ≤ 140737488351232 := by
    have := (fun n hn => of_decide_eq_true (List.all_eq_true.1 hsz _ (DataW.weights_mem_each (j := 0) rfl rfl n hn))) a0.data.toList.length (by simp [DataW.weights])
    rw [Array.length_toList] at this
    exact this
  obtain ⟨n1, rfl, rfl, rfl, w1⟩ := open_int Tryd.underlying3 (hval 1 3 v1 rfl rfl) h1
  obtain ⟨n2, rfl, rfl, rfl, w2⟩ := open_int Tryd.underlying5 (hval 2 5 v2 rfl rfl) h2
  obtain ⟨cb, rfl⟩ : ∃ cb : UInt8, n2 = (cb.toNat : Int) := by
    have h9 := w2
    simp [Lit.wf, IntKind.min, IntKind.max, IntKind.signed, IntKind.bits] at h9
    refine ⟨UInt8.ofNat n2.toNat, ?_⟩
    rw [UInt8.toNat_ofNat']
    omega
  have hE : Te W := te_of hL
  have hA2 := hA0
  clear hA0 hval0 hsz0
  simp only [List.append_nil] at hW'
  refine (walk a0 z0 n1 (i64_of n1 w1) cb W hE).mono fun e W' ⟨he, bel⟩ => ?_
  subst he
  exact ⟨_, rfl, _, _, _, [], _, [], hW', trodAll_mk1 (shut_bool Tryd.underlying4 _), (stays_all laidOut bel (by kernel_rfl) hA2), rfl, bel.frame _, fun h => by cases h⟩

theorem said : Rows.ParseStrictSaid :=
  OpenClaim.holds_of_cond 6 Tryd.f6 rfl rfl rfl rfl rfl rfl rfl ⟨rfl, rfl, rfl, rfl, rfl⟩ rfl rfl rfl rfl rfl (by kernel_rfl) Tryd.func6 (by kernel_rfl)
    (of_decide_eq_true (by kernel_rfl)) (by unfold Func.isWrapper; first | (rw [if_pos (by decide +kernel)]; kernel_rfl) | (rw [if_neg (by decide +kernel)]; exact ⟨rfl, rfl⟩))
    (fun os started H enc _ F => by rw [OpenClaim.pre_eq_preRow]; exact lifted os started H enc F)

theorem plain (f : FuncId) (fn : Func) (hf : Tryd.pinned.checked.prog.funcNamed "congress/congresslaw21.ParseStrict" = some f) (hfn : Tryd.pinned.checked.prog.funcs[f]? = some fn) :
    true = Tryd.pinned.checked.prog.looks [] ∧ ∀ (j : Nat) t, fn.params[j]? = some t → Tryd.pinned.checked.prog.wantsStandIn t = false := by
  obtain rfl : f = 6 := Option.some.inj ((show Tryd.prog.funcNamed "congress/congresslaw21.ParseStrict" = some 6 by kernel_rfl).symm.trans hf) |>.symm
  obtain rfl : fn = Tryd.f6 := (Option.some.inj (Tryd.func6.symm.trans hfn)).symm
  refine ⟨by kernel_rfl, fun j t ht => ?_⟩
  rw [Tryd.params6] at ht
  have hm : t ∈ [9, 3, 5] := by simpa using Array.mem_of_getElem? ht
  have hall : ([9, 3, 5].all fun u => !Tryd.prog.wantsStandIn u) = true := by kernel_rfl
  have := List.all_eq_true.1 hall t hm
  show Tryd.prog.wantsStandIn t = false
  simpa using this

theorem card : Rows.ParseStrictCardSaid :=
  Claim7.holds_tied_plain_at .later [] _ _ _ _ said (fun _ h => by cases h) (by kernel_rfl) (fun _ h => by cases h) parseStrict_row_tie rfl ⟨rfl, rfl⟩ (by kernel_rfl) rfl plain (by kernel_rfl)

end Go.Proofs.YtiepdfngjfhadaaDoor.parseStrict
namespace Go.Proofs.YtiepdfngjfhadaaDoor

theorem parseStrict_holds : Rows.ParseStrictCardSaid := parseStrict.card
#print axioms parseStrict_holds

end Go.Proofs.YtiepdfngjfhadaaDoor
