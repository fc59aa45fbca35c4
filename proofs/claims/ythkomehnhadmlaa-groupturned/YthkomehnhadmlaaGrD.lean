/-
  group.May and Apply: what each call answers.
  Each theorem says its own conditions: lists that memory bears.
-/
import Derived.Test.YthkomehnhadmlaaGrC
import Derived.Test.YthkomehnhadmlaaEn
namespace Go.Proofs.Ythkomehnhadmlaa
set_option maxRecDepth 10000
set_option linter.unusedSimpArgs false
open Go.RowKit Go.Sort
set_option linter.unusedVariables false
set_option linter.unusedSimpArgs false

set_option maxHeartbeats 4000000 in
theorem gmay_ok (L : List Mr) (la : Option Addr) (lc : Nat) (lm : L.length ≤ 9223372036854775807) (w : World) (hS : Li Mr.vals 0 la L w) : Calls Try.prog 17 #[.slice la L.length lc] w fun e w' => e = .returned (.bool (mayMB L)) ∧ Below w.heap.size w w' := by
  obtain ⟨n, hn⟩ : ∃ n, Hid (L.length = n) := ⟨_, rfl⟩
  have HM : Hid (mayMB L = okMTo L n) := by show okMTo L L.length = _; rw [hn.out]
  rw [HM.out]
  rw [hn.out] at lm ⊢
  clear HM
  go_enter Try.func17, Try.ntmps17
  go_wp2_with fail
  go_loopw [7] (fun iv wr => ∃ j : Nat, j ≤ n ∧ iv = .int .i64 j ∧ Hid (okMTo L j = true) ∧ Below w.heap.size w wr) (fun iv _ => n - (intOf iv).toNat)
  case atStart => exact ⟨0, by omega, rfl, okMTo_zero L, Below.refl _ _⟩
  case round =>
    obtain ⟨j, hj, rfl, h0, hB⟩ := hrel
    rename World => wr
    by_cases hjn : j < n
    · have j0 : (j : Int) < (n : Int) := by omega
      have j1 : (0 : Int) ≤ (j : Int) := by omega
      obtain ⟨x, hx⟩ : ∃ k, L[j]? = some k := ⟨_, List.getElem?_eq_getElem (by rw [hn.out]; exact hjn)⟩
      have HS := okMTo_succ L j x hx
      have pr := mayStand_ok x
      have pl := fun y => gless_ok y x
      have hSV := hS.below hB
      obtain ⟨b, o, rfl, _, hbl, hr⟩ := hSV.at Mr.vals_length j x hx
      have b1 := blk_new wr x.arr 35
      have hb := below_box wr (.cells x.arr 35)
      go_upto_region 4 with (go_big_may; first | refine load_range rfl 35 _ rfl x.vals hr rfl Try.underlying35 rfl sizeMr ?_ | refine alloc_zero zeroMr rfl rfl ?_ | refine store_new rfl 35 _ _ rfl (cells := x.arr) rfl rfl sizeMr rfl x.arr_one ?_)
      try simp only [Act.put, List.setIfInBounds_toArray, List.set_cons_zero, List.set_cons_succ]
      generalize wr.alloc (Obj.cells x.arr 35) = V at b1 hb ⊢
      replace hB := below_next hB hb
      replace hSV := hSV.below hb
      generalize wr.heap.size = z at b1 ⊢
      clear hb hr hbl
      cases hr9 : rgtM x with
      | false =>
        rw [hr9] at pr
        have HF : Hid (okMTo L n = false) := by
          show _ = _
          rw [← hn.out]
          exact okMTo_no L j x hx (by cases j <;> simp [okM, hr9])
        clear hr9 HS pl h0
        refine wp_region_held_drew (S := fun v => Below V.heap.size V v) (by kernel_rfl) ((Below.refl _ _).drew) (fun hHeld => ?_)
        refine' tkH 0 (v := _) rfl (by kernel_rfl) (fun _ _ _ h => h) (yieldsIf_load_mid (by rfl) _ _ rfl z 0 rfl x.vals _ ?hS31 Try.underlying35 rfl sizeMr) hHeld ?rest31
        case hS31 => exact fun w h => ((b1.below h).whole)
        try simp only [yy]
        refine rd1 1 (fun K hK => ?_)
        go_simp
        go_wp2_with (refine (pr _).mono ?_; rintro r u1 ⟨rfl, hb⟩)
        refine hK.out _ _ (below_next hHeld hb) (fun hHeld => ?_)
        clear hK K hb
        refine tkQ 2 hHeld ?_
        try simp only [yy]
        refine tkQ 3 hHeld ?_
        try simp only [yy]
        refine tkU 4 hHeld ?_
        try simp only [yy]
        refine tkU 5 hHeld ?_
        try simp only [yy]
        refine tkU 6 hHeld ?_
        try simp only [yy]
        refine tkU 7 hHeld ?_
        try simp only [yy]
        refine tkU 8 hHeld ?_
        try simp only [yy]
        refine tkU 9 hHeld ?_
        try simp only [yy]
        refine tkU 10 hHeld ?_
        try simp only [yy]
        refine tkU 11 hHeld ?_
        try simp only [yy]
        refine tkU 12 hHeld ?_
        try simp only [yy]
        refine tkU 13 hHeld ?_
        try simp only [yy]
        refine tkU 14 hHeld ?_
        try simp only [yy]
        refine tkU 15 hHeld ?_
        try simp only [yy]
        refine tkQ 16 hHeld ?_
        try simp only [yy]
        refine wpAnyH_done (by kernel_rfl) ?_ _
        replace hB := below_next hB hHeld
        go_wp2_with fail
        go_ret
        exact ⟨by rw [HF.out]; rfl, hB⟩
      | true =>
        rw [hr9] at pr
        rcases Nat.eq_zero_or_pos j with h00 | h00
        · have d0 : decide ((0 : Int) < (j : Int)) = false := decide_eq_false (by omega)
          have d00 : decide (0 < j) = false := decide_eq_false (by omega)
          have HT : Hid (okMTo L (j + 1) = true) := by
            show _ = _
            rw [HS, h0.out]
            subst h00
            rw [okM_zero, hr9]
            rfl
          clear hr9 HS pl h0 h00
          refine wp_region_held_drew (S := fun v => Below V.heap.size V v) (by kernel_rfl) ((Below.refl _ _).drew) (fun hHeld => ?_)
          refine' tkH 0 (v := _) rfl (by kernel_rfl) (fun _ _ _ h => h) (yieldsIf_load_mid (by rfl) _ _ rfl z 0 rfl x.vals _ ?hS47 Try.underlying35 rfl sizeMr) hHeld ?rest47
          case hS47 => exact fun w h => ((b1.below h).whole)
          try simp only [yy]
          refine rd1 1 (fun K hK => ?_)
          go_simp
          go_wp2_with (refine (pr _).mono ?_; rintro r u1 ⟨rfl, hb⟩)
          refine hK.out _ _ (below_next hHeld hb) (fun hHeld => ?_)
          clear hK K hb
          refine tkQ 2 hHeld ?_
          try simp only [yy]
          refine tkQ 3 hHeld ?_
          try simp only [yy]
          refine tkQ 4 hHeld ?_
          try simp only [yy]
          refine tkQ 5 hHeld ?_
          try simp only [yy]
          refine tkQ 6 hHeld ?_
          try simp only [yy]
          refine tkU 7 hHeld ?_
          try simp only [yy]
          refine tkU 8 hHeld ?_
          try simp only [yy]
          refine tkU 9 hHeld ?_
          try simp only [yy]
          refine tkU 10 hHeld ?_
          try simp only [yy]
          refine tkU 11 hHeld ?_
          try simp only [yy]
          refine tkU 12 hHeld ?_
          try simp only [yy]
          refine tkU 13 hHeld ?_
          try simp only [yy]
          refine tkU 14 hHeld ?_
          try simp only [yy]
          refine tkQ 15 hHeld ?_
          try simp only [yy]
          refine tkQ 16 hHeld ?_
          try simp only [yy]
          refine wpAnyH_done (by kernel_rfl) ?_ _
          replace hB := below_next hB hHeld
          go_wp2_with fail
          exact ⟨⟨j + 1, by omega, by go_num, HT, hB⟩, by simp [intOf]; omega⟩
        · obtain ⟨i, hi⟩ : ∃ i, Hid (j = i + 1) := ⟨j - 1, by show _ = _; omega⟩
          have hin : i < n := by have := hi.out; omega
          obtain ⟨y, hy⟩ : ∃ k, L[i]? = some k := ⟨_, List.getElem?_eq_getElem (by rw [hn.out]; exact hin)⟩
          have d0 : decide ((0 : Int) < (j : Int)) = true := decide_eq_true (by omega)
          have d00 : decide (0 < j) = true := decide_eq_true (by omega)
          have i0 : (0 : Int) ≤ (i : Int) := by omega
          have i1 : (i : Int) < (n : Int) := by omega
          have iw : IntKind.i64.wrap ((j : Int) - 1) = (i : Int) := by have := hi.out; rw [IntKind.wrap_i64]; omega
          replace pl := pl y
          have HO : okM L j x = lsM y x := by rw [hi.out, okM_some L i x y hy, hr9]; rfl
          cases hl : lsM y x with
          | true =>
            rw [hl] at pl
            have HT : Hid (okMTo L (j + 1) = true) := by
              show _ = _
              rw [HS, h0.out, HO, hl]
              rfl
            clear hr9 HS h0 h00 HO hl hi hin
            refine wp_region_held_drew (S := fun v => Below V.heap.size V v) (by kernel_rfl) ((Below.refl _ _).drew) (fun hHeld => ?_)
            refine' tkH 0 (v := _) rfl (by kernel_rfl) (fun _ _ _ h => h) (yieldsIf_load_mid (by rfl) _ _ rfl z 0 rfl x.vals _ ?hS63 Try.underlying35 rfl sizeMr) hHeld ?rest63
            case hS63 => exact fun w h => ((b1.below h).whole)
            try simp only [yy]
            refine rd1 1 (fun K hK => ?_)
            go_simp
            go_wp2_with (refine (pr _).mono ?_; rintro r u1 ⟨rfl, hb⟩)
            refine hK.out _ _ (below_next hHeld hb) (fun hHeld => ?_)
            clear hK K hb
            refine tkQ 2 hHeld ?_
            try simp only [yy]
            refine tkQ 3 hHeld ?_
            try simp only [yy]
            refine tkQ 4 hHeld ?_
            try simp only [yy]
            refine tkQ 5 hHeld ?_
            try simp only [yy]
            refine tkQ 6 hHeld ?_
            try simp only [yy]
            refine tkQ 7 hHeld ?_
            try simp only [yy]
            refine tkQ 8 hHeld ?_
            try simp only [yy]
            refine tkQ 9 hHeld ?_
            try simp only [yy]
            refine tkQ 10 hHeld ?_
            try simp only [yy]
            refine' tkH 11 (v := _) rfl (by kernel_rfl) (fun _ _ _ h => h) (yieldsIf_load_mid (by rfl) _ _ rfl b (o + i * 3) rfl y.vals _ ?hS73 Try.underlying35 rfl sizeMr) hHeld ?rest73
            case hS73 => exact fun w h => ((hSV.below h).rng Mr.vals_length i y hy)
            try simp only [yy]
            refine' tkH 12 (v := _) rfl (by kernel_rfl) (fun _ _ _ h => h) (yieldsIf_load_mid (by rfl) _ _ rfl z 0 rfl x.vals _ ?hS74 Try.underlying35 rfl sizeMr) hHeld ?rest74
            case hS74 => exact fun w h => ((b1.below h).whole)
            try simp only [yy]
            refine rd1 13 (fun K hK => ?_)
            go_simp
            go_wp2_with (refine (pl _).mono ?_; rintro r u2 ⟨rfl, hb⟩)
            refine hK.out _ _ (below_next hHeld hb) (fun hHeld => ?_)
            clear hK K hb
            refine tkQ 14 hHeld ?_
            try simp only [yy]
            refine tkQ 15 hHeld ?_
            try simp only [yy]
            refine tkQ 16 hHeld ?_
            try simp only [yy]
            refine wpAnyH_done (by kernel_rfl) ?_ _
            replace hB := below_next hB hHeld
            go_wp2_with fail
            exact ⟨⟨j + 1, by omega, by go_num, HT, hB⟩, by simp [intOf]; omega⟩
          | false =>
            rw [hl] at pl
            have HF : Hid (okMTo L n = false) := by
              show _ = _
              rw [← hn.out]
              exact okMTo_no L j x hx (HO.trans hl)
            clear hr9 HS h0 h00 HO hl hi hin
            refine wp_region_held_drew (S := fun v => Below V.heap.size V v) (by kernel_rfl) ((Below.refl _ _).drew) (fun hHeld => ?_)
            refine' tkH 0 (v := _) rfl (by kernel_rfl) (fun _ _ _ h => h) (yieldsIf_load_mid (by rfl) _ _ rfl z 0 rfl x.vals _ ?hS78 Try.underlying35 rfl sizeMr) hHeld ?rest78
            case hS78 => exact fun w h => ((b1.below h).whole)
            try simp only [yy]
            refine rd1 1 (fun K hK => ?_)
            go_simp
            go_wp2_with (refine (pr _).mono ?_; rintro r u1 ⟨rfl, hb⟩)
            refine hK.out _ _ (below_next hHeld hb) (fun hHeld => ?_)
            clear hK K hb
            refine tkQ 2 hHeld ?_
            try simp only [yy]
            refine tkQ 3 hHeld ?_
            try simp only [yy]
            refine tkQ 4 hHeld ?_
            try simp only [yy]
            refine tkQ 5 hHeld ?_
            try simp only [yy]
            refine tkQ 6 hHeld ?_
            try simp only [yy]
            refine tkQ 7 hHeld ?_
            try simp only [yy]
            refine tkQ 8 hHeld ?_
            try simp only [yy]
            refine tkQ 9 hHeld ?_
            try simp only [yy]
            refine tkQ 10 hHeld ?_
            try simp only [yy]
            refine' tkH 11 (v := _) rfl (by kernel_rfl) (fun _ _ _ h => h) (yieldsIf_load_mid (by rfl) _ _ rfl b (o + i * 3) rfl y.vals _ ?hS88 Try.underlying35 rfl sizeMr) hHeld ?rest88
            case hS88 => exact fun w h => ((hSV.below h).rng Mr.vals_length i y hy)
            try simp only [yy]
            refine' tkH 12 (v := _) rfl (by kernel_rfl) (fun _ _ _ h => h) (yieldsIf_load_mid (by rfl) _ _ rfl z 0 rfl x.vals _ ?hS89 Try.underlying35 rfl sizeMr) hHeld ?rest89
            case hS89 => exact fun w h => ((b1.below h).whole)
            try simp only [yy]
            refine rd1 13 (fun K hK => ?_)
            go_simp
            go_wp2_with (refine (pl _).mono ?_; rintro r u2 ⟨rfl, hb⟩)
            refine hK.out _ _ (below_next hHeld hb) (fun hHeld => ?_)
            clear hK K hb
            refine tkQ 14 hHeld ?_
            try simp only [yy]
            refine tkQ 15 hHeld ?_
            try simp only [yy]
            refine tkQ 16 hHeld ?_
            try simp only [yy]
            refine wpAnyH_done (by kernel_rfl) ?_ _
            replace hB := below_next hB hHeld
            go_wp2_with fail
            go_ret
            exact ⟨by rw [HF.out]; rfl, hB⟩
    · obtain rfl : j = n := by omega
      go_wp2_with fail
      go_ret
      exact ⟨by rw [h0.out]; rfl, hB⟩

set_option maxHeartbeats 1000000 in
theorem appQ_ok (x : Mr) (X : Nat) (k : Mr) (w : World) (hX : Blk X x.arr 35 w) : Calls Try.prog 25 #[.agg k.arr, .pointer (some ⟨X, 0, none⟩)] w fun e w' => e = .returned (.bool (!Mr.same k x)) ∧ Below w.heap.size w w' := by
  have b1 := blk_new w k.arr 35
  have hB : Below w.heap.size w (w.alloc (.cells k.arr 35)) := below_box w _
  have hX1 := hX.below hB
  have hE := neqMr k x _ rfl
  generalize Mr.same k x = t at hE ⊢
  clear hX
  go_enter Try.func25, Try.ntmps25
  go_wp2_with (first | refine load_blk rfl 35 _ rfl b1 rfl Try.underlying35 rfl sizeMr ?_ | refine load_blk rfl 35 _ rfl hX1 rfl Try.underlying35 rfl sizeMr ?_)
  go_ret
  exact ⟨rfl, hB⟩
theorem entApp : Enters 25 := fun args w => by kernel_rfl
/- What a table is behind an entry, and whether that changed something. -/
def AppM (k : Int) (x : Mr) (L : List Mr) (B : Nat) (e : Ending) (w' : World) : Prop := ∃ a c, e = .returned (.tuple #[.slice a (appM k x L).length c, .bool (didM k x L)]) ∧ Lg Mr.vals 3 35 B a c (appM k x L) w'
theorem did_no_right {k : Int} {x : Mr} {L : List Mr} (h : rgtM x = false) : didM k x L = false ∧ appM k x L = L := by
  have e : didM k x L = false := by unfold didM; rw [h]; rfl
  exact ⟨e, by unfold appM; rw [e]; rfl⟩
theorem did_other {k : Int} {x : Mr} {L : List Mr} (h2 : k ≠ 2) (h3 : k ≠ 3) : didM k x L = false ∧ appM k x L = L := by
  have e : didM k x L = false := by unfold didM; rw [decide_eq_false h2, decide_eq_false h3]; simp
  exact ⟨e, by unfold appM; rw [e]; rfl⟩
theorem did_join {x : Mr} {L : List Mr} (h : rgtM x = true) : (hasM3 x L = true → didM 2 x L = false ∧ appM 2 x L = L) ∧ (hasM3 x L = false → didM 2 x L = true ∧ appM 2 x L = insM x L) := by
  refine ⟨fun hh => ?_, fun hh => ?_⟩
  · have e : didM 2 x L = false := by unfold didM; rw [h, hh]; rfl
    exact ⟨e, by unfold appM; rw [e]; rfl⟩
  · have e : didM 2 x L = true := by unfold didM; rw [h, hh]; rfl
    exact ⟨e, by unfold appM; rw [e]; rfl⟩
theorem did_leave {x : Mr} {L : List Mr} (h : rgtM x = true) : (hasM3 x L = false → didM 3 x L = false ∧ appM 3 x L = L) ∧ (hasM3 x L = true → didM 3 x L = true ∧ appM 3 x L = outM x L) := by
  refine ⟨fun hh => ?_, fun hh => ?_⟩
  · have e : didM 3 x L = false := by unfold didM; rw [h, hh]; rfl
    exact ⟨e, by unfold appM; rw [e]; rfl⟩
  · have e : didM 3 x L = true := by unfold didM; rw [h, hh]; rfl
    exact ⟨e, by unfold appM; rw [e]; rfl⟩
theorem builtMr3 (g d : Int) (s : Nat) : Try.prog.built 35 [(0, .int .i64 g), (1, .int .i64 d), (2, .int .u64 (s : Int))] = some (Mr.mk g d s).arr := by kernel_rfl

set_option maxHeartbeats 4000000 in
theorem gapply_ok (d : Int) (e : En) (L : List Mr) (la : Option Addr) (lc : Nat) (lz : L.length * 24 + 24 ≤ 140737488355328) (hlc : L.length ≤ lc) (hlm : lc ≤ 9223372036854775807) (w : World) (hS : Li Mr.vals 0 la L w) :
    Calls Try.prog 7 #[.slice la L.length lc, .int .i64 d, .agg e.arr] w fun r w' => AppM e.k (⟨e.g, d, e.se⟩ : Mr) L w.heap.size r w' ∧ Below w.heap.size w w' := by
  obtain ⟨x, hx⟩ : ∃ x : Mr, Hid ((⟨e.g, d, e.se⟩ : Mr) = x) := ⟨_, rfl⟩
  simp only [hx.out]
  have pc := mclone_ok L la lc (by omega)
  have ps := mayStand_ok x
  have ph := containsM_ok x L la lc (by omega)
  have pw := with_ok x L la lc lz hlc hlm
  have pt := fun X => those_ok 25 (.pointer (some ⟨X, 0, none⟩)) (fun k => !Mr.same k x) entApp (fun u => Blk X x.arr 35 u) (fun u u' h hb => h.below hb) L (fun k u hu => appQ_ok x X k u hu) la lc (by omega)
  have hmf : ∀ (fn : Fn) (first cap : Array Value) (w : World), (Instr.makeFunc fn first cap).run Try.prog w = .ok (.func fn first cap) w := fun _ _ _ _ => rfl
  obtain ⟨n, hn⟩ : ∃ n, Hid (L.length = n) := ⟨_, rfl⟩
  rw [hn.out] at pc ph pw pt ⊢
  obtain ⟨a1, a2, hB⟩ := two_blk (T0 := 25) (T1 := 35) (C0 := e.arr) (C1 := x.arr) (w := w) rfl
  have b0 := blk_new w e.arr 25
  have q2 : (w.alloc (.cells e.arr 25)).cell? ⟨w.heap.size, 2, none⟩ = some (.int .i64 e.g) := b0.cell 2 _ rfl
  have q3 : (w.alloc (.cells e.arr 25)).cell? ⟨w.heap.size, 3, none⟩ = some (.int .u64 (e.se : Int)) := b0.cell 3 _ rfl
  clear b0
  go_enter Try.func7, Try.ntmps7
  go_upto_region 2 with (go_big_may; first | (refine build_as rfl 35 #[(0, .tmp 11), (1, .tmp 12), (2, .tmp 14)] rfl (C := x.arr) ?_ ?_; (rw [← hx.out]; kernel_rfl)) | refine alloc_zero zeroMr rfl rfl ?_ | refine store_new rfl 35 _ _ rfl (cells := x.arr) rfl rfl sizeMr rfl x.arr_one ?_)
  try simp only [Act.put, List.setIfInBounds_toArray, List.set_cons_zero, List.set_cons_succ]
  try simp only [alloc_size]
  clear q2 q3
  generalize hW : (w.alloc (Obj.cells e.arr 25)).alloc (Obj.cells x.arr 35) = W at a1 a2 hB ⊢
  clear hW hx
  have hlt := a2.lt
  cases hr9 : rgtM x with
  | false =>
    rw [hr9] at ps
    have HM : ∀ w' a c, Lg Mr.vals 3 35 w.heap.size a c L w' → AppM e.k x L w.heap.size (.returned (.tuple #[.slice a n c, .bool false])) w' := fun w' a c h => ⟨a, c, by rw [(did_no_right (k := e.k) (L := L) hr9).1, (did_no_right (k := e.k) (L := L) hr9).2, hn.out], by rw [(did_no_right (k := e.k) (L := L) hr9).2]; exact h⟩
    clear ph pw pt hr9
    go_wp2_with (refine load_blk rfl 35 _ rfl a2 rfl Try.underlying35 rfl sizeMr ?_)
    refine (ps _).mono ?_
    rintro r w2 ⟨rfl, hb⟩
    replace a1 := a1.below hb
    replace a2 := a2.below hb
    replace hB := below_next hB hb
    clear hb
    clear ps a1 a2
    go_wp2_with fail
    refine (pc _ (hS.below hB)).mono ?_
    rintro r w9 ⟨⟨a, c, rfl, hG⟩, hb⟩
    have HR := HM _ a c (hG.mono hB.size)
    replace hB := below_next hB hb
    clear pc hb hG HM
    rw [hn.out]
    go_wp2_with fail
    go_ret2
    exact ⟨HR, hB⟩
  | true =>
    rw [hr9] at ps
    go_wp2_with (refine load_blk rfl 35 _ rfl a2 rfl Try.underlying35 rfl sizeMr ?_)
    refine (ps _).mono ?_
    rintro r w2 ⟨rfl, hb⟩
    replace a1 := a1.below hb
    replace a2 := a2.below hb
    replace hB := below_next hB hb
    clear hb
    clear ps
    go_wp2_with (refine load_blk rfl 35 _ rfl a2 rfl Try.underlying35 rfl sizeMr ?_)
    refine (ph _ (hS.below hB)).mono ?_
    rintro r w3 ⟨rfl, hb⟩
    replace a1 := a1.below hb
    replace a2 := a2.below hb
    replace hB := below_next hB hb
    clear hb
    clear ph
    by_cases k2 : e.k = 2
    · have q0 : w3.cell? ⟨w.heap.size, 0, none⟩ = some (.int .i64 2) := k2 ▸ a1.cell 0 _ rfl
      cases hh : hasM3 x L with
      | true =>
        have HE := (did_join (L := L) hr9).1 hh
        have HM : ∀ w' a c, Lg Mr.vals 3 35 w.heap.size a c L w' → AppM e.k x L w.heap.size (.returned (.tuple #[.slice a n c, .bool false])) w' := fun w' a c h => ⟨a, c, by rw [((k2.symm ▸ HE : didM e.k x L = false ∧ appM e.k x L = L)).1, ((k2.symm ▸ HE : didM e.k x L = false ∧ appM e.k x L = L)).2, hn.out], by rw [((k2.symm ▸ HE : didM e.k x L = false ∧ appM e.k x L = L)).2]; exact h⟩
        clear pw pt hr9 hh HE k2 a1 a2
        go_wp2_with fail
        refine (pc _ (hS.below hB)).mono ?_
        rintro r w9 ⟨⟨a, c, rfl, hG⟩, hb⟩
        have HR := HM _ a c (hG.mono hB.size)
        replace hB := below_next hB hb
        clear pc hb hG HM
        rw [hn.out]
        go_wp2_with fail
        go_ret2
        exact ⟨HR, hB⟩
      | false =>
        have HE := (did_join (L := L) hr9).2 hh
        rw [← k2] at HE
        have HM : ∀ w' a c, Lg Mr.vals 3 35 w.heap.size a c (insM x L) w' → AppM e.k x L w.heap.size (.returned (.tuple #[.slice a (insM x L).length c, .bool true])) w' := fun w' a c h => ⟨a, c, by rw [HE.1, HE.2], by rw [HE.2]; exact h⟩
        unfold MadeMr at pw
        generalize (insM x L).length = q at pw HM
        clear pc pt hr9 hh HE k2 a1
        go_wp2_with (refine load_blk rfl 35 _ rfl a2 rfl Try.underlying35 rfl sizeMr ?_)
        refine (pw _ (hS.below hB)).mono ?_
        rintro r w9 ⟨⟨a, c, rfl, hG⟩, hb⟩
        have HR := HM _ a c (Lg.mono hG hB.size)
        replace hB := below_next hB hb
        clear pw hb hG HM a2 q0
        go_wp2_with fail
        go_ret2
        exact ⟨HR, hB⟩
    · by_cases k3 : e.k = 3
      · have q0 : w3.cell? ⟨w.heap.size, 0, none⟩ = some (.int .i64 3) := k3 ▸ a1.cell 0 _ rfl
        cases hh : hasM3 x L with
        | false =>
          have HE := (did_leave (L := L) hr9).1 hh
          have HM : ∀ w' a c, Lg Mr.vals 3 35 w.heap.size a c L w' → AppM e.k x L w.heap.size (.returned (.tuple #[.slice a n c, .bool false])) w' := fun w' a c h => ⟨a, c, by rw [((k3.symm ▸ HE : didM e.k x L = false ∧ appM e.k x L = L)).1, ((k3.symm ▸ HE : didM e.k x L = false ∧ appM e.k x L = L)).2, hn.out], by rw [((k3.symm ▸ HE : didM e.k x L = false ∧ appM e.k x L = L)).2]; exact h⟩
          clear pw pt hr9 hh HE k2 k3 a1 a2
          go_wp2_with fail
          refine (pc _ (hS.below hB)).mono ?_
          rintro r w9 ⟨⟨a, c, rfl, hG⟩, hb⟩
          have HR := HM _ a c (hG.mono hB.size)
          replace hB := below_next hB hb
          clear pc hb hG HM
          rw [hn.out]
          go_wp2_with fail
          go_ret2
          exact ⟨HR, hB⟩
        | true =>
          have HE := (did_leave (L := L) hr9).2 hh
          rw [← k3] at HE
          have HM : ∀ w' a c, Lg Mr.vals 3 35 w.heap.size a c (outM x L) w' → AppM e.k x L w.heap.size (.returned (.tuple #[.slice a (outM x L).length c, .bool true])) w' := fun w' a c h => ⟨a, c, by rw [HE.1, HE.2], by rw [HE.2]; exact h⟩
          replace pt : ∀ (w1 : World), Li Mr.vals 0 la L w1 → Blk (w.heap.size + 1) x.arr 35 w1 → Calls _ _ _ w1 fun e w' => MadeMr (outM x L) w1.heap.size e w' ∧ Below w1.heap.size w1 w' := pt (w.heap.size + 1)
          unfold MadeMr at pt
          generalize outM x L = O at pt HM
          generalize O.length = q at pt HM
          clear pc pw hr9 hh HE k2 k3 a1
          go_wp2_with fail
          refine (pt _ (hS.below hB) a2).mono ?_
          rintro r w9 ⟨⟨a, c, rfl, hG⟩, hb⟩
          have HR := HM _ a c (Lg.mono hG hB.size)
          replace hB := below_next hB hb
          clear pt hb hG HM a2 q0
          go_wp2_with fail
          go_ret2
          exact ⟨HR, hB⟩
      · have HE := did_other (L := L) (x := x) k2 k3
        have HM : ∀ w' a c, Lg Mr.vals 3 35 w.heap.size a c L w' → AppM e.k x L w.heap.size (.returned (.tuple #[.slice a n c, .bool false])) w' := fun w' a c h => ⟨a, c, by rw [(HE).1, (HE).2, hn.out], by rw [(HE).2]; exact h⟩
        have q0 : w3.cell? ⟨w.heap.size, 0, none⟩ = some (.int .i64 e.k) := a1.cell 0 _ rfl
        have d2 : (e.k == 2) = false := by rw [beq_eq_false_iff_ne]; exact k2
        have d3 : (e.k == 3) = false := by rw [beq_eq_false_iff_ne]; exact k3
        clear pw pt hr9 HE k2 k3 a1 a2
        go_wp2_with fail
        refine (pc _ (hS.below hB)).mono ?_
        rintro r w9 ⟨⟨a, c, rfl, hG⟩, hb⟩
        have HR := HM _ a c (hG.mono hB.size)
        replace hB := below_next hB hb
        clear pc hb hG HM
        rw [hn.out]
        go_wp2_with fail
        go_ret2
        exact ⟨HR, hB⟩

end Go.Proofs.Ythkomehnhadmlaa
