/-
  Entries of one daemon and one service come in the order in which they stand; one by causal comes behind all by fifo and causal of the rounds ahead of its own: the law QueueFifo returns true for every input.
  No condition beyond the form's own.
-/
import Derived.Test.YtmnpbjaofemelaaRows
import Derived.Test.YtmnpbjaofemelaaQuI
import Derived.WalkKit
import Derived.ProofKit
import Derived.OpenShut
import Derived.ShutString
import Derived.SizedLaws
import Derived.ChangeOld
import Derived.Below
namespace Go.Proofs.Ytmnpbjaofemelaa.queueFifo
open Go.Sort Go.ChangeShapes Go.WideShapes Go.ChangeAt Go.RowKit
open Go.ChangeMaps (open_string shut_string)
set_option linter.unusedVariables false
set_option maxRecDepth 10000

theorem own : ownKnob Try.prog.godebug = none := by kernel_rfl
theorem length_bytes (s : ByteArray) : s.data.toList.length = s.size := by rw [Array.length_toList]; rfl

theorem sizePy : (Try.prog.info? 50).map (·.size) = some 9 := by kernel_rfl
set_option maxHeartbeats 16000000 in
theorem walk (m : Nat → Nat) (la : Option Addr) (L : List Fm) (lc : Nat) (lz : L.length * 40 ≤ 140737488351232) (lk : L.length ≤ lc) (lm : lc ≤ maxLen) (w : World) (hls : ∀ x ∈ L, x.ok w) (hS : Li Fm.vals 0 la L w) : Calls Try.prog 6 #[.agg (pyc m (.slice la L.length lc))] w fun e w' => e = .returned (.bool true) ∧ Below w.heap.size w w' := by
  obtain ⟨n, hn⟩ : ∃ n, Hid (L.length = n) := ⟨_, rfl⟩
  have hO : Hid (∀ v, Below w.heap.size w v → ∀ x ∈ L, x.ok v) := fun v hv x hx => by
    have h := hls x hx
    exact ⟨h.hf, h.hr, h.hb, h.hl, h.hc, h.hS.below hv⟩
  have hX := hS
  have h63 : L.length ≤ 9223372036854775807 := by omega
  have hrunok : ∀ s, RunF m L (min L.length 60) s → RunOk m (min L.length 60) s := fun s h => run_ok (Nat.min_le_right _ _) h
  have pD : ∀ v, Li Fm.vals 0 la L v → (∀ x ∈ L, x.ok v) → Calls Try.prog 18 #[.agg (pyc m (.slice la n lc))] v fun e w' => (∃ (s : Sq) (D : List Wt) (nd : Nat) (a : Option Addr) (c : Nat), RunF m L (min L.length 60) s ∧ Hid (s.out ++ s.q = D) ∧ Hid (D.length = nd) ∧ e = .returned (.slice a nd c) ∧ nd ≤ c ∧ Li Wt.vals 0 a D w') ∧ Below v.heap.size v w' := fun v h1 h2 => by
    have h := deliv_ok m L la lc h63 v h2 h1
    rw [hn.out] at h ⊢
    refine h.mono ?_
    rintro e w' ⟨s, k1, ⟨a, c, k2, k3, k4⟩, k5⟩
    exact ⟨⟨s, _, _, a, c, k1, rfl, rfl, k2, k3, k4⟩, k5⟩
  clear hls lz lk lm hS h63
  have bp := blk_new w (pyc m (.slice la L.length lc)) 50
  have hB := below_box w (.cells (pyc m (.slice la L.length lc)) 50)
  rw [hn.out] at bp hB ⊢
  go_enter Try.func6, Try.ntmps6
  go_upto_region 1 with fail
  try simp only [Act.put]
  generalize w.alloc (Obj.cells (pyc m (.slice la n lc)) 50) = W at bp hB ⊢
  go_wp2_with (refine load_blk rfl 50 _ rfl bp rfl Try.underlying50 rfl sizePy ?_)
  refine (pD _ (hX.below hB) (hO.out _ hB)).mono ?_
  rintro r W1 ⟨⟨s, D, nd, da, dc, hrun, hD9, hnd, rfl, hdc, hD⟩, hb⟩
  replace hB := hB.trans (hb.mono hB.size)
  have hok := hrunok s hrun
  have hDl := hok.J.flush
  have hlens := hok.lens
  clear hb bp pD
  rw [hD9.out] at hDl
  have hsm : nd ≤ 240 := by have h1 := hnd.out; rw [← hD9.out, List.length_append] at h1; omega
  have HPAIR : Hid (∀ (k i : Nat) (y x : Wt), D[k]? = some y → D[i]? = some x → k < i → Oth y x) := fun k i y x hy hx hki => by
    obtain ⟨hk, hky⟩ := List.getElem?_eq_some_iff.1 hy
    obtain ⟨hi, hix⟩ := List.getElem?_eq_some_iff.1 hx
    have h3 := List.pairwise_iff_getElem.1 hDl.oth k i hk hi hki
    rw [hky, hix] at h3
    exact h3
  have HD : Hid (Li Wt.vals 0 da D W1) := hD
  clear hDl hok hrun hlens hD
  go_wp2_with fail
  go_loopw [4] (fun iv wr => ∃ i : Nat, i ≤ nd ∧ iv = .int .i64 i ∧ Below w.heap.size w wr ∧ Below W1.heap.size W1 wr) (fun iv _ => nd - (intOf iv).toNat)
  case atStart => exact ⟨0, by omega, rfl, hB, Below.refl _ _⟩
  case round =>
    clear hB
    obtain ⟨i, hi, rfl, hB, hC⟩ := hrel
    rename World => wr
    have i1 : (0 : Int) ≤ (i : Int) := by omega
    by_cases hin : i < nd
    · have i0 : (i : Int) < (nd : Int) := by omega
      obtain ⟨x, hx⟩ : ∃ q, D[i]? = some q := ⟨_, List.getElem?_eq_getElem (by rw [hnd.out]; exact hin)⟩
      have HXX : Hid (D[i]? = some x) := hx
      obtain ⟨b9, o9, rfl, _, _, _⟩ := (HD.out.below hC).at Wt.vals_length i x hx
      clear hx
      go_wp2_with fail
      go_loopw [5] (fun kv wr => ∃ k : Nat, k ≤ i ∧ kv = .int .i64 k ∧ Below w.heap.size w wr ∧ Below W1.heap.size W1 wr) (fun kv _ => i - (intOf kv).toNat)
      case atStart => exact ⟨0, by omega, rfl, hB, hC⟩
      case round =>
        clear hB hC
        obtain ⟨k, hk, rfl, hB, hC⟩ := hrel
        rename World => wr
        have k1 : (0 : Int) ≤ (k : Int) := by omega
        by_cases hki : k < i
        · have k0 : (k : Int) < (i : Int) := by omega
          have kn : (k : Int) < (nd : Int) := by omega
          obtain ⟨y, hy⟩ : ∃ q, D[k]? = some q := ⟨_, List.getElem?_eq_getElem (by rw [hnd.out]; omega)⟩
          have HY : Hid (D[k]? = some y) := hy
          have hot := HPAIR.out k i y x hy HXX.out hki
          have HT1 : Hid (y.p.f = x.p.f → y.e.sv = x.e.sv → y.e.k = x.e.k → befB y.p x.p = true) := fun h1 h2 h3 => (befB_iff _ _).2 (hot.1 h1 h2 h3)
          have HT2 : Hid (y.e.k = 1 → x.e.k = 1 → y.e.sv = 1 → x.e.sv = 0 ∨ x.e.sv = 1 → y.p.r ≤ x.p.r) := hot.2
          clear hy hot
          go_upto_region 8 with fail
          try simp only [Act.put, List.setIfInBounds_toArray, List.set_cons_zero, List.set_cons_succ]
          go_cut [6, 7] from 21 to 28 (fun av bv wx => ∃ kap kbp, av = .pointer (some ⟨kap, 0, none⟩) ∧ bv = .pointer (some ⟨kbp, 0, none⟩) ∧ Blk kap y.arr 47 wx ∧ Blk kbp x.arr 47 wx ∧ Below wr.heap.size wr wx)
          case first =>
            clear HT1 HT2
            refine wp_region_held_drew (S := fun v => Below wr.heap.size wr v) (by kernel_rfl) ((Below.refl _ _).drew) (fun hHeld => ?_)
            refine tkQ 0 hHeld ?_
            try simp only [yy]
            refine tkQ 1 hHeld ?_
            try simp only [yy]
            refine tkQ 2 hHeld ?_
            try simp only [yy]
            refine' tkH 3 (v := _) rfl (by kernel_rfl) (fun _ _ _ h => h) (yieldsIf_load_mid (by rfl) _ _ rfl b9 (o9 + k * 9) rfl y.vals _ ?hS8 Try.underlying47 rfl sizeWt) hHeld ?rest8
            case hS8 => exact fun w h => (((HD.out.below hC).below h).rng Wt.vals_length k y HY.out)
            try simp only [yy]
            refine tkQ 4 hHeld ?_
            try simp only [yy]
            refine tkQ 5 hHeld ?_
            try simp only [yy]
            refine tkQ 6 hHeld ?_
            try simp only [yy]
            refine' tkH 7 (v := _) rfl (by kernel_rfl) (fun _ _ _ h => h) (yieldsIf_load_mid (by rfl) _ _ rfl b9 (o9 + i * 9) rfl x.vals _ ?hS12 Try.underlying47 rfl sizeWt) hHeld ?rest12
            case hS12 => exact fun w h => (((HD.out.below hC).below h).rng Wt.vals_length i x HXX.out)
            try simp only [yy]
            refine wpAnyH_ready (rs := [8, 9]) (by kernel_rfl) (by simp) ?_
            refine AllReadyH.cons rfl (fun K hK => ?_) (AllReadyH.cons rfl (fun K hK => ?_) (AllReadyH.nil))
            · rw [if_pos (by rfl)]
              refine wp_alloc_any zeroWt rfl ?_
              intro kap u1 ka0 hb kal kat
              have kag := Nat.le_trans hHeld.size kal
              refine hK.out _ _ (below_next hHeld hb) (fun hHeld => ?_)
              clear hK K hb kal kat
              try simp only [yy]
              refine rd1 9 (fun K hK => ?_)
              rw [if_pos (by rfl)]
              refine wp_alloc_any zeroWt rfl ?_
              intro kbp u2 kb0 hb kbl kbt
              have kbg := Nat.le_trans hHeld.size kbl
              have hne : kap ≠ kbp := by have := ka0.lt; omega
              replace ka0 := ka0.below hb
              refine hK.out _ _ (below_next hHeld hb) (fun hHeld => ?_)
              clear hK K hb kbl kbt
              try simp only [yy]
              refine rd1 10 (fun K hK => ?_)
              rw [if_pos (by rfl)]
              refine wp_store_all 47 _ _ rfl (cells := y.arr) ka0 rfl rfl sizeWt rfl y.arr_one ?_
              intro u3 hn9 hk9
              replace ka0 := hn9
              replace kb0 := kb0.kp1 hk9 (by omega)
              refine hK.out _ _ (hHeld.trans (hk9.below1 kag hHeld.size)) (fun hHeld => ?_)
              clear hK K hk9 hn9
              try simp only [yy]
              refine rd1 11 (fun K hK => ?_)
              rw [if_pos (by rfl)]
              refine wp_store_all 47 _ _ rfl (cells := x.arr) kb0 rfl rfl sizeWt rfl x.arr_one ?_
              intro u4 hn9 hk9
              replace kb0 := hn9
              replace ka0 := ka0.kp1 hk9 (by omega)
              refine hK.out _ _ (hHeld.trans (hk9.below1 kbg hHeld.size)) (fun hHeld => ?_)
              clear hK K hk9 hn9
              try simp only [yy]
              refine wpAnyH_done (by kernel_rfl) ?_ _
              go_wp2_with fail
              go_meet
              exact ⟨kap, kbp, rfl, rfl, ka0, kb0, hHeld⟩
            · rw [if_pos (by rfl)]
              refine wp_alloc_any zeroWt rfl ?_
              intro kbp u5 kb0 hb kbl kbt
              have kbg := Nat.le_trans hHeld.size kbl
              refine hK.out _ _ (below_next hHeld hb) (fun hHeld => ?_)
              clear hK K hb kbl kbt
              try simp only [yy]
              refine rd1 8 (fun K hK => ?_)
              rw [if_pos (by rfl)]
              refine wp_alloc_any zeroWt rfl ?_
              intro kap u6 ka0 hb kal kat
              have kag := Nat.le_trans hHeld.size kal
              have hne : kbp ≠ kap := by have := kb0.lt; omega
              replace kb0 := kb0.below hb
              refine hK.out _ _ (below_next hHeld hb) (fun hHeld => ?_)
              clear hK K hb kal kat
              try simp only [yy]
              refine rd1 10 (fun K hK => ?_)
              rw [if_pos (by rfl)]
              refine wp_store_all 47 _ _ rfl (cells := y.arr) ka0 rfl rfl sizeWt rfl y.arr_one ?_
              intro u7 hn9 hk9
              replace ka0 := hn9
              replace kb0 := kb0.kp1 hk9 (by omega)
              refine hK.out _ _ (hHeld.trans (hk9.below1 kag hHeld.size)) (fun hHeld => ?_)
              clear hK K hk9 hn9
              try simp only [yy]
              refine rd1 11 (fun K hK => ?_)
              rw [if_pos (by rfl)]
              refine wp_store_all 47 _ _ rfl (cells := x.arr) kb0 rfl rfl sizeWt rfl x.arr_one ?_
              intro u8 hn9 hk9
              replace kb0 := hn9
              replace ka0 := ka0.kp1 hk9 (by omega)
              refine hK.out _ _ (hHeld.trans (hk9.below1 kbg hHeld.size)) (fun hHeld => ?_)
              clear hK K hk9 hn9
              try simp only [yy]
              refine wpAnyH_done (by kernel_rfl) ?_ _
              go_wp2_with fail
              go_meet
              exact ⟨kap, kbp, rfl, rfl, ka0, kb0, hHeld⟩
          case rest =>
            obtain ⟨kap, kbp, rfl, rfl, ka0, kb0, hb⟩ := hcut
            rename World => V
            replace hB := hB.trans (hb.mono hB.size)
            replace hC := hC.trans (hb.mono hC.size)
            clear hb HY HXX
            have ya : V.cell? ⟨kap, 0, none⟩ = some (.int .u32 (y.p.r : Int)) := ka0.cell 0 _ rfl
            have yb : V.cell? ⟨kap, 1, none⟩ = some (.int .i64 y.p.f) := ka0.cell 1 _ rfl
            have yc : V.cell? ⟨kap, 3, none⟩ = some (.int .i64 y.e.k) := ka0.cell 3 _ rfl
            have yd : V.cell? ⟨kap, 4, none⟩ = some (.int .i64 y.e.sv) := ka0.cell 4 _ rfl
            have xa : V.cell? ⟨kbp, 0, none⟩ = some (.int .u32 (x.p.r : Int)) := kb0.cell 0 _ rfl
            have xb : V.cell? ⟨kbp, 1, none⟩ = some (.int .i64 x.p.f) := kb0.cell 1 _ rfl
            have xc : V.cell? ⟨kbp, 3, none⟩ = some (.int .i64 x.e.k) := kb0.cell 3 _ rfl
            have xd : V.cell? ⟨kbp, 4, none⟩ = some (.int .i64 x.e.sv) := kb0.cell 4 _ rfl
            go_upto_region 9 with fail
            go_cut [61] from 29 to 60 (fun v wx => v = .bool false ∧ Below V.heap.size V wx)
            case first =>
              clear HT2 hB hC
              by_cases s1 : y.p.f = x.p.f
              · have s1b : (y.p.f == x.p.f) = true := by rw [s1]; simp
                by_cases s2 : y.e.sv = x.e.sv
                · have s2b : (y.e.sv == x.e.sv) = true := by rw [s2]; simp
                  by_cases s3 : y.e.k = x.e.k
                  · have s3b : (y.e.k == x.e.k) = true := by rw [s3]; simp
                    have pb := rbef_ok y.p x.p
                    rw [HT1.out s1 s2 s3] at pb
                    clear s1 s2 s3
                    go_wp2_with (first | refine load_wpart rfl 42 _ rfl (o := 0) ka0 rfl y.p.vals y.place Try.underlying42 rfl sizePl ?_ | refine load_wpart rfl 42 _ rfl (o := 0) kb0 rfl x.p.vals x.place Try.underlying42 rfl sizePl ?_)
                    refine (pb _).mono ?_
                    rintro r w7 ⟨rfl, hb⟩
                    clear pb
                    go_wp2_with fail
                    go_meet
                    exact ⟨rfl, hb⟩
                  · have s3b : (y.e.k == x.e.k) = false := by simpa using s3
                    clear s1 s2 s3
                    go_wp2_with fail
                    go_meet
                    exact ⟨rfl, Below.refl _ _⟩
                · have s2b : (y.e.sv == x.e.sv) = false := by simpa using s2
                  clear s1 s2
                  go_wp2_with fail
                  go_meet
                  exact ⟨rfl, Below.refl _ _⟩
              · have s1b : (y.p.f == x.p.f) = false := by simpa using s1
                clear s1
                go_wp2_with fail
                go_meet
                exact ⟨rfl, Below.refl _ _⟩
            case rest =>
              obtain ⟨rfl, hb⟩ := hcut
              rename World => V9
              replace hB := hB.trans (hb.mono hB.size)
              replace hC := hC.trans (hb.mono hC.size)
              replace ka0 := ka0.below hb
              replace kb0 := kb0.below hb
              clear hb HT1 xa xb xc xd ya yb yc yd
              have ya : V9.cell? ⟨kap, 0, none⟩ = some (.int .u32 (y.p.r : Int)) := ka0.cell 0 _ rfl
              have yb : V9.cell? ⟨kap, 1, none⟩ = some (.int .i64 y.p.f) := ka0.cell 1 _ rfl
              have yc : V9.cell? ⟨kap, 3, none⟩ = some (.int .i64 y.e.k) := ka0.cell 3 _ rfl
              have yd : V9.cell? ⟨kap, 4, none⟩ = some (.int .i64 y.e.sv) := ka0.cell 4 _ rfl
              have xa : V9.cell? ⟨kbp, 0, none⟩ = some (.int .u32 (x.p.r : Int)) := kb0.cell 0 _ rfl
              have xb : V9.cell? ⟨kbp, 1, none⟩ = some (.int .i64 x.p.f) := kb0.cell 1 _ rfl
              have xc : V9.cell? ⟨kbp, 3, none⟩ = some (.int .i64 x.e.k) := kb0.cell 3 _ rfl
              have xd : V9.cell? ⟨kbp, 4, none⟩ = some (.int .i64 x.e.sv) := kb0.cell 4 _ rfl
              clear ka0 kb0
              go_upto_region 11 with fail
              by_cases t1 : y.e.k = 1
              · have t1b : (y.e.k == 1) = true := by rw [t1]; rfl
                by_cases t2 : x.e.k = 1
                · have t2b : (x.e.k == 1) = true := by rw [t2]; rfl
                  by_cases t3 : y.e.sv = 1
                  · have t3b : (y.e.sv == 1) = true := by rw [t3]; rfl
                    by_cases t4 : x.e.sv = 0
                    · have t4b : (x.e.sv == 0) = true := by rw [t4]; rfl
                      have t6 : ¬ (x.p.r : Int) < (y.p.r : Int) := by have := HT2.out t1 t2 t3 (.inl t4); omega
                      clear t1 t2 t3 t4
                      go_wp2_with fail
                      exact ⟨⟨k + 1, by omega, by go_num, hB, hC⟩, by simp [intOf]; omega⟩
                    · have t4b : (x.e.sv == 0) = false := by simpa using t4
                      by_cases t5 : x.e.sv = 1
                      · have t5b : (x.e.sv == 1) = true := by rw [t5]; rfl
                        have t6 : ¬ (x.p.r : Int) < (y.p.r : Int) := by have := HT2.out t1 t2 t3 (.inr t5); omega
                        clear t1 t2 t3 t4 t5
                        go_wp2_with fail
                        exact ⟨⟨k + 1, by omega, by go_num, hB, hC⟩, by simp [intOf]; omega⟩
                      · have t5b : (x.e.sv == 1) = false := by simpa using t5
                        clear t1 t2 t3 t4 t5
                        go_wp2_with fail
                        exact ⟨⟨k + 1, by omega, by go_num, hB, hC⟩, by simp [intOf]; omega⟩
                  · have t3b : (y.e.sv == 1) = false := by simpa using t3
                    clear t1 t2 t3
                    go_wp2_with fail
                    exact ⟨⟨k + 1, by omega, by go_num, hB, hC⟩, by simp [intOf]; omega⟩
                · have t2b : (x.e.k == 1) = false := by simpa using t2
                  clear t1 t2
                  go_wp2_with fail
                  exact ⟨⟨k + 1, by omega, by go_num, hB, hC⟩, by simp [intOf]; omega⟩
              · have t1b : (y.e.k == 1) = false := by simpa using t1
                clear t1
                go_wp2_with fail
                exact ⟨⟨k + 1, by omega, by go_num, hB, hC⟩, by simp [intOf]; omega⟩
        · obtain rfl : k = i := by omega
          go_wp2_with fail
          exact ⟨⟨k + 1, by omega, by go_num, hB, hC⟩, by simp [intOf]; omega⟩
    · obtain rfl : i = nd := by omega
      go_wp2_with fail
      refine (fixed_ok _).mono ?_
      rintro r w9 ⟨rfl, hb⟩
      replace hB := hB.trans (hb.mono hB.size)
      clear hb
      go_wp2_with fail
      go_ret
      exact ⟨rfl, hB⟩

set_option maxRecDepth 100000 in
theorem lifted (os : Go.Os) (started : os.Started) (H : Type) (enc : TypeId × Value → H) :
    ReturnsInHanded {} Try.checked os 6 .any (Rows.queueFifoSpec.pre6 enc Try.prog Try.f6 Rows.queueFifoRow.domain false) (Rows.queueFifoSpec.post enc Try.prog Try.f6 false true false false) := by
  refine returnsInHanded_of_change_sized (C := Try.checked) own started (by kernel_rfl) Try.func6
    (ChangeSpec.witness6 (enc := enc) (C := Try.checked) false ⟨#[], #[.agg (pyc noMb (.slice none 0 0))], []⟩ 8 (by kernel_rfl) (by kernel_rfl) (by kernel_rfl) (by kernel_rfl)) ?_
  intro W base args ds gs before hval0 hW hcnd hsz0 _
  have hval : ∀ (j : Nat) t v, Try.f6.params[j]? = some t → args[j]? = some v → Value.okWide Try.prog W .any base t v := hval0
  have hsz : (DataW.weightsEach Try.prog (Try.f6.params.toList ++ Rows.queueFifoSpec.plain.varTypes Try.prog) (ds ++ gs)).all (· ≤ reachBytes) = true := hsz0
  have hW' := hW
  obtain ⟨p, q, hA0, hV, rfl, hfz, hnd⟩ := hW
  have hA : DataW.TrodAll enc Try.prog W 0 (fun _ => true) true Try.f6.params.toList args.toList ds p := hA0
  rw [Try.params6] at hA hval hsz

  obtain ⟨v0, vs0, d0, ds0, p0, q0, hargs, rfl, rfl, h0, r0⟩ := trodAll_cons hA
  obtain ⟨rfl, rfl, rfl⟩ := trodAll_nil r0
  obtain rfl : args = #[v0] := by cases args; simp_all
  obtain ⟨rfl, rfl⟩ := trodVars_none hV
  obtain ⟨m0, la0, L0, lc0, rfl, km0, lz0, hc0, hm0, ls0, hS0⟩ := open_py (by obtain ⟨cs, h1, _⟩ := okWide_struct Try.underlying50 (hval 0 50 v0 rfl rfl); exact ⟨cs, h1⟩) (fun n hn => of_decide_eq_true (List.all_eq_true.1 hsz _ (DataW.weights_mem_each (j := 0) rfl rfl n hn))) h0
  have hA2 := hA0
  clear hA0 hval0 hsz0
  simp only [List.append_nil] at hW'
  refine (walk m0 la0 L0 lc0 lz0 hc0 hm0 W ls0 hS0).mono fun e W' ⟨he, bel⟩ => ?_
  subst he
  exact ⟨_, rfl, _, _, _, [], _, [], hW', trodAll_mk1 (shut_bool Try.underlying4 _), (stays_all laidOut bel (by kernel_rfl) hA2), rfl, bel.frame _, fun h => by cases h⟩

theorem over : Rows.queueFifoRow.holds Try.pinned (OpenSpec.ofChange Rows.queueFifoSpec) :=
  OpenClaim.holds_of_wide 6 Try.f6 rfl rfl rfl rfl rfl rfl rfl ⟨rfl, rfl, rfl, rfl, rfl⟩ rfl rfl rfl rfl rfl (by kernel_rfl) Try.func6 (by kernel_rfl)
    (of_decide_eq_true (by kernel_rfl)) (by unfold Func.isWrapper; first | (rw [if_pos (by decide +kernel)]; kernel_rfl) | (rw [if_neg (by decide +kernel)]; exact ⟨rfl, rfl⟩))
    (fun os started H enc _ => lifted os started H enc)

end Go.Proofs.Ytmnpbjaofemelaa.queueFifo
namespace Go.Proofs.Ytmnpbjaofemelaa

theorem queueFifo_holds : Rows.QueueFifoSaid := queueFifo.over
#print axioms queueFifo_holds

end Go.Proofs.Ytmnpbjaofemelaa
