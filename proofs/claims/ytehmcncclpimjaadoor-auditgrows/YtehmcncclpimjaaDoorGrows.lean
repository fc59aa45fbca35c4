/-
  What is added stands at the end, with the next number, and what stood ahead stays; an audit stays one; each call is one record: the law AuditGrows returns true for every input; its card.
  No condition beyond the form's own.
-/
import Derived.Test.YtehmcncclpimjaaDoorRows
import Derived.Test.YtehmcncclpimjaaDoorCards
import Derived.Test.YtehmcncclpimjaaDoorTie
import Derived.Test.YtehmcncclpimjaaDoorAuG
import Derived.WalkKit
import Derived.ProofKit
import Derived.OpenShut
import Derived.ShutString
import Derived.ChangeOld
import Derived.Below
import Derived.Lay
import Derived.Deep.DeepHandedRow
import Derived.Deep.DeepWitnessRowRef
import Derived.SevenTiedAt
namespace Go.Proofs.YtehmcncclpimjaaDoor.auditGrows
open Go.Sort Go.ChangeShapes Go.WideShapes Go.ChangeAt Go.RowKit
open Go.ChangeMaps (open_string shut_string)
set_option linter.unusedVariables false
set_option linter.unusedSimpArgs false
set_option maxRecDepth 10000

theorem own : ownKnob Tryd.prog.godebug = none := by kernel_rfl

def growL (L C : List Rc) (j : Nat) : List Rc := (C.take j).foldl (fun K x => addA K x.t x.c x.k) L
theorem growL_zero (L C : List Rc) : growL L C 0 = L := rfl
theorem growL_succ {L C : List Rc} {j : Nat} {x : Rc} (h : C[j]? = some x) : growL L C (j + 1) = addA (growL L C j) x.t x.c x.k := by
  unfold growL
  rw [List.take_add_one, h, List.foldl_append]
  rfl
theorem addA_len (K : List Rc) (t : Nat) (c : ByteArray) (k : Int) : (addA K t c k).length = K.length + 1 := by simp [addA]
theorem addA_take (K : List Rc) (t : Nat) (c : ByteArray) (k : Int) : (addA K t c k).take K.length = K := by simp [addA]
theorem addA_last (K : List Rc) (t : Nat) (c : ByteArray) (k : Int) : (addA K t c k)[K.length]? = some ⟨K.length + 1, tickA K t, c, k⟩ := by simp [addA]
theorem addA_fail (K : List Rc) (t : Nat) (c : ByteArray) (k : Int) : failN (addA K t c k) = failN K + (if k ≠ 0 then 1 else 0) := failN_snoc _ _

set_option maxHeartbeats 16000000 in
theorem walk (la : Option Addr) (L : List Rc) (lc : Nat) (lz : L.length * 40 ≤ 140737488351232) (lk : L.length ≤ lc) (lm : lc ≤ maxLen) (ls : ∀ x ∈ L, x.fit) (lb : Option Addr) (C : List Rc) (mc : Nat) (mz : C.length * 40 ≤ 140737488351232) (mk : C.length ≤ mc) (mm : mc ≤ maxLen) (ms : ∀ x ∈ C, x.fit) (w : World) (hT : Tb w) (hL : Li Rc.vals 0 la L w) (hC : Li Rc.vals 0 lb C w) : Calls Tryd.prog 6 #[.slice la L.length lc, .slice lb C.length mc] w fun e w' => e = .returned (.bool true) ∧ Below w.heap.size w w' := by
  have hB := Below.refl w.heap.size w
  have hC0 := hC
  clear hC
  have p1 := acheck_ok L la lc lk (by omega)
  have p2 := failed_ok L la lc (by omega)
  obtain ⟨n, hn⟩ : ∃ n, Hid (L.length = n) := ⟨_, rfl⟩
  obtain ⟨m, hm⟩ : ∃ m, Hid (C.length = m) := ⟨_, rfl⟩
  rw [hn.out] at p1 p2 lz lk ⊢
  rw [hm.out] at mz ⊢
  by_cases hch : chkA L = true
  · rw [hch] at p1
    have HCH : Hid (chkA L = true) := hch
    have HF : Hid (failN L ≤ n) := by rw [← hn.out]; exact failN_le L
    clear hch ls ms mk mm
    go_enter Tryd.func6, Tryd.ntmps6
    go_wp2_with fail
    refine (fixed_ok _ hT).mono ?_
    rintro r w1 ⟨rfl, hb⟩
    replace hL := hL.below hb
    replace hB := below_next hB hb
    clear hb hT
    go_wp2_with fail
    refine (p1 _ hL).mono ?_
    rintro r w2 ⟨rfl, hb⟩
    replace hL := hL.below hb
    replace hB := below_next hB hb
    clear hb p1
    go_wp2_with fail
    refine (p2 _ hL).mono ?_
    rintro r w3 ⟨rfl, hb⟩
    replace hL := hL.below hb
    replace hB := below_next hB hb
    clear hb p2
    go_wp2_with fail
    go_loopw [5, 6, 7] (fun av fv iv wr => ∃ (j nk cK fk : Nat) (aK : Option Addr), j ≤ m ∧ j ≤ 100 ∧ nk = n + j ∧ fk ≤ nk ∧ nk ≤ cK ∧ iv = .int .i64 j ∧ av = .slice aK nk cK ∧ fv = .int .i64 fk ∧ Hid ((growL L C j).length = nk ∧ chkA (growL L C j) = true ∧ failN (growL L C j) = fk) ∧ Li Rc.vals 0 aK (growL L C j) wr ∧ Below w.heap.size w wr)
      (fun _ _ iv _ => 100 - (intOf iv).toNat)
    case atStart => exact ⟨0, n, lc, failN L, la, by omega, by omega, by omega, HF.out, by omega, rfl, rfl, rfl, ⟨hn.out, HCH.out, rfl⟩, hL, hB⟩
    case round =>
      clear hL HF HCH hB
      obtain ⟨j, nk, cK, fk, aK, hjm, hj100, hnk, hfk, hck, rfl, rfl, rfl, HK, hL, hB⟩ := hrel
      rename World => wr
      by_cases hgo : j < m ∧ j < 100
      · obtain ⟨g1, g2⟩ := hgo
        have j0 : (j : Int) < (m : Int) := by omega
        have j1 : (0 : Int) ≤ (j : Int) := by omega
        have j2 : (j : Int) < 100 := by omega
        obtain ⟨x, hx⟩ : ∃ k, C[j]? = some k := ⟨_, List.getElem?_eq_getElem (by rw [hm.out]; exact g1)⟩
        have HG : Hid (growL L C (j + 1) = addA (growL L C j) x.t x.c x.k) := growL_succ hx
        generalize growL L C j = K at HG HK hL
        obtain ⟨hK1, hK2, hK3⟩ := HK.out
        have pa := add_ok x.t x.c x.k K aK cK (by rw [hK1]; omega)
        have HN : Hid (nk = n + j) := hnk
        have HJ : Hid (j + 1 ≤ m ∧ j + 1 ≤ 100) := ⟨by omega, by omega⟩
        have hnb : nk ≤ 4000000000000 := by omega
        have e1 := addA_len K x.t x.c x.k
        have e2 := addA_take K x.t x.c x.k
        have e3 := addA_last K x.t x.c x.k
        have e4 := chkA_add hK2 x.t x.c x.k
        have e5 := addA_fail K x.t x.c x.k
        have htk := tickA_ge K x.t
        have ps := fun a b c d => rsameC_ok K a b c d (by omega)
        rw [hK1] at e1 e2 e3 ps pa
        rw [hK3] at e5
        unfold MadeRc at pa
        generalize addA K x.t x.c x.k = Z at HG pa e1 e2 e3 e4 e5
        generalize tickA K x.t = tk at e3 htk
        rw [e1] at pa
        have pc := fun a c hc => acheck_ok Z a c hc (by omega)
        rw [e1, e4] at pc
        have HZ : Hid (Z.length = nk + 1 ∧ chkA Z = true ∧ failN Z = fk + (if x.k ≠ 0 then 1 else 0)) := ⟨e1, e4, e5⟩
        have HT : Hid (Z.take nk = K) := e2
        have HL : Hid (Z[nk]? = some ⟨nk + 1, tk, x.c, x.k⟩) := e3
        obtain ⟨b, o, hlb, _, hbl, hr⟩ := (hC0.below hB).at Rc.vals_length j x hx
        subst hlb
        have b1 := blk_new wr x.arr 27
        have hb := below_box wr (.cells x.arr 27)
        clear HK hK1 hK2 hK3 e1 e2 e3 e4 e5 hx hnk lz lk
        go_upto_region 9 with (go_big_may; first | refine load_range rfl 27 _ rfl x.vals hr rfl Tryd.underlying27 rfl sizeRc ?_ | refine alloc_zero zeroRc rfl rfl ?_ | refine store_new rfl 27 _ _ rfl (cells := x.arr) rfl rfl sizeRc rfl x.arr_one ?_)
        try simp only [Act.put, List.setIfInBounds_toArray, List.set_cons_zero, List.set_cons_succ]
        generalize wr.alloc (Obj.cells x.arr 27) = W1 at b1 hb ⊢
        generalize wr.heap.size = z at b1 ⊢
        replace hL := hL.below hb
        replace hB := hB.trans (hb.mono hB.size)
        clear hb hr hbl
        have c1 : W1.cell? ⟨z, 1, none⟩ = some (.int .u32 (x.t : Int)) := b1.cell 1 _ rfl
        have c2 : W1.cell? ⟨z, 2, none⟩ = some (.string x.c) := b1.cell 2 _ rfl
        have c3 : W1.cell? ⟨z, 3, none⟩ = some (.int .i64 x.k) := b1.cell 3 _ rfl
        go_wp2_with fail
        refine (pa W1 hL).mono ?_
        rintro r w2 ⟨⟨aZ, cZ, rfl, hZ⟩, hb⟩
        have hcz := hZ.cap
        rw [HZ.out.1] at hcz
        have HCZ : Hid (nk + 1 ≤ cZ) := hcz
        replace hZ := hZ.li.mono (Nat.zero_le _)
        replace hL := hL.below hb
        replace b1 := b1.below hb
        replace hB := hB.trans (hb.mono hB.size)
        clear hb pa c1 c2 c3
        obtain ⟨b', o', hza, _, hbl, hr⟩ := hZ.at Rc.vals_length nk _ HL.out
        subst hza
        clear hr hbl
        have k1 : (nk : Int) ≤ (cZ : Int) := by omega
        have k0 : (0 : Int) ≤ (nk : Int) := by omega
        have HFK : Hid (fk ≤ nk) := hfk
        have HTK : Hid (x.t ≤ tk) := htk
        clear hcz hfk htk hck hjm hj100 g1 g2 j0 j1 j2
        have hZK := hZ.take Rc.vals_length nk
        rw [HT.out] at hZK
        go_wp2_with fail
        refine (ps _ _ _ _ w2 hZK hL).mono ?_
        rintro r w3 ⟨rfl, hb⟩
        replace hZ := hZ.below hb
        replace b1 := b1.below hb
        replace hB := hB.trans (hb.mono hB.size)
        clear hb ps hZK hL
        go_wp2_with fail
        refine (pc _ _ HCZ.out w3 hZ).mono ?_
        rintro r w4 ⟨rfl, hb⟩
        replace hZ := hZ.below hb
        replace b1 := b1.below hb
        replace hB := hB.trans (hb.mono hB.size)
        clear hb pc
        obtain ⟨X, hX⟩ : ∃ X : Rc, Hid (X = ⟨nk + 1, tk, x.c, x.k⟩) := ⟨_, rfl⟩
        have HX : Z[nk]? = some X := by rw [HL.out, hX.out]
        have hr := hZ.rng Rc.vals_length nk X HX
        have b2 := blk_new w4 X.arr 27
        have hb := below_box w4 (.cells X.arr 27)
        have i1 : (nk : Int) < (nk : Int) + 1 := by omega
        go_upto_region 13 with (go_big_may; first | refine load_range rfl 27 _ rfl X.vals hr rfl Tryd.underlying27 rfl sizeRc ?_ | refine alloc_zero zeroRc rfl rfl ?_ | refine store_new rfl 27 _ _ rfl (cells := X.arr) rfl rfl sizeRc rfl X.arr_one ?_)
        try simp only [Act.put, List.setIfInBounds_toArray, List.set_cons_zero, List.set_cons_succ]
        generalize w4.alloc (Obj.cells X.arr 27) = W5 at b2 hb ⊢
        generalize w4.heap.size = z2 at b2 ⊢
        replace hZ := hZ.below hb
        replace b1 := b1.below hb
        replace hB := hB.trans (hb.mono hB.size)
        rw [hX.out] at b2
        have c1 : W5.cell? ⟨z, 1, none⟩ = some (.int .u32 (x.t : Int)) := b1.cell 1 _ rfl
        have c2 : W5.cell? ⟨z, 2, none⟩ = some (.string x.c) := b1.cell 2 _ rfl
        have c3 : W5.cell? ⟨z, 3, none⟩ = some (.int .i64 x.k) := b1.cell 3 _ rfl
        have c4 : W5.cell? ⟨z2, 0, none⟩ = some (.int .u64 ((nk : Int) + 1)) := b2.cell 0 _ rfl
        have c5 : W5.cell? ⟨z2, 1, none⟩ = some (.int .u32 (tk : Int)) := b2.cell 1 _ rfl
        have c6 : W5.cell? ⟨z2, 2, none⟩ = some (.string x.c) := b2.cell 2 _ rfl
        have c7 : W5.cell? ⟨z2, 3, none⟩ = some (.int .i64 x.k) := b2.cell 3 _ rfl
        have d1 : ¬ (tk : Int) < (x.t : Int) := by have := HTK.out; omega
        clear hb hr HX b1 b2 HT HL
        have hjb : j ≤ 100 := by have := HJ.out.2; omega
        have hfb : fk ≤ 4000000000000 := by have := HFK.out; omega
        by_cases hk0 : x.k = 0
        · have d2 : (x.k != 0) = false := by simp [hk0]
          have HZ2 : Hid ((growL L C (j + 1)).length = nk + 1 ∧ chkA (growL L C (j + 1)) = true ∧ failN (growL L C (j + 1)) = fk) := by
            rw [HG.out]
            exact ⟨HZ.out.1, HZ.out.2.1, by rw [HZ.out.2.2, if_neg (by simp [hk0])]; rfl⟩
          rw [← HG.out] at hZ
          clear hk0 HZ HG
          go_wp2_with fail
          exact ⟨⟨j + 1, nk + 1, cZ, fk, _, HJ.out.1, HJ.out.2, by have := HN.out; omega, by have := HFK.out; omega, HCZ.out, by go_num, by go_num, rfl, HZ2, hZ, hB⟩, by have := HJ.out.2; simp [intOf]; omega⟩
        · have d2 : (x.k != 0) = true := by simp [hk0]
          have HZ2 : Hid ((growL L C (j + 1)).length = nk + 1 ∧ chkA (growL L C (j + 1)) = true ∧ failN (growL L C (j + 1)) = fk + 1) := by
            rw [HG.out]
            exact ⟨HZ.out.1, HZ.out.2.1, by rw [HZ.out.2.2, if_pos hk0]⟩
          rw [← HG.out] at hZ
          clear hk0 HZ HG
          go_wp2_with fail
          exact ⟨⟨j + 1, nk + 1, cZ, fk + 1, _, HJ.out.1, HJ.out.2, by have := HN.out; omega, by have := HFK.out; omega, HCZ.out, by go_num, by go_num, by go_num, HZ2, hZ, hB⟩, by have := HJ.out.2; simp [intOf]; omega⟩
      · have pf := failed_ok (growL L C j) aK cK (by rw [HK.out.1]; omega)
        rw [HK.out.1, HK.out.2.2] at pf
        have HN : Hid (nk = n + j) := hnk
        clear hnk lz lk HK
        by_cases hm0 : j < m
        · have j0 : (j : Int) < (m : Int) := by omega
          have j2 : ¬ (j : Int) < 100 := by omega
          go_wp2_with fail
          refine (pf _ hL).mono ?_
          rintro r w2 ⟨rfl, hb⟩
          replace hB := hB.trans (hb.mono hB.size)
          clear hb pf hL
          go_wp2_with fail
          go_ret
          exact ⟨rfl, hB⟩
        · have j0 : ¬ (j : Int) < (m : Int) := by omega
          go_wp2_with fail
          refine (pf _ hL).mono ?_
          rintro r w2 ⟨rfl, hb⟩
          replace hB := hB.trans (hb.mono hB.size)
          clear hb pf hL
          go_wp2_with fail
          go_ret
          exact ⟨rfl, hB⟩
  · have hch2 : chkA L = false := by simpa using hch
    rw [hch2] at p1
    clear hch hch2 p2 ls ms
    go_enter Tryd.func6, Tryd.ntmps6
    go_wp2_with fail
    refine (fixed_ok _ hT).mono ?_
    rintro r wq ⟨rfl, hb⟩
    replace hL := hL.below hb
    replace hT := hT.next hb
    replace hB := below_next hB hb
    clear hb
    go_wp2_with fail
    refine (p1 _ hL).mono ?_
    rintro r wq ⟨rfl, hb⟩
    replace hT := hT.next hb
    replace hB := below_next hB hb
    clear hb
    go_wp2_with fail
    refine (fixed_ok _ hT).mono ?_
    rintro r wq ⟨rfl, hb⟩
    replace hB := below_next hB hb
    clear hb
    go_wp2_with fail
    go_ret
    exact ⟨rfl, hB⟩


theorem laid_met (os : Os) : laidMetH Tryd.prog Rows.auditGrowsRow.laid ((World.laidAll Tryd.prog os Rows.auditGrowsRow.laid).forCall (fun _ _ => 0) ⟨#[], #[.slice none 0 0, .slice none 0 0], []⟩).memory := by
  rw [MakeChecks.laidMetH_plain _ _ _ (by kernel_rfl)]
  exact laidMet_laidAll _ (by kernel_rfl) (by kernel_rfl)
def wdata (H : Type) : List (DataW H) := [.nil, .nil]
theorem reads (os : Os) {H : Type} (enc : TypeId × Value → H) : ∃ places, DataW.whole enc Tryd.prog ((World.laidAll Tryd.prog os Rows.auditGrowsRow.laid).forCall (fun _ _ => 0) ⟨#[], #[.slice none 0 0, .slice none 0 0], []⟩).memory Tryd.f6.params.toList (OpenSpec.ofChange Rows.auditGrowsSpec).vars false (#[.slice none 0 0, .slice none 0 0] : Array Value).toList 8 = some (wdata H, [], places) :=
  ⟨[], by kernel_rfl⟩

set_option maxRecDepth 100000 in
theorem lifted (os : Os) (started : os.Started) (H : Type) (enc : TypeId × Value → H) (F : Stop.Interp) :
    ReturnsInHanded {} Tryd.checked os 6 .any ((OpenSpec.ofChange Rows.auditGrowsSpec).preRow enc Tryd.prog Tryd.f6 Rows.auditGrowsRow.domain false Rows.auditGrowsRow.laid) (((OpenSpec.ofChange Rows.auditGrowsSpec).at F).post enc Tryd.prog Tryd.f6 false true false false) := by
  obtain ⟨places, hx⟩ := reads os enc
  refine returnsInHanded_of_row (C := Tryd.checked) (s := OpenSpec.ofChange Rows.auditGrowsSpec) own started (by kernel_rfl) Tryd.func6
    (witness_row_atRef (enc := enc) (C := Tryd.checked) false (World.laidAll Tryd.prog os Rows.auditGrowsRow.laid) #[.slice none 0 0, .slice none 0 0] (World.laidAll_os _ _ _) (by kernel_rfl) (by kernel_rfl) (by kernel_rfl)
      (OpenSpec.preRow_of_cond 8 hx (by kernel_rfl) (fun k hk => by cases hk) (by kernel_rfl) (laid_met os))) ?_
  intro W base args ds gs before hval0 hW hcnd hcond hsz0 hL0 hsh _
  have hL := hL0
  rw [MakeChecks.laidMetH_plain _ _ _ (by kernel_rfl)] at hL
  have hval : ∀ (j : Nat) t v, Tryd.f6.params[j]? = some t → args[j]? = some v → Value.okWide Tryd.prog W .any base t v := hval0
  have hsz : (DataW.weightsEach Tryd.prog (Tryd.f6.params.toList ++ Rows.auditGrowsSpec.plain.varTypes Tryd.prog) (ds ++ gs)).all (· ≤ reachBytes) = true := hsz0
  have hW' := hW
  obtain ⟨p, q, hA0, hV, rfl, hfz, hnd⟩ := hW
  have hA : DataW.TrodAll enc Tryd.prog W 0 (fun _ => true) true Tryd.f6.params.toList args.toList ds p := hA0
  rw [Tryd.params6] at hA hval hsz
  obtain ⟨v0, vs0, d0, ds0, p0, q0, hargs, rfl, rfl, h0, r0⟩ := trodAll_cons hA
  obtain ⟨v1, vs1, d1, ds1, p1, q1, rfl, rfl, rfl, h1, r1⟩ := trodAll_cons r0
  obtain ⟨rfl, rfl, rfl⟩ := trodAll_nil r1
  obtain rfl : args = #[v0, v1] := by cases args; simp_all
  obtain ⟨rfl, rfl⟩ := trodVars_none hV
  obtain ⟨la0, L0, lc0, rfl, lz0, hc0, hm0, ls0, hS0⟩ := open_Rcs (okWide_slice Tryd.underlying22 (hval 0 22 v0 rfl rfl)) (fun n hn => of_decide_eq_true (List.all_eq_true.1 hsz _ (DataW.weights_mem_each (j := 0) rfl rfl n hn))) h0
  obtain ⟨la1, L1, lc1, rfl, lz1, hc1, hm1, ls1, hS1⟩ := open_Rcs (okWide_slice Tryd.underlying22 (hval 1 22 v1 rfl rfl)) (fun n hn => of_decide_eq_true (List.all_eq_true.1 hsz _ (DataW.weights_mem_each (j := 1) rfl rfl n hn))) h1
  have hT : Tb W := tb_of hL
  have hA2 := hA0
  clear hA0 hval0 hsz0
  simp only [List.append_nil] at hW'
  refine (walk la0 L0 lc0 lz0 hc0 hm0 ls0 la1 L1 lc1 lz1 hc1 hm1 ls1 W hT hS0 hS1).mono fun e W' ⟨he, bel⟩ => ?_
  subst he
  exact ⟨_, rfl, _, _, _, [], _, [], hW', trodAll_mk1 (shut_bool Tryd.underlying4 _), (stays_all laidOut bel (by kernel_rfl) hA2), rfl, bel.frame _, fun h => by cases h⟩

theorem said : Rows.AuditGrowsSaid :=
  OpenClaim.holds_of_cond 6 Tryd.f6 rfl rfl rfl rfl rfl rfl rfl ⟨rfl, rfl, rfl, rfl, rfl⟩ rfl rfl rfl rfl rfl (by kernel_rfl) Tryd.func6 (by kernel_rfl)
    (of_decide_eq_true (by kernel_rfl)) (by unfold Func.isWrapper; first | (rw [if_pos (by decide +kernel)]; kernel_rfl) | (rw [if_neg (by decide +kernel)]; exact ⟨rfl, rfl⟩))
    (fun os started H enc _ F => by rw [OpenClaim.pre_eq_preRow]; exact lifted os started H enc F)

theorem plain (f : FuncId) (fn : Func) (hf : Tryd.pinned.checked.prog.funcNamed "congress/congresslaw20.AuditGrows" = some f) (hfn : Tryd.pinned.checked.prog.funcs[f]? = some fn) :
    true = Tryd.pinned.checked.prog.looks [] ∧ ∀ (j : Nat) t, fn.params[j]? = some t → Tryd.pinned.checked.prog.wantsStandIn t = false := by
  obtain rfl : f = 6 := Option.some.inj ((show Tryd.prog.funcNamed "congress/congresslaw20.AuditGrows" = some 6 by kernel_rfl).symm.trans hf) |>.symm
  obtain rfl : fn = Tryd.f6 := (Option.some.inj (Tryd.func6.symm.trans hfn)).symm
  refine ⟨by kernel_rfl, fun j t ht => ?_⟩
  rw [Tryd.params6] at ht
  have hm : t ∈ [22, 22] := by simpa using Array.mem_of_getElem? ht
  have hall : ([22, 22].all fun u => !Tryd.prog.wantsStandIn u) = true := by kernel_rfl
  have := List.all_eq_true.1 hall t hm
  show Tryd.prog.wantsStandIn t = false
  simpa using this

theorem card : Rows.AuditGrowsCardSaid :=
  Claim7.holds_tied_plain_at .later [] _ _ _ _ said (fun _ h => by cases h) (by kernel_rfl) (fun _ h => by cases h) auditGrows_row_tie rfl ⟨rfl, rfl⟩ (by kernel_rfl) rfl plain (by kernel_rfl)

end Go.Proofs.YtehmcncclpimjaaDoor.auditGrows
namespace Go.Proofs.YtehmcncclpimjaaDoor

theorem auditGrows_holds : Rows.AuditGrowsCardSaid := auditGrows.card
#print axioms auditGrows_holds

end Go.Proofs.YtehmcncclpimjaaDoor
