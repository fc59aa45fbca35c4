/-
  What the methods of the words that are not read yet do: next, number, within, text, end.
  Conditions: the library's variables hold what the program's text lays; a request has at most 140737488355328 bytes.
-/
import Derived.Test.YtiepdfngjfhadaaDoorPaS
import Derived.Test.YtiepdfngjfhadaaDoorPaC
namespace Go.Proofs.YtiepdfngjfhadaaDoor
set_option maxRecDepth 10000
open Go.RowKit Go.Sort
set_option linter.unusedVariables false
set_option linter.unusedSimpArgs false

/- The words that are not read yet, at block p. -/
def Wd (p : Nat) (r : List UInt8) (m : Bool) (w : World) : Prop := Blk p #[.string (strB r), .bool m] 51 w
theorem Wd.kp {p : Nat} {r : List UInt8} {m : Bool} {S : List Nat} {w w' : World} (h : Wd p r m w) (k : Kp S w w') (hp : p ∉ S) : Wd p r m w' := Blk.kp h k hp
theorem size_words : (Tryd.prog.info? 51).map (·.size) = some 2 := by kernel_rfl
theorem size_str : (Tryd.prog.info? 9).map (·.size) = some 1 := by kernel_rfl
theorem size_bool : (Tryd.prog.info? 4).map (·.size) = some 1 := by kernel_rfl

set_option maxHeartbeats 2000000 in
theorem next_ok (p : Nat) (r : List UInt8) (m : Bool) (hr : r.length ≤ 140737488355328) (w : World) (hE : Te w) (hp : 8 ≤ p) (hw : Wd p r m w) :
    Calls Tryd.prog 27 #[.pointer (some ⟨p, 0, none⟩)] w fun e w' => e = .returned (.string (strB (cutL r).1)) ∧ Wd p (cutL r).2.1 (cutL r).2.2 w' ∧ Te w' ∧ Kp [p] w w' := by
  have pc := cut_ok (strB r) (by rw [strB_size]; omega)
  rw [bL_strB] at pc
  generalize (cutL r).1 = a at pc ⊢
  generalize (cutL r).2.1 = b at pc ⊢
  generalize (cutL r).2.2 = c at pc ⊢
  unfold Wd at hw ⊢
  have hc := hw.cell 0 _ rfl
  go_enter Tryd.func27, Tryd.ntmps27
  go_wp2_with fail
  refine (pc _).mono ?_
  rintro e w1 ⟨rfl, hb⟩
  replace hw := hw.below hb
  have hk : Kp [p] w w1 := Kp.of_below hb
  replace hE := hE.next hb
  clear hb hc
  go_wp2_with (first | (refine store_one rfl 9 _ _ rfl (off := 0) (.string (strB b)) hw rfl rfl rfl rfl size_str (show 0 + 1 ≤ 2 by decide) ?_; intro w2 b2 k2) | (refine store_one rfl 4 _ _ rfl (off := 1) (.bool c) b2 rfl rfl rfl rfl size_bool (show 1 + 1 ≤ 2 by decide) ?_; intro w3 b3 k3))
  go_ret
  exact ⟨rfl, b3, (hE.kp k2 hp).kp k3 hp, (hk.trans k2).trans k3⟩

set_option maxHeartbeats 4000000 in
theorem number_ok (p : Nat) (r : List UInt8) (m : Bool) (hr : r.length ≤ 140737488355328) (w : World) (hE : Te w) (hp : 8 ≤ p) (hw : Wd p r m w) :
    Calls Tryd.prog 28 #[.pointer (some ⟨p, 0, none⟩)] w fun e w' => ((∃ n : Nat, NumO (cutL r).1 (some n) ∧ e = .returned (.int .u64 (n : Int))) ∨ (e = refE ∧ NumO (cutL r).1 none)) ∧ Wd p (cutL r).2.1 (cutL r).2.2 w' ∧ Te w' ∧ Kp [p] w w' := by
  have pn := next_ok p r m hr w hE hp hw
  have ha := (cutL_len r).1
  generalize (cutL r).1 = a at pn ha ⊢
  generalize (cutL r).2.1 = b at pn ⊢
  generalize (cutL r).2.2 = c at pn ⊢
  have hs : (strB a).size ≤ 281474976710656 := by rw [strB_size]; omega
  clear hr ha hE hw
  go_enter Tryd.func28, Tryd.ntmps28
  go_wp2_with fail
  refine pn.mono ?_
  rintro e w1 ⟨rfl, hw, hE, hk⟩
  clear pn
  go_wp2_with fail
  refine (pu_ok (strB a) hs w1 hE).mono ?_
  rintro e w2 ⟨⟨v, er, x, hx, hv, rfl, hn⟩, hb⟩
  replace hw := Wd.kp hw (Kp.of_below (S := []) hb) (by simp)
  replace hk := hk.trans (Kp.of_below hb)
  replace hE := hE.next hb
  rw [bL_strB] at hn
  clear hb hs
  cases er with
  | true =>
    obtain ⟨N, rfl⟩ := hx
    have HN : Hid (NumO a none) := fun n h1 h2 => absurd (hn n h1 h2).2 (by simp)
    clear hn
    go_wp2_with fail
    refine (refuse_ok _).mono ?_
    rintro e w3 ⟨rfl, rfl⟩
    exact ⟨rfl, .inr ⟨rfl, HN.out⟩, hw, hE, hk⟩
  | false =>
    obtain rfl : x = .nilIface := hx
    have pf := fmt_ok v hv w2 hE
    by_cases h : digs v = a
    · have HN : Hid (NumO a (some v)) := ⟨hv, h⟩
      have hd : ((strB (digs v)).toList == (strB a).toList) = true := same_L _ _ true (by rw [bL_strB, bL_strB]; simp [h])
      clear hn h
      generalize strB (digs v) = z at pf hd
      go_wp2_with fail
      refine pf.mono ?_
      rintro e w3 ⟨rfl, hb⟩
      replace hw := Wd.kp hw (Kp.of_below (S := []) hb) (by simp)
      replace hk := hk.trans (Kp.of_below hb)
      replace hE := hE.next hb
      clear hb
      go_wp2_with fail
      go_ret
      exact ⟨.inl ⟨v, HN.out, rfl⟩, hw, hE, hk⟩
    · have HN : Hid (NumO a none) := fun n h1 h2 => h (by rw [(hn n h1 h2).1]; exact h2)
      have hd : ((strB (digs v)).toList == (strB a).toList) = false := same_L _ _ false (by rw [bL_strB, bL_strB]; simp [h])
      clear hn h
      generalize strB (digs v) = z at pf hd
      go_wp2_with fail
      refine pf.mono ?_
      rintro e w3 ⟨rfl, hb⟩
      replace hw := Wd.kp hw (Kp.of_below (S := []) hb) (by simp)
      replace hk := hk.trans (Kp.of_below hb)
      replace hE := hE.next hb
      clear hb
      go_wp2_with fail
      refine (refuse_ok _).mono ?_
      rintro e w3 ⟨rfl, rfl⟩
      exact ⟨rfl, .inr ⟨rfl, HN.out⟩, hw, hE, hk⟩

set_option maxHeartbeats 4000000 in
theorem within_ok (lo hi : Nat) (hlo : lo ≤ 7) (hhi : hi ≤ 7) (p : Nat) (r : List UInt8) (m : Bool) (hr : r.length ≤ 140737488355328) (w : World) (hE : Te w) (hp : 8 ≤ p) (hw : Wd p r m w) :
    Calls Tryd.prog 29 #[.pointer (some ⟨p, 0, none⟩), .int .i64 (lo : Int), .int .i64 (hi : Int)] w fun e w' => ((∃ n : Nat, digs n = (cutL r).1 ∧ lo ≤ n ∧ n ≤ hi ∧ e = .returned (.int .i64 (n : Int))) ∨ (e = refE ∧ ∀ n, lo ≤ n → n ≤ hi → digs n ≠ (cutL r).1)) ∧ Wd p (cutL r).2.1 (cutL r).2.2 w' ∧ Te w' ∧ Kp [p] w w' := by
  have pn := number_ok p r m hr w hE hp hw
  generalize (cutL r).1 = a at pn ⊢
  generalize (cutL r).2.1 = b at pn ⊢
  generalize (cutL r).2.2 = c at pn ⊢
  have c1 : IntKind.u64.wrap (lo : Int) = (lo : Int) := by rw [IntKind.wrap_u64]; omega
  have c2 : IntKind.u64.wrap (hi : Int) = (hi : Int) := by rw [IntKind.wrap_u64]; omega
  clear hr hE hw
  go_enter Tryd.func29, Tryd.ntmps29
  go_wp2_with fail
  refine pn.mono ?_
  rintro e w1 ⟨⟨n, hn, rfl⟩ | ⟨rfl, hn⟩, hw, hE, hk⟩
  · by_cases h1 : n < lo
    · have HN : Hid (∀ n, lo ≤ n → n ≤ hi → digs n ≠ a) := fun k k1 k2 e => by
        have := digs_inj (e.trans hn.2.symm)
        omega
      have d1 : (n : Int) < (lo : Int) := by omega
      clear hn h1 pn
      go_wp2_with fail
      refine (refuse_ok _).mono ?_
      rintro e w3 ⟨rfl, rfl⟩
      exact ⟨rfl, .inr ⟨rfl, HN.out⟩, hw, hE, hk⟩
    · have d1 : ¬ (n : Int) < (lo : Int) := by omega
      by_cases h2 : hi < n
      · have HN : Hid (∀ n, lo ≤ n → n ≤ hi → digs n ≠ a) := fun k k1 k2 e => by
          have := digs_inj (e.trans hn.2.symm)
          omega
        have d2 : (hi : Int) < (n : Int) := by omega
        clear hn h1 h2 pn
        go_wp2_with fail
        refine (refuse_ok _).mono ?_
        rintro e w3 ⟨rfl, rfl⟩
        exact ⟨rfl, .inr ⟨rfl, HN.out⟩, hw, hE, hk⟩
      · have d2 : ¬ (hi : Int) < (n : Int) := by omega
        have HN : Hid (digs n = a ∧ lo ≤ n ∧ n ≤ hi) := ⟨hn.2, by omega, by omega⟩
        have c3 : IntKind.i64.wrap (n : Int) = (n : Int) := by rw [IntKind.wrap_i64]; omega
        clear hn h1 h2 pn
        go_wp2_with fail
        go_ret
        exact ⟨.inl ⟨n, HN.out.1, HN.out.2.1, HN.out.2.2, rfl⟩, hw, hE, hk⟩
  · have HN : Hid (∀ n, lo ≤ n → n ≤ hi → digs n ≠ a) := fun k k1 k2 => hn k (by omega)
    exact ⟨rfl, .inr ⟨rfl, HN.out⟩, hw, hE, hk⟩

/- What stands behind '='. -/
def txtO (r : List UInt8) : Option (List UInt8) := match r with | 61 :: t => if t.length ≤ 16 then some t else none | _ => none
theorem txt_pre (r : List UInt8) : Lib.hasPrefix r [61] = true ↔ ∃ t, r = 61 :: t := by
  cases r with
  | nil => simp [Lib.hasPrefix]
  | cons b t =>
    simp [Lib.hasPrefix, List.isPrefixOf]
    exact eq_comm
set_option maxHeartbeats 4000000 in
theorem text_ok (p : Nat) (r : List UInt8) (m : Bool) (hr : r.length ≤ 140737488355328) (w : World) (hE : Te w) (hp : 8 ≤ p) (hw : Wd p r m w) :
    Calls Tryd.prog 31 #[.pointer (some ⟨p, 0, none⟩)] w fun e w' => ((∃ t : List UInt8, r = 61 :: t ∧ t.length ≤ 16 ∧ e = .returned (.string (strB t))) ∧ Wd p r false w' ∨ (e = refE ∧ (∀ t : List UInt8, t.length ≤ 16 → 61 :: t ≠ r))) ∧ Te w' ∧ Kp [p] w w' := by
  have pc := cutPrefix_ok (strB r)
  rw [bL_strB] at pc
  have hc := hw.cell 0 _ rfl
  cases hm : Lib.hasPrefix r [61] with
  | false =>
    have HN : Hid (∀ t : List UInt8, t.length ≤ 16 → 61 :: t ≠ r) := fun t _ e => by
      rw [(txt_pre r).2 ⟨t, e.symm⟩] at hm
      cases hm
    rw [hm] at pc
    generalize Lib.trimPrefix r [61] = q at pc
    clear hm hr
    go_enter Tryd.func31, Tryd.ntmps31
    go_wp2_with fail
    refine (pc _).mono ?_
    rintro e w1 ⟨rfl, rfl⟩
    go_wp2_with fail
    refine (refuse_ok _).mono ?_
    rintro e w3 ⟨rfl, rfl⟩
    exact ⟨rfl, .inr ⟨rfl, HN.out⟩, hE, Kp.refl _ _⟩
  | true =>
    obtain ⟨t, ht⟩ := (txt_pre r).1 hm
    have hq : Lib.trimPrefix r [61] = t := by
      unfold Lib.trimPrefix
      rw [hm, ht]
      rfl
    rw [hm, hq] at pc
    clear hm hq
    by_cases h16 : t.length ≤ 16
    · have d1 : ¬ (16 : Int) < ((strB t).size : Int) := by rw [strB_size]; omega
      have HT := (show Hid (r = 61 :: t ∧ t.length ≤ 16) from ⟨ht, h16⟩)
      have hk := sclone_ok (strB t) (by rw [strB_size]; omega)
      clear ht h16 hr
      obtain ⟨z, hz⟩ : ∃ z, Hid (strB t = z) := ⟨_, rfl⟩
      rw [hz.out] at pc d1 hk
      go_enter Tryd.func31, Tryd.ntmps31
      go_wp2_with fail
      refine (pc _).mono ?_
      rintro e w1 ⟨rfl, rfl⟩
      go_wp2_with (first | (refine store_one rfl 4 _ _ rfl (off := 1) (.bool false) hw rfl rfl rfl rfl size_bool (show 1 + 1 ≤ 2 by decide) ?_; intro w3 b3 k3))
      refine (hk _).mono ?_
      rintro e w4 ⟨rfl, hb⟩
      go_wp2_with fail
      go_ret
      exact ⟨.inl ⟨⟨t, HT.out.1, HT.out.2, by rw [hz.out]; rfl⟩, Blk.below b3 hb⟩, (hE.kp k3 hp).next hb, k3.trans (Kp.of_below hb)⟩
    · have d1 : (16 : Int) < ((strB t).size : Int) := by rw [strB_size]; omega
      have HN : Hid (∀ u : List UInt8, u.length ≤ 16 → 61 :: u ≠ r) := fun u hu e => by
        rw [ht] at e
        rw [(List.cons.inj e).2] at hu
        exact h16 hu
      clear ht h16 hr
      generalize strB t = z at pc d1
      go_enter Tryd.func31, Tryd.ntmps31
      go_wp2_with fail
      refine (pc _).mono ?_
      rintro e w1 ⟨rfl, rfl⟩
      go_wp2_with fail
      refine (refuse_ok _).mono ?_
      rintro e w3 ⟨rfl, rfl⟩
      exact ⟨rfl, .inr ⟨rfl, HN.out⟩, hE, Kp.refl _ _⟩

theorem end_ok (p : Nat) (r : List UInt8) (m : Bool) (w : World) (hw : Wd p r m w) : Calls Tryd.prog 32 #[.pointer (some ⟨p, 0, none⟩)] w fun e w' => e = (if m = true then refE else .returned (.tuple #[])) ∧ w' = w := by
  have hc := hw.cell 1 _ rfl
  cases m with
  | true =>
    go_enter Tryd.func32, Tryd.ntmps32
    go_wp2_with fail
    refine (refuse_ok _).mono ?_
    rintro e w3 ⟨rfl, rfl⟩
    exact ⟨rfl, rfl, rfl⟩
  | false =>
    go_enter Tryd.func32, Tryd.ntmps32
    go_wp2_with fail
    refine bodyPost_end (results_none rfl _ _ _) rfl ?_
    exact ⟨rfl, rfl⟩

end Go.Proofs.YtiepdfngjfhadaaDoor
