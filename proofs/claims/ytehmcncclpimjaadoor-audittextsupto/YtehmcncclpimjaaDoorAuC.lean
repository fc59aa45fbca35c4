/-
  Records in lines: what the program's standsAlone, writeCall, writeLine, Line and Text answer.
  Conditions: the table of powers of ten lies there; a text has at most 140737488355328 bytes.
-/
import Derived.Test.YtehmcncclpimjaaDoorAuA
import Derived.Test.YtehmcncclpimjaaDoorAuM
import Derived.Test.YtehmcncclpimjaaDoorSb
import Derived.Test.YtehmcncclpimjaaDoorLr
namespace Go.Proofs.YtehmcncclpimjaaDoor
set_option maxRecDepth 10000
open Go.RowKit Go.Sort
set_option linter.unusedVariables false
set_option linter.unusedSimpArgs false

theorem bL_get {c : ByteArray} {i : Nat} {x : UInt8} (h : (bL c)[i]? = some x) : i < c.size ∧ ∀ h : i < c.size, c[i] = x := by
  have hi := (List.getElem?_eq_some_iff.1 h).1
  have hs : (bL c).length = c.size := by show c.data.toList.length = _; rw [Array.length_toList]; rfl
  rw [hs] at hi
  refine ⟨hi, fun h2 => ?_⟩
  have := (List.getElem?_eq_some_iff.1 h).2
  rw [← this]
  show c.data[i] = c.data.toList[i]
  rw [Array.getElem_toList]
theorem bL_len (c : ByteArray) : (bL c).length = c.size := by show c.data.toList.length = _; rw [Array.length_toList]; rfl
theorem quo_take {l : List UInt8} {j : Nat} {x : UInt8} (h : l[j]? = some x) : quo (l.take (j + 1)) = quo (l.take j) ++ quo1 x := by
  rw [List.take_add_one, h, quo_append]
  congr 1
  show quo [x] = quo1 x
  rw [quo_cons, quo_nil, List.append_nil]

theorem plainQ_nat (c : UInt8) : plainQ c = (decide (32 ≤ c.toNat) && decide (c.toNat ≤ 126) && decide (c.toNat ≠ 34) && decide (c.toNat ≠ 37)) := by
  unfold plainQ
  have e34 : (c = 34) = (c.toNat = 34) := propext ⟨fun h => by rw [h]; rfl, fun h => UInt8.toNat_inj.1 h⟩
  have e37 : (c = 37) = (c.toNat = 37) := propext ⟨fun h => by rw [h]; rfl, fun h => UInt8.toNat_inj.1 h⟩
  simp only [e34, e37]
  by_cases h1 : 32 ≤ c.toNat <;> by_cases h2 : c.toNat ≤ 126 <;> by_cases h3 : c.toNat = 34 <;> by_cases h4 : c.toNat = 37 <;> simp [h1, h2, h3, h4] <;> omega

theorem alone_ok (c : UInt8) (w : World) : Calls Tryd.prog 64 #[.int .u8 (c.toNat : Int)] w fun e w' => e = .returned (.bool (plainQ c)) ∧ w' = w := by
  have hq : Hid (plainQ c = (decide (32 ≤ c.toNat) && decide (c.toNat ≤ 126) && decide (c.toNat ≠ 34) && decide (c.toNat ≠ 37))) := by
    exact plainQ_nat c
  have hlt := c.toNat_lt
  generalize c.toNat = n at hq hlt ⊢
  generalize plainQ c = p at hq ⊢
  by_cases h1 : 32 ≤ n
  · by_cases h2 : n ≤ 126
    · by_cases h3 : n = 34
      · have e : p = false := by rw [hq.out]; simp [h3]
        subst h3 e
        clear hq
        go_enter Tryd.func64, Tryd.ntmps64
        go_wp2_with fail
        go_ret
        exact ⟨rfl, rfl⟩
      · by_cases h4 : n = 37
        · have e : p = false := by rw [hq.out]; simp [h4]
          subst h4 e
          clear hq
          go_enter Tryd.func64, Tryd.ntmps64
          go_wp2_with fail
          go_ret
          exact ⟨rfl, rfl⟩
        · have e : p = true := by rw [hq.out]; simp [h1, h2, h3, h4]
          subst e
          have d1 : (32 : Int) ≤ (n : Int) := by omega
          have d2 : (n : Int) ≤ 126 := by omega
          have d3 : ¬ (n : Int) = 34 := by omega
          have d4 : ¬ (n : Int) = 37 := by omega
          clear hq
          go_enter Tryd.func64, Tryd.ntmps64
          go_wp2_with fail
          go_ret
          exact ⟨by simp [d3, d4], rfl⟩
    · have e : p = false := by rw [hq.out]; simp [h2]
      subst e
      have d1 : (32 : Int) ≤ (n : Int) := by omega
      have d2 : ¬ (n : Int) ≤ 126 := by omega
      clear hq
      go_enter Tryd.func64, Tryd.ntmps64
      go_wp2_with fail
      go_ret
      exact ⟨rfl, rfl⟩
  · have e : p = false := by rw [hq.out]; simp [h1]
    subst e
    have d1 : ¬ (32 : Int) ≤ (n : Int) := by omega
    clear hq
    go_enter Tryd.func64, Tryd.ntmps64
    go_wp2_with fail
    go_ret
    exact ⟨rfl, rfl⟩

def hexS : ByteArray := { data := #[48, 49, 50, 51, 52, 53, 54, 55, 56, 57, 97, 98, 99, 100, 101, 102] }
theorem hex_at : ∀ n : Fin 16, hexS[n.val]'(n.isLt) = hex n.val := by decide
theorem and15 (x : UInt8) : bits BinOp.and IntKind.u8 (x.toNat : Int) 15 = (x.toNat : Int) % 16 := by
  have h : ∀ n : Fin 256, bits BinOp.and IntKind.u8 (n.val : Int) 15 = (n.val : Int) % 16 := by decide +kernel
  exact h ⟨x.toNat, x.toNat_lt⟩
theorem digit_ix (k : Nat) (h : k < 16) (q : IntKind) (i : Int) (hi : i = (k : Int)) (W : World) : (Instr.index 9 (.string { data := #[48, 49, 50, 51, 52, 53, 54, 55, 56, 57, 97, 98, 99, 100, 101, 102] }) (.int q i)).run Tryd.prog W = .ok (.int .u8 ((hex k).toNat : Int)) W := by
  subst hi
  show (Instr.index 9 (.string hexS) (.int q (k : Int))).run Tryd.prog W = _
  rw [run_index_string W 9 _ q (k : Int) Tryd.underlying9]
  have hs : hexS.size = 16 := rfl
  rw [dif_pos (show (0 : Int) ≤ (k : Int) ∧ (k : Int) < ((hexS.size : Nat) : Int) by rw [hs]; omega)]
  have e := hex_at ⟨k, h⟩
  have e2 : hexS[((k : Int)).toNat]'(by rw [hs]; omega) = hex k := e
  rw [e2]
theorem str_ix {c : ByteArray} {j : Nat} {x : UInt8} (hx : (bL c)[j]? = some x) (W : World) : (Instr.index 9 (.string c) (.int .i64 (j : Int))).run Tryd.prog W = .ok (.int .u8 (x.toNat : Int)) W := by
  obtain ⟨g1, g2⟩ := bL_get hx
  rw [run_index_string W 9 c .i64 (j : Int) Tryd.underlying9, dif_pos (show (0 : Int) ≤ (j : Int) ∧ (j : Int) < ((c.size : Nat) : Int) by omega)]
  have e : c[((j : Int)).toNat]'(by omega) = x := g2 g1
  rw [e]

set_option maxHeartbeats 4000000 in
theorem wcall_ok (b : Nat) (l : List UInt8) (c : ByteArray) (w : World) (h : Bld b l w) (hlen : l.length + (quo (bL c)).length ≤ 140737488355328) (hc : c.size ≤ 9223372036854775807) :
    Calls Tryd.prog 50 #[.pointer (some ⟨b, 0, none⟩), .string c] w fun e w' => e = .returned (.tuple #[]) ∧ Bld b (l ++ quo (bL c)) w' ∧ Kb b w w' := by
  have hs := bL_len c
  have HL : ∀ j x, (bL c)[j]? = some x → Hid (quo ((bL c).take (j + 1)) = quo ((bL c).take j) ++ quo1 x ∧ l.length + (quo ((bL c).take j)).length + (quo1 x).length ≤ 140737488355328) := fun j x hx => by
    refine ⟨quo_take hx, ?_⟩
    have h1 : quo (bL c) = quo ((bL c).take (j + 1)) ++ quo ((bL c).drop (j + 1)) := by rw [← quo_append, List.take_append_drop]
    rw [quo_take hx] at h1
    have h2 := congrArg List.length h1
    simp only [List.length_append] at h2
    omega
  have HE : Hid ((bL c).take c.size = bL c) := by show _ = _; rw [← hs, List.take_length]
  obtain ⟨n, hn⟩ : ∃ n, Hid (c.size = n) := ⟨_, rfl⟩
  rw [hn.out] at hc hs HE
  clear hlen
  go_enter Tryd.func50, Tryd.ntmps50
  go_wp2_with fail
  rw [hn.out]
  go_loopw [8] (fun iv wr => ∃ j : Nat, j ≤ n ∧ iv = .int .i64 j ∧ Bld b (l ++ quo ((bL c).take j)) wr ∧ Kb b w wr) (fun iv _ => n - (intOf iv).toNat)
  case atStart => exact ⟨0, by omega, rfl, by rw [List.take_zero, quo_nil, List.append_nil]; exact h, Kb.refl _ _⟩
  case round =>
    clear h
    obtain ⟨j, hj, rfl, h, hK⟩ := hrel
    rename World => wr
    by_cases hjn : j < n
    · have j0 : (j : Int) < (n : Int) := by omega
      have j1 : (0 : Int) ≤ (j : Int) := by omega
      obtain ⟨x, hx⟩ : ∃ x, (bL c)[j]? = some x := ⟨_, List.getElem?_eq_getElem (by rw [hs]; exact hjn)⟩
      have HX := HL j x hx
      have hix := str_ix hx
      have pa := alone_ok x
      clear hx HL
      go_wp2_with fail
      refine (pa wr).mono ?_
      rintro e w1 ⟨rfl, rfl⟩
      clear pa
      cases hp : plainQ x with
      | true =>
        have hq : quo1 x = [x] := by unfold quo1; rw [if_pos hp]
        rw [hq] at HX
        have HY := HX.out
        simp only [List.length_append, List.length_singleton] at HY
        go_wp2_with fail
        refine (writeB_ok b _ x w1 h (by rw [List.length_append]; exact HY.2)).mono ?_
        rintro e w2 ⟨rfl, h2, hk2⟩
        rw [List.append_assoc, ← HX.out.1] at h2
        replace hK := hK.trans hk2
        clear hk2 h HX HY hq hp
        go_wp2_with fail
        exact ⟨⟨j + 1, by omega, by go_num, h2, hK⟩, by simp [intOf]; omega⟩
      | false =>
        have hq : quo1 x = [37, hex (x.toNat / 16), hex (x.toNat % 16)] := by unfold quo1; rw [if_neg (by rw [hp]; simp)]
        rw [hq] at HX
        have HY := HX.out
        simp only [List.length_append, List.length_cons, List.length_nil] at HY
        have hd1 := digit_ix (x.toNat / 16) (by have := x.toNat_lt; omega) .u8 ((x.toNat : Int) / 16) (by omega)
        have hd2 := digit_ix (x.toNat % 16) (by omega) .u8 ((x.toNat : Int) % 16) (by omega)
        have hbt := and15 x
        have HY2 : Hid _ := HY.2
        clear HY hq hp
        go_wp2_with fail
        refine (writeB_ok b _ 37 w1 h (by have := HY2.out; rw [List.length_append]; omega)).mono ?_
        rintro e w2 ⟨rfl, h2, hk2⟩
        replace hK := hK.trans hk2
        clear hk2 h
        go_wp2_with fail
        refine (writeB_ok b _ (hex (x.toNat / 16)) w2 h2 (by have := HY2.out; simp only [List.length_append, List.length_cons, List.length_nil]; omega)).mono ?_
        rintro e w3 ⟨rfl, h3, hk3⟩
        replace hK := hK.trans hk3
        clear hk3 h2
        go_wp2_with fail
        refine (writeB_ok b _ (hex (x.toNat % 16)) w3 h3 (by have := HY2.out; simp only [List.length_append, List.length_cons, List.length_nil]; omega)).mono ?_
        rintro e w4 ⟨rfl, h4, hk4⟩
        replace hK := hK.trans hk4
        clear hk4 h3
        rw [List.append_assoc, List.append_assoc, List.append_assoc, show ([37] ++ ([hex (x.toNat / 16)] ++ [hex (x.toNat % 16)]) : List UInt8) = [37, hex (x.toNat / 16), hex (x.toNat % 16)] from rfl, ← HX.out.1] at h4
        clear HX HY2 hd1 hd2 hbt hix
        go_wp2_with fail
        exact ⟨⟨j + 1, by omega, by go_num, h4, hK⟩, by simp [intOf]; omega⟩
    · obtain rfl : j = n := by omega
      have h2 : Bld b (l ++ quo (bL c)) wr := by rw [HE.out] at h; exact h
      clear h HL HE
      go_wp2_with fail
      go_end0
      exact ⟨rfl, h2, hK⟩

set_option maxHeartbeats 8000000 in
theorem wline_ok (b : Nat) (hb8 : 8 ≤ b) (l : List UInt8) (r : Rc) (hf : r.fit) (w : World) (h : Bld b l w) (hT : Tb w) (hlen : l.length + (lineL r).length ≤ 140737488355328) :
    Calls Tryd.prog 33 #[.pointer (some ⟨b, 0, none⟩), .agg r.arr] w fun e w' => e = .returned (.tuple #[]) ∧ Bld b (l ++ lineL r) w' ∧ Kb b w w' := by
  obtain ⟨n, t, c, k⟩ := r
  obtain ⟨hf1, hf2, hf3, hf4, hf5⟩ := hf
  simp only at hf1 hf2 hf3 hf4 hf5
  have e0 : Hid (lineL ⟨n, t, c, k⟩ = digs n ++ 32 :: (digs t ++ 32 :: (sgns k ++ 32 :: 34 :: (quo (bL c) ++ [34, 10])))) := rfl
  have HL : Hid (l.length + ((digs n).length + 1 + (digs t).length + 1 + (sgns k).length + 2 + (quo (bL c)).length + 2) ≤ 140737488355328) := by
    show _ ≤ _
    rw [e0.out] at hlen
    simp only [List.length_append, List.length_cons, List.length_nil] at hlen
    omega
  clear hlen
  have b1 := blk_new w (Rc.arr ⟨n, t, c, k⟩) 27
  have hK : Kb b w (w.alloc (.cells (Rc.arr ⟨n, t, c, k⟩) 27)) := Kb.of_below h.lt (below_box w _)
  have hz : b < w.heap.size := h.lt
  replace h := h.kept (below_box w (.cells (Rc.arr ⟨n, t, c, k⟩) 27))
  replace hT := hT.next (below_box w (.cells (Rc.arr ⟨n, t, c, k⟩) 27))
  have ht6 : t < 18446744073709551616 := by omega
  go_enter Tryd.func33, Tryd.ntmps33
  go_upto_region 1 with fail
  try simp only [Act.put, List.setIfInBounds_toArray, List.set_cons_zero, List.set_cons_succ]
  generalize w.alloc (.cells (Rc.arr ⟨n, t, c, k⟩) 27) = W at b1 hK h hT ⊢
  generalize w.heap.size = z at b1 hz ⊢
  have c0 : World.cell? _ ⟨z, 0, none⟩ = some (.int .u64 (n : Int)) := b1.cell 0 _ rfl
  have c1 : World.cell? _ ⟨z, 1, none⟩ = some (.int .u32 (t : Int)) := b1.cell 1 _ rfl
  have c2 : World.cell? _ ⟨z, 2, none⟩ = some (.string c) := b1.cell 2 _ rfl
  have c3 : World.cell? _ ⟨z, 3, none⟩ = some (.int .i64 k) := b1.cell 3 _ rfl
  go_wp2_with fail
  refine (fmt_ok n hf1 _ hT).mono ?_
  rintro e wq ⟨rfl, hb⟩
  clear c0 c1 c2 c3
  replace hK := hK.trans (Kb.of_below h.lt hb)
  replace h := h.kept hb
  replace b1 := b1.below hb
  replace hT := hT.next hb
  clear hb
  have c0 : World.cell? _ ⟨z, 0, none⟩ = some (.int .u64 (n : Int)) := b1.cell 0 _ rfl
  have c1 : World.cell? _ ⟨z, 1, none⟩ = some (.int .u32 (t : Int)) := b1.cell 1 _ rfl
  have c2 : World.cell? _ ⟨z, 2, none⟩ = some (.string c) := b1.cell 2 _ rfl
  have c3 : World.cell? _ ⟨z, 3, none⟩ = some (.int .i64 k) := b1.cell 3 _ rfl
  go_wp2_with fail
  refine (writeS_ok b _ (strB (digs n)) _ h (by have h9 := HL.out; rw [strB_size]; (try simp only [List.length_append, List.length_cons, List.length_nil]); omega)).mono ?_
  rintro e wq ⟨rfl, hn, hk⟩
  clear c0 c1 c2 c3
  replace hK := hK.trans hk
  replace b1 := hk.blk b1 (by omega) (by decide)
  replace hT := hT.below hk.1 hb8
  clear hk h
  have h := hn
  clear hn
  rw [bL_strB] at h
  have c0 : World.cell? _ ⟨z, 0, none⟩ = some (.int .u64 (n : Int)) := b1.cell 0 _ rfl
  have c1 : World.cell? _ ⟨z, 1, none⟩ = some (.int .u32 (t : Int)) := b1.cell 1 _ rfl
  have c2 : World.cell? _ ⟨z, 2, none⟩ = some (.string c) := b1.cell 2 _ rfl
  have c3 : World.cell? _ ⟨z, 3, none⟩ = some (.int .i64 k) := b1.cell 3 _ rfl
  go_wp2_with fail
  refine (writeB_ok b _ 32 _ h (by have h9 := HL.out; (try simp only [List.length_append, List.length_cons, List.length_nil]); omega)).mono ?_
  rintro e wq ⟨rfl, hn, hk⟩
  clear c0 c1 c2 c3
  replace hK := hK.trans hk
  replace b1 := hk.blk b1 (by omega) (by decide)
  replace hT := hT.below hk.1 hb8
  clear hk h
  have h := hn
  clear hn
  have c0 : World.cell? _ ⟨z, 0, none⟩ = some (.int .u64 (n : Int)) := b1.cell 0 _ rfl
  have c1 : World.cell? _ ⟨z, 1, none⟩ = some (.int .u32 (t : Int)) := b1.cell 1 _ rfl
  have c2 : World.cell? _ ⟨z, 2, none⟩ = some (.string c) := b1.cell 2 _ rfl
  have c3 : World.cell? _ ⟨z, 3, none⟩ = some (.int .i64 k) := b1.cell 3 _ rfl
  go_wp2_with fail
  refine (fmt_ok t ht6 _ hT).mono ?_
  rintro e wq ⟨rfl, hb⟩
  clear c0 c1 c2 c3
  replace hK := hK.trans (Kb.of_below h.lt hb)
  replace h := h.kept hb
  replace b1 := b1.below hb
  replace hT := hT.next hb
  clear hb
  have c0 : World.cell? _ ⟨z, 0, none⟩ = some (.int .u64 (n : Int)) := b1.cell 0 _ rfl
  have c1 : World.cell? _ ⟨z, 1, none⟩ = some (.int .u32 (t : Int)) := b1.cell 1 _ rfl
  have c2 : World.cell? _ ⟨z, 2, none⟩ = some (.string c) := b1.cell 2 _ rfl
  have c3 : World.cell? _ ⟨z, 3, none⟩ = some (.int .i64 k) := b1.cell 3 _ rfl
  go_wp2_with fail
  refine (writeS_ok b _ (strB (digs t)) _ h (by have h9 := HL.out; rw [strB_size]; (try simp only [List.length_append, List.length_cons, List.length_nil]); omega)).mono ?_
  rintro e wq ⟨rfl, hn, hk⟩
  clear c0 c1 c2 c3
  replace hK := hK.trans hk
  replace b1 := hk.blk b1 (by omega) (by decide)
  replace hT := hT.below hk.1 hb8
  clear hk h
  have h := hn
  clear hn
  rw [bL_strB] at h
  have c0 : World.cell? _ ⟨z, 0, none⟩ = some (.int .u64 (n : Int)) := b1.cell 0 _ rfl
  have c1 : World.cell? _ ⟨z, 1, none⟩ = some (.int .u32 (t : Int)) := b1.cell 1 _ rfl
  have c2 : World.cell? _ ⟨z, 2, none⟩ = some (.string c) := b1.cell 2 _ rfl
  have c3 : World.cell? _ ⟨z, 3, none⟩ = some (.int .i64 k) := b1.cell 3 _ rfl
  go_wp2_with fail
  refine (writeB_ok b _ 32 _ h (by have h9 := HL.out; (try simp only [List.length_append, List.length_cons, List.length_nil]); omega)).mono ?_
  rintro e wq ⟨rfl, hn, hk⟩
  clear c0 c1 c2 c3
  replace hK := hK.trans hk
  replace b1 := hk.blk b1 (by omega) (by decide)
  replace hT := hT.below hk.1 hb8
  clear hk h
  have h := hn
  clear hn
  have c0 : World.cell? _ ⟨z, 0, none⟩ = some (.int .u64 (n : Int)) := b1.cell 0 _ rfl
  have c1 : World.cell? _ ⟨z, 1, none⟩ = some (.int .u32 (t : Int)) := b1.cell 1 _ rfl
  have c2 : World.cell? _ ⟨z, 2, none⟩ = some (.string c) := b1.cell 2 _ rfl
  have c3 : World.cell? _ ⟨z, 3, none⟩ = some (.int .i64 k) := b1.cell 3 _ rfl
  go_wp2_with fail
  refine (itoa_ok k hf4 hf5 _ hT).mono ?_
  rintro e wq ⟨rfl, hb⟩
  clear c0 c1 c2 c3
  replace hK := hK.trans (Kb.of_below h.lt hb)
  replace h := h.kept hb
  replace b1 := b1.below hb
  replace hT := hT.next hb
  clear hb
  have c0 : World.cell? _ ⟨z, 0, none⟩ = some (.int .u64 (n : Int)) := b1.cell 0 _ rfl
  have c1 : World.cell? _ ⟨z, 1, none⟩ = some (.int .u32 (t : Int)) := b1.cell 1 _ rfl
  have c2 : World.cell? _ ⟨z, 2, none⟩ = some (.string c) := b1.cell 2 _ rfl
  have c3 : World.cell? _ ⟨z, 3, none⟩ = some (.int .i64 k) := b1.cell 3 _ rfl
  go_wp2_with fail
  refine (writeS_ok b _ (strB (sgns k)) _ h (by have h9 := HL.out; rw [strB_size]; (try simp only [List.length_append, List.length_cons, List.length_nil]); omega)).mono ?_
  rintro e wq ⟨rfl, hn, hk⟩
  clear c0 c1 c2 c3
  replace hK := hK.trans hk
  replace b1 := hk.blk b1 (by omega) (by decide)
  replace hT := hT.below hk.1 hb8
  clear hk h
  have h := hn
  clear hn
  rw [bL_strB] at h
  have c0 : World.cell? _ ⟨z, 0, none⟩ = some (.int .u64 (n : Int)) := b1.cell 0 _ rfl
  have c1 : World.cell? _ ⟨z, 1, none⟩ = some (.int .u32 (t : Int)) := b1.cell 1 _ rfl
  have c2 : World.cell? _ ⟨z, 2, none⟩ = some (.string c) := b1.cell 2 _ rfl
  have c3 : World.cell? _ ⟨z, 3, none⟩ = some (.int .i64 k) := b1.cell 3 _ rfl
  go_wp2_with fail
  refine (writeB_ok b _ 32 _ h (by have h9 := HL.out; (try simp only [List.length_append, List.length_cons, List.length_nil]); omega)).mono ?_
  rintro e wq ⟨rfl, hn, hk⟩
  clear c0 c1 c2 c3
  replace hK := hK.trans hk
  replace b1 := hk.blk b1 (by omega) (by decide)
  replace hT := hT.below hk.1 hb8
  clear hk h
  have h := hn
  clear hn
  have c0 : World.cell? _ ⟨z, 0, none⟩ = some (.int .u64 (n : Int)) := b1.cell 0 _ rfl
  have c1 : World.cell? _ ⟨z, 1, none⟩ = some (.int .u32 (t : Int)) := b1.cell 1 _ rfl
  have c2 : World.cell? _ ⟨z, 2, none⟩ = some (.string c) := b1.cell 2 _ rfl
  have c3 : World.cell? _ ⟨z, 3, none⟩ = some (.int .i64 k) := b1.cell 3 _ rfl
  go_wp2_with fail
  refine (writeS_ok b _ { data := #[34] } _ h (by have h8 : ({ data := #[34] } : ByteArray).size ≤ 2 := (by decide); have h9 := HL.out; (try simp only [List.length_append, List.length_cons, List.length_nil]); omega)).mono ?_
  rintro e wq ⟨rfl, hn, hk⟩
  clear c0 c1 c2 c3
  replace hK := hK.trans hk
  replace b1 := hk.blk b1 (by omega) (by decide)
  replace hT := hT.below hk.1 hb8
  clear hk h
  have h := hn
  clear hn
  rw [show bL { data := #[34] } = [34] from rfl] at h
  have c0 : World.cell? _ ⟨z, 0, none⟩ = some (.int .u64 (n : Int)) := b1.cell 0 _ rfl
  have c1 : World.cell? _ ⟨z, 1, none⟩ = some (.int .u32 (t : Int)) := b1.cell 1 _ rfl
  have c2 : World.cell? _ ⟨z, 2, none⟩ = some (.string c) := b1.cell 2 _ rfl
  have c3 : World.cell? _ ⟨z, 3, none⟩ = some (.int .i64 k) := b1.cell 3 _ rfl
  go_wp2_with fail
  refine (wcall_ok b _ c _ h (by have h9 := HL.out; (try simp only [List.length_append, List.length_cons, List.length_nil]); omega) (by omega)).mono ?_
  rintro e wq ⟨rfl, hn, hk⟩
  clear c0 c1 c2 c3
  replace hK := hK.trans hk
  replace b1 := hk.blk b1 (by omega) (by decide)
  replace hT := hT.below hk.1 hb8
  clear hk h
  have h := hn
  clear hn
  have c0 : World.cell? _ ⟨z, 0, none⟩ = some (.int .u64 (n : Int)) := b1.cell 0 _ rfl
  have c1 : World.cell? _ ⟨z, 1, none⟩ = some (.int .u32 (t : Int)) := b1.cell 1 _ rfl
  have c2 : World.cell? _ ⟨z, 2, none⟩ = some (.string c) := b1.cell 2 _ rfl
  have c3 : World.cell? _ ⟨z, 3, none⟩ = some (.int .i64 k) := b1.cell 3 _ rfl
  go_wp2_with fail
  refine (writeS_ok b _ { data := #[34, 10] } _ h (by have h8 : ({ data := #[34, 10] } : ByteArray).size ≤ 2 := (by decide); have h9 := HL.out; (try simp only [List.length_append, List.length_cons, List.length_nil]); omega)).mono ?_
  rintro e wq ⟨rfl, hn, hk⟩
  clear c0 c1 c2 c3
  replace hK := hK.trans hk
  replace b1 := hk.blk b1 (by omega) (by decide)
  replace hT := hT.below hk.1 hb8
  clear hk h
  have h := hn
  clear hn
  rw [show bL { data := #[34, 10] } = [34, 10] from rfl] at h
  have c0 : World.cell? _ ⟨z, 0, none⟩ = some (.int .u64 (n : Int)) := b1.cell 0 _ rfl
  have c1 : World.cell? _ ⟨z, 1, none⟩ = some (.int .u32 (t : Int)) := b1.cell 1 _ rfl
  have c2 : World.cell? _ ⟨z, 2, none⟩ = some (.string c) := b1.cell 2 _ rfl
  have c3 : World.cell? _ ⟨z, 3, none⟩ = some (.int .i64 k) := b1.cell 3 _ rfl
  go_wp2_with fail
  go_end0
  refine ⟨rfl, ?_, hK⟩
  rw [e0.out]
  simpa [List.append_assoc] using h

theorem builder_zero : (Tryd.prog.info? 58).map (fun i => (i.zero, i.size)) = some (some (.agg #[.pointer none, .slice none 0 0]), 2) := by kernel_rfl
set_option maxHeartbeats 4000000 in
theorem line_ok (r : Rc) (hf : r.fit) (w : World) (hT : Tb w) (hlen : (lineL r).length ≤ 140737488355328) :
    Calls Tryd.prog 20 #[.agg r.arr] w fun e w' => e = .returned (.string (strB (lineL r))) ∧ Below w.heap.size w w' := by
  obtain ⟨b1, b2, hB⟩ := two_blk (T0 := 27) (T1 := 58) (C0 := r.arr) (C1 := #[.pointer none, .slice none 0 0]) (w := w) rfl
  have h0 := bld_new (w.alloc (.cells r.arr 27))
  rw [alloc_size] at h0
  have hT2 := hT.next hB
  go_enter Tryd.func20, Tryd.ntmps20
  go_upto_region 2 with (go_big_may; refine alloc_zero builder_zero rfl rfl ?_)
  try simp only [Act.put, List.setIfInBounds_toArray, List.set_cons_zero, List.set_cons_succ]
  try simp only [alloc_size]
  generalize (w.alloc (.cells r.arr 27)).alloc (.cells #[.pointer none, .slice none 0 0] 58) = W at b1 b2 hB h0 hT2 ⊢
  go_wp2_with (refine load_blk rfl 27 _ rfl b1 rfl Tryd.underlying27 rfl sizeRc ?_)
  refine (wline_ok _ (by have := hT.big; omega) [] r hf W h0 hT2 (by rw [List.length_nil]; omega)).mono ?_
  rintro e w1 ⟨rfl, h1, hk1⟩
  rw [List.nil_append] at h1
  replace hB := hB.trans (hk1.1.mono (by omega))
  clear h0 hk1 b1 b2 hT2
  go_wp2_with fail
  refine (str_ok _ _ w1 h1).mono ?_
  rintro e w2 ⟨rfl, hk2⟩
  replace hB := hB.trans (hk2.1.mono (by omega))
  clear h1 hk2
  go_wp2_with fail
  go_ret
  exact ⟨rfl, hB⟩

theorem textL_take {L : List Rc} {j : Nat} {r : Rc} (h : L[j]? = some r) : textL (L.take (j + 1)) = textL (L.take j) ++ lineL r := by
  rw [List.take_add_one, h]
  exact textL_snoc _ _
theorem textL_le (L : List Rc) (j : Nat) : (textL (L.take j)).length ≤ (textL L).length := by
  have h1 : textL L = textL (L.take j) ++ textL (L.drop j) := by rw [← textL_append, List.take_append_drop]
  rw [h1, List.length_append]
  omega

set_option maxHeartbeats 4000000 in
theorem text_ok (L : List Rc) (hfit : ∀ x ∈ L, x.fit) (la : Option Addr) (lc : Nat) (lm : L.length ≤ 9223372036854775807) (hlen : (textL L).length ≤ 140737488355328) (w : World) (hS : Li Rc.vals 0 la L w) (hT : Tb w) :
    Calls Tryd.prog 22 #[.slice la L.length lc] w fun e w' => e = .returned (.string (strB (textL L))) ∧ Below w.heap.size w w' := by
  obtain ⟨n, hn⟩ : ∃ n, Hid (L.length = n) := ⟨_, rfl⟩
  rw [hn.out] at lm ⊢
  have HE : Hid (textL (L.take n) = textL L) := by show _ = _; rw [← hn.out, List.take_length]
  have hB := below_box w (.cells #[.pointer none, .slice none 0 0] 58)
  have h0 := bld_new w
  have hT2 := hT.next hB
  have hS2 := hS
  have h8 := hT.big
  clear hS
  have hS := hS2
  clear hS2
  go_enter Tryd.func22, Tryd.ntmps22
  go_upto_region 2 with (go_big_may; refine alloc_zero builder_zero rfl rfl ?_)
  try simp only [Act.put, List.setIfInBounds_toArray, List.set_cons_zero, List.set_cons_succ]
  generalize w.alloc (.cells #[.pointer none, .slice none 0 0] 58) = W at hB h0 hT2 ⊢
  clear hT
  go_wp2_with fail
  go_loopw [8] (fun iv wr => ∃ j : Nat, j ≤ n ∧ iv = .int .i64 j ∧ Bld w.heap.size (textL (L.take j)) wr ∧ Tb wr ∧ Below w.heap.size w wr) (fun iv _ => n - (intOf iv).toNat)
  case atStart => exact ⟨0, by omega, rfl, h0, hT2, hB⟩
  case round =>
    clear hT2 h0 hB
    obtain ⟨j, hj, rfl, h, hT, hB⟩ := hrel
    rename World => wr
    by_cases hjn : j < n
    · have j0 : (j : Int) < (n : Int) := by omega
      have j1 : (0 : Int) ≤ (j : Int) := by omega
      obtain ⟨x, hx⟩ : ∃ k, L[j]? = some k := ⟨_, List.getElem?_eq_getElem (by rw [hn.out]; exact hjn)⟩
      have HX : Hid (textL (L.take (j + 1)) = textL (L.take j) ++ lineL x) := textL_take hx
      have HY : Hid ((textL (L.take j)).length + (lineL x).length ≤ 140737488355328) := by
        have := textL_le L (j + 1)
        rw [HX.out, List.length_append] at this
        show _ ≤ _
        omega
      have hxf := hfit x (List.mem_of_getElem? hx)
      obtain ⟨b, o, hla, _, hbl, hr⟩ := (hS.below hB).at Rc.vals_length j x hx
      subst hla
      have b1 := blk_new wr x.arr 27
      have hb := below_box wr (.cells x.arr 27)
      go_upto_region 5 with (go_big_may; first | refine load_range rfl 27 _ rfl x.vals hr rfl Tryd.underlying27 rfl sizeRc ?_ | refine alloc_zero zeroRc rfl rfl ?_ | refine store_new rfl 27 _ _ rfl (cells := x.arr) rfl rfl sizeRc rfl x.arr_one ?_)
      try simp only [Act.put]
      generalize wr.alloc (Obj.cells x.arr 27) = W1 at b1 hb ⊢
      replace hB := hB.trans (hb.mono hB.size)
      replace h := h.kept hb
      replace hT := hT.next hb
      clear hb hr hbl hx
      go_wp2_with (refine load_blk rfl 27 _ rfl b1 rfl Tryd.underlying27 rfl sizeRc ?_)
      refine (wline_ok _ h8 _ x hxf W1 h hT HY.out).mono ?_
      rintro e w2 ⟨rfl, h2, hk⟩
      rw [← HX.out] at h2
      replace hT := hT.below hk.1 h8
      replace hB := hB.trans hk.1
      clear hk h HX HY b1
      go_wp2_with fail
      exact ⟨⟨j + 1, by omega, by go_num, h2, hT, hB⟩, by simp [intOf]; omega⟩
    · obtain rfl : j = n := by omega
      rw [HE.out] at h
      clear hS
      go_wp2_with fail
      refine (str_ok _ _ _ h).mono ?_
      rintro e w2 ⟨rfl, hk2⟩
      replace hB := hB.trans hk2.1
      clear h hk2
      go_wp2_with fail
      go_ret
      exact ⟨rfl, hB⟩

end Go.Proofs.YtehmcncclpimjaaDoor
