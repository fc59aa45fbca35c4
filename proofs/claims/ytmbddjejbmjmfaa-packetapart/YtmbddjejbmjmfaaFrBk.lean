/-
  What follows of a frame's bytes: a frame that may be is decoded as it was, what is decoded has these bytes, code and document answer the same; a lane's bytes hang on this lane alone.
  No condition.
-/
import Derived.Test.YtmbddjejbmjmfaaFrEq
import Derived.Test.YtmbddjejbmjmfaaFrEnc
import Derived.Test.YtmbddjejbmjmfaaFrDer
import Derived.Test.YtmbddjejbmjmfaaFrLa
namespace Go.Proofs.Ytmbddjejbmjmfaa
set_option maxRecDepth 10000
open Go.RowKit Go.Sort

theorem part_bytes (F : Nat → En) (x : Nat) (hx : x < 6) : part (Fr.bytes F) x = (F x).bytes := by
  have hu : ∀ m, (Fr.upto F (m + 1)) = Fr.upto F m ++ (F m).bytes.data.toList := fun _ => rfl
  have hl := Fr.upto_length F
  have hz : ∀ m, (F m).bytes.data.toList.length = 28 := fun m => by rw [Array.length_toList]; exact (F m).bytes_size
  have key : ((Fr.upto F 6).drop (28 * x)).take 28 = (F x).bytes.data.toList := by
    have ht : ∀ k, (Fr.upto F (x + 1 + k)).take (28 * x + 28) = Fr.upto F (x + 1) := by
      intro k
      induction k with
      | zero => rw [Nat.add_zero, List.take_of_length_le (by rw [hl]; omega)]
      | succ k ih =>
        show (Fr.upto F (x + 1 + k + 1)).take _ = _
        rw [hu, List.take_append_of_le_length (by rw [hl]; omega), ih]
    have h6 := ht (5 - x)
    rw [show x + 1 + (5 - x) = 6 by omega] at h6
    have e : ((Fr.upto F 6).drop (28 * x)).take 28 = ((Fr.upto F 6).take (28 * x + 28)).drop (28 * x) := by
      rw [List.drop_take]; congr 1; omega
    rw [e, h6, hu, List.drop_append_of_le_length (by rw [hl]; omega), List.drop_of_length_le (by rw [hl]; omega), List.nil_append]
  apply ByteArray.ext
  apply Array.toList_inj.1
  rw [← key]
  unfold part
  rw [ByteArray.data_extract, Array.toList_extract]
  show ((Fr.upto F 6).toArray.toList).extract _ _ = _
  simp [List.extract, Nat.add_sub_cancel_left]

theorem enDecode_back (e : En) (hm : e.may = true) : Tells 74 e.bytes (some e) := by
  intro w
  obtain ⟨a, b, c, ha, hb, hc, h1, h2, h3, h4, h5, h6, hbs⟩ := En.may_fit hm
  have h := decode_back a b c e.se e.n e.t (by rw [← ha, ← hb, ← hc]; exact hm) h1 h2 h3 h4 h5 h6 w
  rw [← hbs, ← ha, ← hb, ← hc] at h
  exact h

theorem soFar_all (F : Nat → En) : frc (soFar (fun x => some (F x)) 6) = frc F := by
  apply frc_congr
  intro y hy
  simp [soFar, hy]

theorem decode_bytes (F : Nat → En) (hm : Fr.may F = true) (w : World) : Calls Try.prog 65 #[.string (Fr.bytes F)] w fun r w' => r = .returned (.tuple #[.agg (frc F), .int .i64 0]) ∧ Below w.heap.size w w' := by
  have h := frDecode_gen (Fr.bytes F) (Fr.bytes_size F) (fun x => some (F x)) (fun x hx => by rw [part_bytes F x hx]; exact enDecode_back (F x) ((Fr.may_all F).1 hm x hx)) w
  have hg : goodUp (fun x => some (F x)) = true := (goodUp_iff _).2 fun _ _ => rfl
  rw [hg, if_pos rfl, soFar_all] at h
  exact h

theorem decode_opt (s : ByteArray) : ∃ o : Option En, Tells 74 s o ∧ Tells 55 s o ∧ (∀ e, o = some e → e.may = true ∧ s = e.bytes) := by
  rcases decode_any s with ⟨h1, h2⟩ | ⟨k, sv, g, se, n, t, hs, hm, h1, h2⟩
  · exact ⟨none, h1, h2, fun e h => by cases h⟩
  · exact ⟨some ⟨k, sv, g, se, n, t⟩, h1, h2, fun e h => by cases h; exact ⟨hm, hs⟩⟩

theorem cut_all (s : ByteArray) (hs : s.size = 168) (F : Nat → En) (h : ∀ x, x < 6 → part s x = (F x).bytes) : s = Fr.bytes F := by
  have key : ∀ m, m ≤ 6 → Fr.upto F m = s.data.toList.take (28 * m) := by
    intro m hm
    induction m with
    | zero => rfl
    | succ m ih =>
      show Fr.upto F m ++ (F m).bytes.data.toList = _
      rw [ih (by omega), ← h m (by omega)]
      unfold part
      rw [ByteArray.data_extract, Array.toList_extract]
      simp only [List.extract, Nat.add_sub_cancel_left]
      rw [show 28 * (m + 1) = 28 * m + 28 by omega, List.take_add]
  apply ByteArray.ext
  apply Array.toList_inj.1
  show _ = (Fr.upto F 6).toArray.toList
  rw [key 6 (by omega)]
  rw [List.take_of_length_le (by rw [Array.length_toList]; show s.size ≤ _; omega)]

theorem decode_all (s : ByteArray) : ∃ (G : Nat → En) (c : Int),
    (∀ w, Calls Try.prog 65 #[.string s] w fun r w' => r = .returned (.tuple #[.agg (frc G), .int .i64 c]) ∧ Below w.heap.size w w') ∧
    ((c = 0 ∧ Fr.may G = true ∧ s = Fr.bytes G) ∨ (¬ c = 0)) := by
  by_cases hs : s.size = 168
  · obtain ⟨D, hD⟩ := Classical.axiomOfChoice (fun x => decode_opt (part s x))
    have h := frDecode_gen s hs D (fun x _ => (hD x).1)
    cases hg : goodUp D
    · rw [hg] at h
      exact ⟨zeroFr, 30, h, .inr (by decide)⟩
    · rw [hg, if_pos rfl] at h
      have hall := (goodUp_iff D).1 hg
      have hsome : ∀ x, x < 6 → (soFar D 6 x).may = true ∧ part s x = (soFar D 6 x).bytes := by
        intro x hx
        obtain ⟨e, he⟩ := Option.isSome_iff_exists.1 (hall x hx)
        have hv : soFar D 6 x = e := by simp [soFar, hx, he]
        rw [hv]
        exact (hD x).2.2 e he
      refine ⟨soFar D 6, 0, h, .inl ⟨rfl, (Fr.may_all _).2 fun x hx => (hsome x hx).1, cut_all s hs _ fun x hx => (hsome x hx).2⟩⟩
  · exact ⟨zeroFr, 40, frDecode_long s (by rw [beq_eq_false_iff_ne]; omega), .inr (by decide)⟩

theorem upto_get (F : Nat → En) (m i : Nat) (hi : i < 28 * m) : (Fr.upto F m)[i]? = (F (i / 28)).bytes.data.toList[i % 28]? := by
  induction m with
  | zero => omega
  | succ m ih =>
    show (Fr.upto F m ++ (F m).bytes.data.toList)[i]? = _
    by_cases h : i < 28 * m
    · rw [List.getElem?_append_left (by rw [Fr.upto_length]; exact h)]
      exact ih h
    · rw [List.getElem?_append_right (by rw [Fr.upto_length]; omega), Fr.upto_length]
      have e1 : i / 28 = m := by omega
      have e2 : i - 28 * m = i % 28 := by omega
      rw [e1, e2]

theorem bytes_get (F : Nat → En) (i : Nat) (hi : i < (Fr.bytes F).size) : some (Fr.bytes F)[i] = (F (i / 28)).bytes.data.toList[i % 28]? := by
  have hs := Fr.bytes_size F
  rw [← upto_get F 6 i (by omega)]
  have : (Fr.upto F 6)[i]? = (Fr.bytes F).data.toList[i]? := rfl
  rw [this, List.getElem?_eq_getElem (by rw [Array.length_toList]; exact hi)]
  rfl

theorem apart_get (F : Nat → En) (n : Int) (L : List En) (i : Nat) (h1 : i < (Fr.bytes F).size) (h2 : i < (Fr.bytes (withL F n L)).size) (hn : ¬ ((i / 56 : Nat) : Int) = n) : (Fr.bytes F)[i] = (Fr.bytes (withL F n L))[i] := by
  have e : withL F n L (i / 28) = F (i / 28) := by
    unfold withL
    rw [if_neg]
    rw [show i / 28 / 2 = i / 56 by omega]
    exact hn
  have a := bytes_get F i h1
  have b := bytes_get (withL F n L) i h2
  rw [e, ← a] at b
  exact (Option.some.inj b).symm

theorem decode_same (s : ByteArray) : ∃ (G : Nat → En) (c : Int),
    (∀ w, Calls Try.prog 65 #[.string s] w fun r w' => r = .returned (.tuple #[.agg (frc G), .int .i64 c]) ∧ Below w.heap.size w w') ∧
    (∀ w, Calls Try.prog 32 #[.string s] w fun r w' => r = .returned (.tuple #[.agg (frc G), .int .i64 c]) ∧ Below w.heap.size w w') := by
  by_cases hs : s.size = 168
  · obtain ⟨D, hD⟩ := Classical.axiomOfChoice (fun x => decode_opt (part s x))
    have h := frDecode_gen s hs D (fun x _ => (hD x).1)
    have h' := rfrDecode_gen s hs D (fun x _ => (hD x).2.1)
    cases hg : goodUp D
    · rw [hg] at h h'
      exact ⟨zeroFr, 30, h, h'⟩
    · rw [hg, if_pos rfl] at h h'
      exact ⟨soFar D 6, 0, h, h'⟩
  · have hb : ((s.size : Int) == 168) = false := by rw [beq_eq_false_iff_ne]; omega
    exact ⟨zeroFr, 40, frDecode_long s hb, rfrDecode_long s hb⟩

theorem encode_both (F : Nat → En) : ∃ (b : ByteArray) (c : Int),
    (∀ w, Calls Try.prog 60 #[.agg (frc F)] w fun r w' => r = .returned (.tuple #[.string b, .int .i64 c]) ∧ Below w.heap.size w w') ∧
    (∀ w, Calls Try.prog 42 #[.agg (frc F)] w fun r w' => r = .returned (.tuple #[.string b, .int .i64 c]) ∧ Below w.heap.size w w') := by
  have h := frEncode F
  have h' := rfrEncode F
  cases hm : Fr.may F
  · rw [hm] at h h'; exact ⟨_, _, h, h'⟩
  · rw [hm] at h h'; exact ⟨_, _, h, h'⟩

theorem check_both (F : Nat → En) : ∃ c : Int,
    (∀ w, Calls Try.prog 62 #[.agg (frc F)] w fun r w' => r = .returned (.int .i64 c) ∧ Below w.heap.size w w') ∧
    (∀ w, Calls Try.prog 25 #[.agg (frc F)] w fun r w' => r = .returned (.int .i64 c) ∧ Below w.heap.size w w') :=
  ⟨_, frCheck F, rfrCheck F⟩

theorem frc_whole (F : Nat → En) : ((frc F).extract 0 (0 + (enCells (Fr.list F)).length)).toList = enCells (Fr.list F) := by
  have h : (frc F).toList = enCells (Fr.list F) := rfl
  rw [Nat.zero_add, Array.toList_extract, h]
  simp [List.extract]

theorem lane_part (F : Nat → En) (t : Nat) (ht : t < 3) : ((frc F).extract (t * 12) (t * 12 + (enCells [F (2 * t), F (2 * t + 1)]).length)).toList = enCells [F (2 * t), F (2 * t + 1)] := by
  obtain rfl | rfl | rfl : t = 0 ∨ t = 1 ∨ t = 2 := by omega
  all_goals kernel_rfl

theorem quiet_part {o : Oper} {a : Act} {C : World → Prop} {K : Act → Prop} {x : Operand} {B off : Nat} {D : Array Value} {T : TypeId} {cs : List Value} (ho : o.op = .load 31 x) (hx : a.eval x = .pointer (some ⟨B, off, none⟩)) (hcs : (D.extract off (off + cs.length)).toList = cs) (hl : cs.length = 12) (hC : ∀ w, C w → Blk B D T w)
    (h : K (a.put o.dst (.agg cs.toArray))) : o.quiet Try.prog a C K := by
  refine ⟨_, fun w hw => ?_, h⟩
  unfold Oper.quietAt execOp
  simp only [ho, hx, Instr.loadAt, Instr.sureAddr, Sem.run_bind, Sem.run_pure, Result.andThen_ok, run_loadVar_mid w B off 31 cs _ ((hC w hw).range off cs hcs) Try.underlying31 rfl (by rw [hl]; exact size25)]
  exact ⟨rfl, rfl⟩

theorem with_lane (F : Nat → En) (t : Nat) (L : List En) (j : Nat) (hj : j < 2) : withL F t L (2 * t + j) = L.getD j En.zero := by
  unfold withL
  rw [if_pos (by omega), show (2 * t + j) % 2 = j by omega]

theorem with_other (F : Nat → En) (t m : Nat) (L : List En) (h : ¬ m = t) (j : Nat) (hj : j < 2) : withL F t L (2 * m + j) = F (2 * m + j) := by
  unfold withL
  rw [if_neg (by omega)]

theorem with_again (F : Nat → En) (n : Int) (L : List En) : frc (withL (withL F n L) n L) = frc (withL F n L) := by
  apply frc_congr
  intro y _
  unfold withL
  split
  · rfl
  · rfl

theorem lane_rest (F : Nat → En) (t : Nat) (L : List En) (j : Nat) (hj : j ≤ 2) (h : j = 2 ∨ L.length ≤ j) : laneUp (withL F t L) t 2 = laneUp (withL F t L) t j := by
  have step : ∀ i, i < 2 → L.length ≤ i → laneUp (withL F t L) t (i + 1) = laneUp (withL F t L) t i := by
    intro i hi hl
    show laneUp (withL F t L) t i ++ _ = _
    rw [with_lane F t L i hi]
    have e : L.getD i En.zero = En.zero := by simp [List.getElem?_eq_none hl]
    rw [e, if_pos (by decide), List.append_nil]
  rcases h with rfl | h
  · rfl
  · obtain rfl | rfl | rfl : j = 0 ∨ j = 1 ∨ j = 2 := by omega
    · rw [step 1 (by omega) (by omega), step 0 (by omega) h]
    · rw [step 1 (by omega) h]
    · rfl

end Go.Proofs.Ytmbddjejbmjmfaa
