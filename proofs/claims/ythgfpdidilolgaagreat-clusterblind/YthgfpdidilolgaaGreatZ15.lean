/-
  Of the texts beneath these laws, in their order: Lw, Le, Held, LeM, LeA, LeB, LeC.
  Each theorem says its own conditions.
-/
import Derived.Test.YthgfpdidilolgaaGreatZ00
import Derived.SizedLaws
import Derived.WalkKit
import Derived.Lib.ConvBytes
import Derived.Laws.BytesArg
import Derived.Lib.AppendZerosOnto
namespace Go.Proofs.YthgfpdidilolgaaGreat
set_option maxRecDepth 10000
open Go.ChangeShapes Go.WideShapes Go.ChangeAt Go.RowKit Go.WideElems Go.Sort
set_option linter.unusedVariables false
set_option linter.unusedSimpArgs false
def Enters (f : Nat) : Prop := ∀ (args : Array Value) (w : World), (callFunc f args).run Tryz.prog w = .ok (.enter f args) w
theorem below_next {u w w' : World} (h : Below u.heap.size u w) (hb : Below w.heap.size w w') : Below u.heap.size u w' := h.trans (hb.mono h.size)
theorem below_at {b : Nat} {u w w' : World} (h : Below u.heap.size u w) (hk : Kp [b] w w') (hb : u.heap.size ≤ b) : Below u.heap.size u w' := h.trans (hk.below1 hb h.size)
theorem leNe {a b : ByteArray} (h : ¬ a = b) : ¬ a.toList = b.toList := by
 intro e
 rw [ByteArray.toList_eq, ByteArray.toList_eq] at e
 exact h (ByteArray.ext (Array.ext' e))
section
variable {α : Type} {f : α → List Value} {k : Nat}
theorem run_append_any {P : Program} (hk : ∀ x, (f x).length = k) {t T : TypeId} (ty : TypeId) (ht : P.underlying t = some (.slice T)) {i : TypeInfo} {z : Value} {bytes : Nat} (hi : P.info? T = some i) (hz : i.zero = some z) (hs : i.size = k) (hby : i.bytes = bytes) (hzs : z.cells.size = k)
  {B : Nat} {ad : Option Addr} {cap : Nat} {L : List α} {w : World} (h : Lg f k T B ad cap L w) (hB : B ≤ w.heap.size) {x : Value} {M : List α} (hx : Src P k t x M.length (flat f M) w) (hb : (L.length + M.length) * bytes ≤ 140737488355328) (h63 : L.length + M.length ≤ maxLen) :
  ∃ ad' cap' w', (Builtin.append_ #[t, t] ty #[.slice ad L.length cap, x]).run P w = .ok (.slice ad' (L.length + M.length) cap') w' ∧ Lg f k T B ad' cap' (L ++ M) w' ∧ Kp (blkOf ad) w w' ∧ (∀ A ∈ blkOf ad', A ∈ blkOf ad ∨ w.heap.size ≤ A) := by
 rcases Nat.eq_zero_or_pos M.length with h0 | h0
 ·obtain rfl := List.length_eq_zero_iff.1 h0
  rcases h with ⟨rfl, rfl, rfl⟩ | ⟨g, rfl, hBg, h⟩
  ·refine ⟨none, 0, w, ?_, by simpa using Lg.none _ _ _, Kp.refl _ _, fun A hA => .inl hA⟩
   subst hs
   have hl := hx.len
   have hc := hx.cells
   simp only [List.length_nil] at hl hc
   rcases hx.kind with ⟨e', hq⟩ | hq <;> simp [Builtin.append_, run_underlying ht, run_underlying hq, sizeOf, typeInfo, hi, hl, hc]
  ·obtain ⟨g', cap', w', hr, h1, h2, h3⟩ := run_append_ow (P := P) hk ty ht hi hz hs hby hzs h hx hb h63
   refine ⟨_, cap', w', by rw [← List.length_append]; exact hr, Lg.of h1 (by rcases h3 with rfl | h3 <;> omega), h2, fun A hA => ?_⟩
   simp [blkOf] at hA
   subst hA
   rcases h3 with rfl | h3
   ·exact .inl (by simp [blkOf])
   ·exact .inr h3
 ·obtain ⟨ad', cap', w', hr, h1, h2, g, e, h3⟩ := run_append_lk (P := P) hk ty ht hi hz hs hby hzs h hB h0 hx hb h63
  refine ⟨ad', cap', w', hr, h1, h2, fun A hA => ?_⟩
  rcases h3 with h3 | h3
  ·rw [h3] at hA; exact .inl hA
  ·rw [e] at hA; simp [blkOf] at hA; subst hA; exact .inr h3
theorem append_any {P : Program} (hk : ∀ x, (f x).length = k) {ops : Array Oper} {rest : List Oper} {o : Oper} {a : Act} {Q : Exit → Act → World → Prop} (hgd : o.guard = none) (s y : Operand) {t T : TypeId} (ho : o.op = .call { callee := .builtin .append, args := #[s, y], argTypes := #[t, t] })
  (ht : P.underlying t = some (.slice T)) {i : TypeInfo} {z : Value} {bytes : Nat} (hi : P.info? T = some i) (hz : i.zero = some z) (hs : i.size = k) (hby : i.bytes = bytes) (hzs : z.cells.size = k)
  {B : Nat} {ad : Option Addr} {cap : Nat} {L : List α} {w : World} (h : Lg f k T B ad cap L w) (hB : B ≤ w.heap.size) {n : Nat} (hn : L.length = n) (he : a.eval s = .slice ad n cap) {x : Value} {M : List α} {m : Nat} (hm : M.length = m) (hx : Src P k t x M.length (flat f M) w) (hey : a.eval y = x) (hb : (n + m) * bytes ≤ 140737488355328) (h63 : n + m ≤ maxLen)
  (hK : ∀ ad' cap' w', Lg f k T B ad' cap' (L ++ M) w' → Kp (blkOf ad) w w' → (∀ A ∈ blkOf ad', A ∈ blkOf ad ∨ w.heap.size ≤ A) → wpList P ops Q rest (a.put o.dst (.slice ad' (n + m) cap')) w') : wpList P ops Q (o :: rest) a w := by
 subst hn hm
 refine wpList_plain hgd fun K hK' => ?_
 obtain ⟨ad', cap', w', hr, h1, h2, h3⟩ := run_append_any (P := P) hk o.type ht hi hz hs hby hzs h hB hx hb h63
 have hk2 := hK' _ _ (hK ad' cap' w' h1 h2 h3)
 unfold Oper.wp execOp
 simp only [ho, resolve, invoke, builtin, Sem.run_bind, Sem.run_pure, Result.andThen_ok, List.map_toArray, List.map_cons, List.map_nil, he, hey, hr]
 exact hk2
end
section
variable {H : Type} {enc : TypeId × Value → H} {W : World} {base : Nat} {spare : Nat → Bool} {held : Bool}
theorem weights_all {P : Program} {e : TypeId} {n : Nat} : ∀ {ds : List (DataW H)} {d : DataW H}, d ∈ ds → n ∈ d.weights P e → n ∈ DataW.weightsAll P e ds
 | [], _, h, _ => by simp at h
 | x :: ds, d, h, hn => by
  rw [DataW.weightsAll]
  rcases List.mem_cons.1 h with rfl | h
  ·exact List.mem_append_left _ hn
  ·exact List.mem_append_right _ (weights_all h hn)
theorem open_liw {α : Type} {f : α → List Value} {k : Nat} {P : Program} {Pr : α → Prop} (e0 : α) (hk : ∀ x, (f x).length = k) (hpos : 0 < k) {TS T : TypeId} {bytes : Nat} (hu : P.underlying TS = some (.slice T)) (hC : P.cellsOf T = k) (hby : P.bytesOf T = bytes)
  (hel : ∀ {cs : List Value} {fuel : Nat} {x : DataW H × List MemPlace}, DataW.trod enc P W base spare held fuel T cs = some x → (∀ n ∈ x.1.weights P T, n ≤ reachBytes) → ∃ e : α, cs = f e ∧ Pr e)
  {v : Value} {d : DataW H} {p : List MemPlace} (hv : ∃ a n c, v = .slice a n c) (hw : ∀ n ∈ d.weights P TS, n ≤ reachBytes) (h : DataW.Trod enc P W base spare held TS v d p) :
  ∃ (a : Option Addr) (L : List α) (c : Nat), v = .slice a L.length c ∧ L.length * bytes ≤ 140737488351232 ∧ L.length ≤ c ∧ c ≤ maxLen ∧ (∀ x ∈ L, Pr x) ∧ Li f 0 a L W := by
 obtain ⟨a0, n0, c0, rfl⟩ := hv
 obtain ⟨fuel, hf⟩ := h
 rcases Go.Deep.open_slice hu hf with ⟨hc, _⟩ | ⟨a, len, cap, m, n, D, Pl, hcs, _, hlc, hcm, hm, hx, hcell⟩
 ·simp [Value.cells] at hc
  obtain ⟨rfl, rfl, rfl⟩ := hc
  exact ⟨none, [], 0, rfl, by simp, by simp, Nat.zero_le _, by simp, .inl rfl⟩
 ·simp [Value.cells] at hcs
  obtain ⟨rfl, rfl, rfl⟩ := hcs
  rw [hC] at hcell
  have hlm : n0 ≤ m := by rw [hm]; split <;> omega
  have hd : d = .slice ((List.range n0).map D) ((List.range (m - n0)).map fun j => D (n0 + j)) := by injection hx
  subst hd
  simp only [DataW.weights, hu, hby] at hw
  have hwt : n0 * bytes ≤ 140737488351232 := by
   have h1 := hw _ (List.mem_cons_self ..)
   simp only [List.length_map, List.length_range, reachBytes] at h1
   have h2 : n0 * bytes ≤ (n0 + (m - n0)) * bytes := Nat.mul_le_mul_right _ (by omega)
   omega
  have key : ∀ i, ∃ e : α, i < n0 → (∃ cs', W.cells? base (a.add (i * k)) k = some cs' ∧ cs' = f e) ∧ Pr e := by
   intro i
   by_cases hi : i < n0
   ·obtain ⟨cs', h1, h2⟩ := hcell i (by omega)
    obtain ⟨e, he, hp⟩ := hel h2 (fun n hn => hw n (List.mem_cons_of_mem _ (List.mem_append_left _ (weights_all (List.mem_map.2 ⟨i, by simpa using hi, rfl⟩) hn))))
    exact ⟨e, fun _ => ⟨⟨cs', h1, he⟩, hp⟩⟩
   ·exact ⟨e0, fun h => absurd h hi⟩
  obtain ⟨E, hE⟩ := Classical.axiomOfChoice key
  refine ⟨some a, (List.range n0).map E, c0, by simp, by simpa using hwt, by simpa using hlc, hcm, fun x hx => ?_, ?_⟩
  ·obtain ⟨i, hi, rfl⟩ := List.mem_map.1 hx
   exact (hE i (by simpa using hi)).2
  by_cases h0 : n0 = 0
  ·subst h0; exact .inl rfl
  ·have hget : ∀ i r, i < n0 → r < k → W.cell? ((a.add (i * k)).add r) = (f (E i))[r]? := by
    intro i r hi hr
    obtain ⟨cs', h1, rfl⟩ := (hE i hi).1
    unfold World.cells? at h1
    split at h1
    ·exact mapM_some_get h1 r r (by simp [hr])
    ·cases h1
   have h0' := hget 0 0 (by omega) hpos
   obtain ⟨v0, hv0⟩ : ∃ v0, (f (E 0))[0]? = some v0 := ⟨_, List.getElem?_eq_getElem (by rw [hk]; exact hpos)⟩
   obtain ⟨b, o, s⟩ := a
   cases s with
   | some q =>
    rw [hv0] at h0'
    simp [World.cell?, Addr.add] at h0'
    split at h0' <;> simp_all
   | none =>
   have hfirst : W.cell? ⟨b, o, none⟩ = some v0 := by
    rw [Addr.add_mid, Addr.add_mid, hv0] at h0'
    simpa using h0'
   refine .inr ⟨b, o, rfl, Nat.zero_le _, block_lt_of_cell hfirst, fun j v hv => ?_⟩
   have hj : j < n0 * k := by
    have h := (List.getElem?_eq_some_iff.1 hv).1
    rw [flat_length hk] at h
    simpa using h
   have hd : j / k < n0 := (Nat.div_lt_iff_lt_mul hpos).2 hj
   have hmod : j % k < k := Nat.mod_lt _ hpos
   have hat := flat_get hk ((List.range n0).map E) (j / k) (E (j / k)) (by simp [hd]) (j % k) hmod
   have hjj : j / k * k + j % k = j := by rw [Nat.mul_comm]; exact Nat.div_add_mod j k
   rw [hjj] at hat
   have h := hget (j / k) (j % k) hd hmod
   rw [Addr.add_mid, Addr.add_mid] at h
   rw [show o + j = o + j / k * k + j % k by omega, h, ← hat]
   exact hv
end
section
variable {α : Type} {f : α → List Value} {k : Nat}
theorem put_set (hk : ∀ x, (f x).length = k) {C : Array Value} {i r : Nat} {x e : α} {v : Value} (hC : ∀ j, j < k → C[i * k + j]? = (f x)[j]?) (hsz : i * k + k ≤ C.size) (he : f e = (f x).set r v) (hr : r < k) : putAt C (i * k) (f e) = C.setIfInBounds (i * k + r) v := by
 apply Array.ext_getElem?
 intro j
 rw [putAt_get (f e) (i * k) C j (by rw [hk]; exact hsz), hk, Array.getElem?_setIfInBounds]
 by_cases h : i * k ≤ j ∧ j < i * k + k
 ·rw [if_pos h, he, List.getElem?_set, hk]
  by_cases h2 : i * k + r = j
  ·rw [if_pos (by omega), if_pos h2, if_pos (by omega), if_pos (by omega)]
  ·rw [if_neg (by omega), if_neg h2, ← hC (j - i * k) (by omega), show i * k + (j - i * k) = j by omega]
 ·rw [if_neg h, if_neg (by omega)]
theorem Ow.cell1 (hk : ∀ x, (f x).length = k) (hpos : 0 < k) {T : TypeId} {g cap : Nat} {L : List α} {w W : World} (h : Ow f k T g cap L w) (i : Nat) (x : α) (hx : L[i]? = some x) (e : α) {r : Nat} {v : Value} (he : f e = (f x).set r v) (hr : r < k)
  {C : Array Value} (hC : Blk g C T w) (hW : Blk g (C.setIfInBounds (i * k + r) v) T W) : Ow f k T g cap (L.set i e) W := by
 have hi := (List.getElem?_eq_some_iff.1 hx).1
 obtain ⟨cur, h0, h1, h2, h3, h4⟩ := h
 obtain ⟨rfl, _⟩ := h0.eq hC
 have hle : i * k + k ≤ L.length * k := by rw [← Nat.succ_mul]; exact Nat.mul_le_mul_right _ hi
 have hle2 : L.length * k ≤ cur.size := by rw [h3]; exact Nat.mul_le_mul_right _ h1
 refine Ow.put hk hpos ⟨cur, h0, h1, h2, h3, h4⟩ i hi e h0 ?_
 rw [put_set hk (x := x) (r := r) (v := v) (fun j hj => ?_) (by omega) he hr]
 ·exact hW
 ·have h5 := flat_get hk L i x hx j hj
  rw [← h4, List.getElem?_take, if_pos (by omega), Array.getElem?_toList] at h5
  exact h5
theorem Ow.blk {T : TypeId} {g cap : Nat} {L : List α} {w : World} (h : Ow f k T g cap L w) : ∃ C, Blk g C T w ∧ L.length * k ≤ C.size := by
 obtain ⟨c, h0, h1, _, h3, _⟩ := h
 exact ⟨c, h0, by rw [h3]; exact Nat.mul_le_mul_right _ h1⟩
end
end Go.Proofs.YthgfpdidilolgaaGreat
namespace Go.Proofs.YthgfpdidilolgaaGreat
set_option maxRecDepth 10000
open Go.ChangeShapes Go.WideShapes Go.ChangeAt Go.RowKit Go.WideElems Go.Sort
structure Le where
 fr : Int
 u : Int
 t : ByteArray
 b : Bool
def Le.vals (e : Le) : List Value := [.int .i64 e.fr, .int .i64 e.u, .string e.t, .bool e.b]
def Le.zero : Le := ⟨0, 0, ⟨#[]⟩, false⟩
def Le.arr (e : Le) : Array Value := e.vals.toArray
theorem Le.vals_length (e : Le) : e.vals.length = 4 := rfl
theorem Le.vals_one (e : Le) : ∀ v ∈ e.vals, v.oneCell' = true := by
 intro v hv
 simp [Le.vals] at hv
 rcases hv with rfl | rfl | rfl | rfl <;> rfl
theorem Le.arr_one (e : Le) : e.arr.all (·.oneCell') = true := all_oneCell_toArray e.vals_one
theorem sizeLe : (Tryz.prog.info? 97).map (·.size) = some 4 := by kernel_rfl
theorem sizeStr1 : (Tryz.prog.info? 9).map (·.size) = some 1 := by kernel_rfl
theorem sizeBool1 : (Tryz.prog.info? 4).map (·.size) = some 1 := by kernel_rfl
theorem zeroLe : (Tryz.prog.info? 97).map (fun i => (i.zero, i.size)) = some (some (.agg Le.zero.arr), 4) := by kernel_rfl
theorem builtLe : Tryz.prog.built 97 [] = some Le.zero.arr := by kernel_rfl
theorem infoLe : ∃ i z, Tryz.prog.info? 97 = some i ∧ i.zero = some z ∧ i.size = 4 ∧ i.bytes = 40 ∧ z.cells.size = 4 := by
 have h : (Tryz.prog.info? 97).map (fun i => (i.zero, i.size, i.bytes)) = some (some (.agg Le.zero.arr), 4, 40) := by kernel_rfl
 obtain ⟨i, hi, h0, h1, h2⟩ := info_parts h
 exact ⟨i, _, hi, h0, h1, h2, rfl⟩
theorem bsLe (e : Le) (w : World) : (Instr.buildSlice 27 1 #[(0, .agg e.arr)]).run Tryz.prog w = .ok (.slice (some ⟨w.heap.size, 0, none⟩) 1 1) (w.alloc (.cells e.arr 97)) := by kernel_rfl
theorem bsLe0 (w : World) : (Instr.buildSlice 27 0 #[]).run Tryz.prog w = .ok (.slice (some ⟨w.heap.size, 0, none⟩) 0 0) (w.alloc (.cells #[] 97)) := by kernel_rfl
theorem box_le {ops : Array Oper} {rest : List Oper} {op : Oper} {a : Act} {w : World} {Q : Exit → Act → World → Prop} (hgd : op.guard = none) (x : Operand) (ho : op.op = .buildSlice 27 1 #[(0, x)]) (e : Le) (hx : a.eval x = .agg e.arr)
  (h : wpList Tryz.prog ops Q rest (a.put op.dst (.slice (some ⟨w.heap.size, 0, none⟩) 1 1)) (w.alloc (.cells e.arr 97))) : wpList Tryz.prog ops Q (op :: rest) a w :=
 wpList_plain hgd fun _ hK => by
  have hk := hK _ _ h
  unfold Oper.wp execOp
  simp only [ho, List.map_toArray, List.map_cons, List.map_nil, hx, Sem.run_bind, Sem.run_pure, bsLe, Result.andThen_ok]
  exact hk
theorem box_le0 {ops : Array Oper} {rest : List Oper} {op : Oper} {a : Act} {w : World} {Q : Exit → Act → World → Prop} (hgd : op.guard = none) (ho : op.op = .buildSlice 27 0 #[])
  (h : wpList Tryz.prog ops Q rest (a.put op.dst (.slice (some ⟨w.heap.size, 0, none⟩) 0 0)) (w.alloc (.cells #[] 97))) : wpList Tryz.prog ops Q (op :: rest) a w :=
 wpList_plain hgd fun _ hK => by
  have hk := hK _ _ h
  unfold Oper.wp execOp
  simp only [ho, List.map_toArray, List.map_nil, Sem.run_bind, Sem.run_pure, bsLe0, Result.andThen_ok]
  exact hk
section
variable {H : Type} {enc : TypeId × Value → H} {W : World} {base : Nat} {spare : Nat → Bool} {held : Bool}
def Le.small (x : Le) : Prop := x.t.size ≤ 140737488351232
end
section
variable {H : Type} {enc : TypeId × Value → H} {W : World} {base : Nat} {spare : Nat → Bool} {held : Bool}
end
end Go.Proofs.YthgfpdidilolgaaGreat
namespace Go.Proofs.YthgfpdidilolgaaGreat
set_option maxRecDepth 10000
open Go.RowKit
def Held (B n : Nat) (f : Nat → UInt8) (w : World) : Prop :=
 B < w.heap.size ∧ ∀ j, j < n → w.cell? ⟨B, j, none⟩ = some (.int .u8 ((f j).toNat : Int)) ∧ w.frozen? ⟨B, j, none⟩ = false
def textOf (n : Nat) (f : Nat → UInt8) : ByteArray := ⟨((List.range n).map f).toArray⟩
theorem textOf_size (n : Nat) (f : Nat → UInt8) : (textOf n f).size = n := by
 show ((List.range n).map f).toArray.size = n
 simp
theorem textOf_data (n : Nat) (f : Nat → UInt8) : (textOf n f).data.toList = (List.range n).map f := rfl
def at0 (s : ByteArray) (j : Nat) : UInt8 := s.data.toList.getD j 0
theorem textOf_at0 (s : ByteArray) : textOf s.size (at0 s) = s := by
 have h : s.data = (textOf s.size (at0 s)).data := by
  apply Array.ext'
  rw [textOf_data]
  have hl : s.data.toList.length = s.size := by rw [Array.length_toList]; rfl
  apply List.ext_getElem
  ·rw [hl]; simp
  ·intro i h1 h2
   simp [at0, List.getD, List.getElem?_eq_getElem h1]
 exact (ByteArray.ext h).symm
theorem Held.set {B n k : Nat} {f : Nat → UInt8} {w : World} (h : Held B n f w) (hk : k < n) (v : UInt8) :
  Held B n (fun j => if j = k then v else f j) (w.setCell ⟨B, k, none⟩ (.int .u8 (v.toNat : Int))) := by
 refine ⟨by simpa using h.1, fun j hj => ?_⟩
 by_cases e : j = k
 ·subst e
  refine ⟨?_, by simpa using (h.2 j hj).2⟩
  rw [World.cell?_setCell_same' w ⟨B, j, none⟩ _ (by rw [(h.2 j hj).1]; rfl)]; simp
 ·refine ⟨?_, by simpa using (h.2 j hj).2⟩
  have hne : (⟨B, k, none⟩ : Addr) ≠ ⟨B, j, none⟩ := fun e2 => e (by cases e2; rfl)
  rw [World.cell?_setCell_other w ⟨B, k, none⟩ _ _ hne, (h.2 j hj).1]; simp [e]
theorem strOf_text (n : Nat) (f : Nat → UInt8) : strOfNums ((List.range n).map fun j => ((f j).toNat : Int)) = textOf n f := by
 unfold strOfNums textOf
 simp [Function.comp_def]
theorem Held.conv {P : Program} {B n cap : Nat} {f : Nat → UInt8} {w : World} (h : Held B n f w) (src e dst : TypeId) (hs : P.underlying src = some (.slice e)) (he : P.underlying e = some (.int .u8)) (hd : P.underlying dst = some .string) :
  (convert src dst (.slice (some ⟨B, 0, none⟩) n cap)).run P w = .ok (.string (textOf n f)) w := by
 rw [← strOf_text]
 refine run_convert_bytes_arg w src e hs he B 0 n cap _ (by simp) ?_ dst hd
 intro i hi
 rw [Nat.zero_add, (h.2 i hi).1]
 simp [List.getD, hi]
theorem held_bytes (w : World) (e : TypeId) (s : ByteArray) : Held w.heap.size s.size (at0 s) (Lib.bytesWorld w e s) := by
 refine ⟨by rw [Lib.bytesWorld_size]; omega, fun j hj => ⟨Lib.bytesWorld_cell w e s j hj, ?_⟩⟩
 unfold World.frozen?
 rw [Lib.bytesWorld_at_new]
 have : s.size ≤ (Lib.bytesCells w e s).size := by
  show s.data.size ≤ _
  simp [Lib.bytesCells]
 simp
 omega
theorem below_bytes (w : World) (e : TypeId) (s : ByteArray) : Below w.heap.size w (Lib.bytesWorld w e s) :=
 ⟨rfl, rfl, rfl, by rw [Lib.bytesWorld_size]; omega, fun k hk => Lib.bytesWorld_at_old w e s k hk⟩
end Go.Proofs.YthgfpdidilolgaaGreat
namespace Go.Proofs.YthgfpdidilolgaaGreat
set_option maxRecDepth 10000
open Go.RowKit Go.Sort
def fitB (f u : Int) (x : Le) : Bool := x.fr == f && x.u == u
def plcTo (f u : Int) (L : List Le) (j : Nat) : List Nat := (List.range j).filter fun i => (L[i]?).any (fitB f u)
def plc (f u : Int) (L : List Le) : List Nat := plcTo f u L L.length
theorem plcTo_no (f u : Int) (L : List Le) (j : Nat) (x : Le) (hx : L[j]? = some x) (h : fitB f u x = false) : plcTo f u L (j + 1) = plcTo f u L j := by simp [plcTo, List.range_succ, hx, h]
theorem plcTo_yes (f u : Int) (L : List Le) (j : Nat) (x : Le) (hx : L[j]? = some x) (h : fitB f u x = true) : plcTo f u L (j + 1) = plcTo f u L j ++ [j] := by simp [plcTo, List.range_succ, hx, h]
theorem plcTo_len (f u : Int) (L : List Le) (j : Nat) : (plcTo f u L j).length ≤ j := by
 have := List.length_filter_le (fun i => (L[i]?).any (fitB f u)) (List.range j)
 rwa [List.length_range] at this
theorem plc_len (f u : Int) (L : List Le) : (plc f u L).length ≤ L.length := plcTo_len f u L _
theorem mem_plc (f u : Int) (L : List Le) (p : Nat) : p ∈ plc f u L ↔ ∃ x, L[p]? = some x ∧ fitB f u x = true := by
 simp only [plc, plcTo, List.mem_filter, List.mem_range]
 constructor
 ·rintro ⟨h1, h2⟩
  rw [List.getElem?_eq_getElem h1] at h2 ⊢
  exact ⟨_, rfl, by simpa using h2⟩
 ·rintro ⟨x, h1, h2⟩
  exact ⟨(List.getElem?_eq_some_iff.1 h1).1, by rw [h1]; simpa using h2⟩
def onL (P : List Nat) (ix : Int) : Option Nat := P[(ix % (P.length : Int)).toNat]?
def pickL (f u ix : Int) (L : List Le) : Option Nat := onL (plc f u L) ix
theorem onL_some (P : List Nat) (ix : Int) (h : P ≠ []) : ∃ p, onL P ix = some p ∧ p ∈ P := by
 have hl : 0 < P.length := List.length_pos_iff.2 h
 have h1 := Int.emod_nonneg ix (b := (P.length : Int)) (by omega)
 have h2 := Int.emod_lt_of_pos ix (b := (P.length : Int)) (by omega)
 have hlt : (ix % (P.length : Int)).toNat < P.length := by omega
 exact ⟨_, List.getElem?_eq_getElem hlt, List.getElem_mem _⟩
theorem pickL_some {f u ix : Int} {L : List Le} {p : Nat} (h : pickL f u ix L = some p) : ∃ x, L[p]? = some x ∧ fitB f u x = true :=
 (mem_plc f u L p).1 (List.mem_of_getElem? h)
theorem pickL_lt {f u ix : Int} {L : List Le} {p : Nat} (h : pickL f u ix L = some p) : p < L.length := by
 obtain ⟨x, hx, _⟩ := pickL_some h
 exact (List.getElem?_eq_some_iff.1 hx).1
def leftL (f u ix : Int) (L : List Le) : List Le := match pickL f u ix L with
 | none => L
 | some p => L.take p ++ L.drop (p + 1)
def gotL (f u ix : Int) (L : List Le) : Le := match pickL f u ix L with
 | none => Le.zero
 | some p => L.getD p Le.zero
def isL (f u ix : Int) (L : List Le) : Bool := (pickL f u ix L).isSome
def putL (L X : List Le) : List Le := L.take 4096 ++ X.take (4096 - min L.length 4096)
def mskB (m k : Nat) : UInt8 := UInt8.ofNat (m / 256 ^ k)
def trnF (s : ByteArray) (a m : Nat) (j : Nat) : UInt8 := if a ≤ j then at0 s j ^^^ mskB m (j - a) else at0 s j
def trnT (s : ByteArray) (a m : Nat) : ByteArray := textOf s.size (trnF s a m)
theorem trnT_size (s : ByteArray) (a m : Nat) : (trnT s a m).size = s.size := textOf_size _ _
def trnE (x : Le) (a m : Nat) : Le := ⟨x.fr, x.u, trnT x.t a m, !decide (trnT x.t a m = x.t)⟩
def trnL (f u ix a : Int) (m : Nat) (L : List Le) : List Le := match pickL f u ix L with
 | none => L
 | some p => if a < 0 ∨ (L.getD p Le.zero).b = true then L else L.set p (trnE (L.getD p Le.zero) a.toNat m)
theorem mskB_far (m k : Nat) (hm : m < 4294967296) (hk : 4 ≤ k) : mskB m k = 0 := by
 unfold mskB
 have h : (256 : Nat) ^ 4 ≤ 256 ^ k := Nat.pow_le_pow_right (by decide) hk
 rw [Nat.div_eq_of_lt (by omega)]
 rfl
end Go.Proofs.YthgfpdidilolgaaGreat
namespace Go.Proofs.YthgfpdidilolgaaGreat
set_option maxRecDepth 10000
open Go.RowKit Go.Sort
set_option linter.unusedVariables false
set_option linter.unusedSimpArgs false
def pv (x : Nat) : List Value := [.int .i64 (x : Int)]
theorem pv_length (x : Nat) : (pv x).length = 1 := rfl
theorem pv_one (x : Nat) : ∀ v ∈ pv x, v.oneCell' = true := by
 intro v hv
 simp [pv] at hv
 subst hv
 rfl
theorem infoPv : ∃ i z, Tryz.prog.info? 3 = some i ∧ i.zero = some z ∧ i.size = 1 ∧ i.bytes = 8 ∧ z.cells.size = 1 := by
 have h : (Tryz.prog.info? 3).map (fun i => (i.zero, i.size, i.bytes)) = some (some (.int .i64 0), 1, 8) := by kernel_rfl
 obtain ⟨i, hi, h0, h1, h2⟩ := info_parts h
 exact ⟨i, _, hi, h0, h1, h2, rfl⟩
theorem bsPv (x : Nat) (w : World) : (Instr.buildSlice 93 1 #[(0, .int .i64 (x : Int))]).run Tryz.prog w = .ok (.slice (some ⟨w.heap.size, 0, none⟩) 1 1) (w.alloc (.cells #[.int .i64 (x : Int)] 3)) := by kernel_rfl
theorem box_pv {ops : Array Oper} {rest : List Oper} {op : Oper} {a : Act} {w : World} {Q : Exit → Act → World → Prop} (hgd : op.guard = none) (y : Operand) (ho : op.op = .buildSlice 93 1 #[(0, y)]) (x : Nat) (hx : a.eval y = .int .i64 (x : Int))
  (h : ∀ W, Li pv w.heap.size (some ⟨w.heap.size, 0, none⟩) [x] W → Below w.heap.size w W → wpList Tryz.prog ops Q rest (a.put op.dst (.slice (some ⟨w.heap.size, 0, none⟩) 1 1)) W) : wpList Tryz.prog ops Q (op :: rest) a w :=
 wpList_plain hgd fun _ hK => by
  have hk := hK _ _ (h _ (li_box (f := pv) w x 3 _ (Nat.le_refl _)) (below_box w _))
  unfold Oper.wp execOp
  simp only [ho, List.map_toArray, List.map_cons, List.map_nil, hx, Sem.run_bind, Sem.run_pure, bsPv, Result.andThen_ok]
  exact hk
def Placs (P : List Nat) (B : Nat) (e : Ending) (w' : World) : Prop := ∃ a c, e = .returned (.slice a P.length c) ∧ Lg pv 1 3 B a c P w'
set_option maxHeartbeats 2000000 in
theorem lplaces_ok (L : List Le) (la : Option Addr) (lc : Nat) (f u : Int) (lz : L.length * 40 ≤ 140737488351232) (w : World) (hS : Li Le.vals 0 la L w) :
  Calls Tryz.prog 109 #[.slice la L.length lc, .int .i64 f, .int .i64 u] w fun e w' => Placs (plc f u L) w.heap.size e w' ∧ Below w.heap.size w w' := by
 obtain ⟨iI, zI, hI, hz0, hsz, hby, hzs⟩ := infoPv
 obtain ⟨n, hn⟩ : ∃ n, Hid (L.length = n) := ⟨_, rfl⟩
 have HP : Hid (plc f u L = plcTo f u L n) := by rw [← hn.out]; exact rfl
 rw [hn.out] at lz ⊢
 rw [HP.out]
 go_enter Tryz.func109, Tryz.ntmps109
 go_wp2_with fail
 go_loopw [7, 12] (fun lv iv wr => ∃ (j q : Nat) (a : Option Addr) (c : Nat), j ≤ n ∧ iv = .int .i64 j ∧ lv = .slice a q c ∧ Hid ((plcTo f u L j).length = q) ∧ q ≤ j ∧ Lg pv 1 3 w.heap.size a c (plcTo f u L j) wr ∧ Below w.heap.size w wr) (fun _ iv _ => n - (intOf iv).toNat)
 case atStart => exact ⟨0, 0, none, 0, by omega, rfl, rfl, rfl, by omega, Lg.none _ _ _, Below.refl _ _⟩
 case round =>
  obtain ⟨j, q, a, c, hj, rfl, rfl, HQ, hq, hG, hB⟩ := hrel
  by_cases hjn : j < n
  ·have j0 : (j : Int) < (n : Int) := by omega
   have j1 : (0 : Int) ≤ (j : Int) := by omega
   obtain ⟨x, hx⟩ : ∃ x, L[j]? = some x := ⟨_, List.getElem?_eq_getElem (by rw [hn.out]; exact hjn)⟩
   obtain ⟨b, o, rfl, _, hbl, hr⟩ := (hS.below hB).at Le.vals_length j x hx
   have b1 := blk_new wr x.arr 97
   have hb := below_box wr (.cells x.arr 97)
   go_upto_region 5 with (go_big_may; first | refine load_range rfl 97 _ rfl x.vals hr rfl Tryz.underlying97 rfl sizeLe ?_ | refine alloc_zero zeroLe rfl rfl ?_ | refine store_new rfl 97 _ _ rfl (cells := x.arr) rfl rfl sizeLe rfl x.arr_one ?_)
   try simp only [Act.put]
   generalize wr.alloc (Obj.cells x.arr 97) = W1 at b1 hb ⊢
   replace hG := hG.below hb
   replace hB := hB.trans (hb.mono hB.size)
   have c0 : W1.cell? ⟨wr.heap.size, 0, none⟩ = some (.int .i64 x.fr) := b1.cell 0 _ rfl
   have c1 : W1.cell? ⟨wr.heap.size, 1, none⟩ = some (.int .i64 x.u) := b1.cell 1 _ rfl
   clear hb hr b1 hbl
   generalize wr.heap.size = z at c0 c1 ⊢
   obtain ⟨t, ht⟩ : ∃ t, fitB f u x = t := ⟨_, rfl⟩
   cases t with
   | false =>
    have HS : Hid (plcTo f u L (j + 1) = plcTo f u L j) := plcTo_no f u L j x hx ht
    by_cases h1 : x.fr = f
    ·have h2 : (x.u == u) = false := by
      unfold fitB at ht
      simpa [h1] using ht
     have h1' : (x.fr == f) = true := by simp [h1]
     clear ht h1 hx
     go_wp2_with fail
     exact ⟨⟨j + 1, q, a, c, by omega, by go_num, rfl, by rw [HS.out]; exact HQ, by omega, by rw [HS.out]; exact hG, hB⟩, by simp [intOf]; omega⟩
    ·have h1' : (x.fr == f) = false := by simpa using h1
     clear ht h1 hx
     go_wp2_with fail
     exact ⟨⟨j + 1, q, a, c, by omega, by go_num, rfl, by rw [HS.out]; exact HQ, by omega, by rw [HS.out]; exact hG, hB⟩, by simp [intOf]; omega⟩
   | true =>
    have HS : Hid (plcTo f u L (j + 1) = plcTo f u L j ++ [j]) := plcTo_yes f u L j x hx ht
    have h1 : (x.fr == f) = true ∧ (x.u == u) = true := by
     unfold fitB at ht
     simpa using ht
    obtain ⟨h1, h2⟩ := h1
    clear ht hx
    go_wp2_with (first | (refine box_pv rfl _ rfl j rfl ?_; intro W2 hl2 hb2; have hG2 := hG.below hb2; have hB2 := hB.trans (hb2.mono hB.size)) | (refine append_any pv_length rfl _ _ rfl Tryz.underlying93 hI hz0 hsz hby hzs hG2 hB2.size HQ.out rfl (M := [j]) (m := 1) rfl (hl2.src pv_length pv_one Tryz.underlying93 1) rfl (by omega) (by simp only [maxLen]; omega) ?_; intro a3 c3 W3 hG3 hK3 _))
    have hb3 : Below w.heap.size W2 W3 := hK3.below (fun k hk => (hG2.in k hk).1) hB2.size
    exact ⟨⟨j + 1, q + 1, a3, c3, by omega, by go_num, rfl, by rw [HS.out, List.length_append, HQ.out]; rfl, by omega, by rw [HS.out]; exact hG3, hB2.trans hb3⟩, by simp [intOf]; omega⟩
  ·obtain rfl : j = n := by omega
   go_wp2_with fail
   go_ret
   exact ⟨⟨a, c, by simp [HQ.out], hG⟩, hB⟩
set_option maxHeartbeats 1000000 in
theorem find_ok (L : List Le) (la : Option Addr) (lc : Nat) (f u ix : Int) (hix : -9223372036854775808 ≤ ix ∧ ix ≤ 9223372036854775807) (lz : L.length * 40 ≤ 140737488351232) (w : World) (hS : Li Le.vals 0 la L w) :
  Calls Tryz.prog 66 #[.slice la L.length lc, .int .i64 f, .int .i64 u, .int .i64 ix] w fun e w' => e = .returned (.tuple #[.int .i64 (((pickL f u ix L).getD 0 : Nat) : Int), .bool (isL f u ix L)]) ∧ Below w.heap.size w w' := by
 have pP := lplaces_ok L la lc f u lz w hS
 have hl := plc_len f u L
 unfold isL pickL
 generalize plc f u L = P at pP hl ⊢
 generalize L.length = n at pP hl lz ⊢
 by_cases h0 : P = []
 ·subst h0
  have HN : Hid (onL [] ix = none) := rfl
  rw [HN.out]
  go_enter Tryz.func66, Tryz.ntmps66
  go_wp2_with fail
  refine pP.mono ?_
  rintro r w1 ⟨⟨a, c, rfl, hG⟩, hb⟩
  clear pP hG
  simp only [List.length_nil]
  go_wp2_with fail
  go_ret2
  exact ⟨rfl, hb⟩
 ·obtain ⟨p, hp, _⟩ := onL_some P ix h0
  have hl0 : 0 < P.length := List.length_pos_iff.2 h0
  have hat : P[(ix % (P.length : Int)).toNat]? = some p := hp
  rw [hp]
  have hm1 := Int.emod_nonneg ix (b := (P.length : Int)) (by omega)
  have hm2 := Int.emod_lt_of_pos ix (b := (P.length : Int)) (by omega)
  have hcase : Int.tmod ix (P.length : Int) = ix % (P.length : Int) ∨ (Int.tmod ix (P.length : Int) < 0 ∧ Int.tmod ix (P.length : Int) + P.length = ix % (P.length : Int)) := by
   rw [Int.emod_eq_tmod]
   by_cases hc : 0 ≤ ix ∨ (P.length : Int) ∣ ix
   ·left
    rw [if_pos hc]
    omega
   ·right
    rw [if_neg hc]
    rw [Int.emod_eq_tmod, if_neg hc] at hm1 hm2
    have : ((P.length : Int).natAbs : Int) = P.length := by omega
    constructor <;> omega
  obtain ⟨q, hq⟩ : ∃ q : Nat, ix % (P.length : Int) = (q : Int) := ⟨(ix % (P.length : Int)).toNat, by omega⟩
  rw [hq] at hat hcase hm2
  rw [Int.toNat_natCast] at hat
  obtain ⟨l, hl'⟩ : ∃ l, Hid (P.length = l) := ⟨_, rfl⟩
  unfold Placs at pP
  rw [hl'.out] at pP hl hl0 hcase hm2
  have l0 : ((l : Int) == 0) = false := by rw [beq_eq_false_iff_ne]; omega
  clear hq hm1 hp h0
  go_enter Tryz.func66, Tryz.ntmps66
  go_wp2_with fail
  refine pP.mono ?_
  rintro r w1 ⟨⟨a, c, rfl, hG⟩, hb⟩
  clear pP
  obtain ⟨b, o, rfl, _, hbl, hr⟩ := hG.li.at pv_length q p hat
  have c0 : w1.cell? ⟨b, o + q, none⟩ = some (.int .i64 (p : Int)) := by have := hr 0 _ rfl; simpa using this
  clear hG hr hat
  go_upto_region 5 with fail
  try simp only [Act.put]
  generalize ix.tmod (l : Int) = r0 at hcase ⊢
  have q1 : (0 : Int) ≤ (q : Int) := by omega
  have q2 : (q : Int) < (l : Int) := by omega
  have l9 : l ≤ 9223372036854775807 := by omega
  clear l0 lz hl hix
  rcases hcase with rfl | ⟨h1, h2⟩
  ·have h3 : decide ((q : Int) < 0) = false := by simp
   go_wp2_with fail
   go_ret2
   exact ⟨rfl, hb⟩
  ·have h3 : decide (r0 < 0) = true := by simp [h1]
   have h4 : IntKind.i64.wrap (r0 + (l : Int)) = (q : Int) := by rw [IntKind.wrap_i64]; omega
   clear h2
   go_wp2_with fail
   go_ret2
   exact ⟨rfl, hb⟩
end Go.Proofs.YthgfpdidilolgaaGreat
namespace Go.Proofs.YthgfpdidilolgaaGreat
set_option maxRecDepth 10000
open Go.RowKit Go.Sort
set_option linter.unusedVariables false
set_option linter.unusedSimpArgs false
def MadeL (L : List Le) (B : Nat) (e : Ending) (w' : World) : Prop := ∃ a c, e = .returned (.slice a L.length c) ∧ Lg Le.vals 4 97 B a c L w'
set_option maxHeartbeats 1000000 in
theorem grow_ok (n : Nat) (hn : n * 40 ≤ 140737488351232) (w : World) : Calls Tryz.prog 110 #[.slice none 0 0, .int .i64 (n : Int)] w fun e w' => MadeL [] w.heap.size e w' ∧ Below w.heap.size w w' := by
 obtain ⟨iI, zI, hI, hz0, hsz, hby, hzs⟩ := infoLe
 rcases Nat.eq_zero_or_pos n with rfl | h0
 ·have HM : MadeL [] w.heap.size (.returned (.slice none 0 0)) w := ⟨none, 0, rfl, Lg.none _ _ _⟩
  go_enter Tryz.func110, Tryz.ntmps110
  go_wp2_with fail
  go_ret
  exact ⟨HM, Below.refl _ _⟩
 ·have hr := Go.Lib.run_append_nil_zeros (P := Tryz.prog) w 27 3 27 97 iI zI .i64 .i64 Tryz.underlying27 Tryz.underlying3 hI hz0 n h0 (by omega) (by omega) (by rw [hby]; omega)
  have hge := grownCap_ge w n 0 97
  have hle := grownCap_le_maxLen w n 0 97 (by simp only [maxLen]; omega)
  obtain ⟨cap, hcap⟩ : ∃ cap, grownCap w n 0 97 = cap := ⟨_, rfl⟩
  rw [hcap] at hr hge hle
  have hB : Below w.heap.size w (w.drew.alloc (.cells (Builtin.zeroCells zI.cells n ++ Builtin.zeroCells zI.cells (cap - n)) 97)) := ((Below.refl _ _).drew).alloc (Nat.le_refl _) _
  have HO : Ow Le.vals 4 97 w.heap.size cap [] (w.drew.alloc (.cells (Builtin.zeroCells zI.cells n ++ Builtin.zeroCells zI.cells (cap - n)) 97)) := by
   refine ⟨_, heap_alloc_new w.drew _, Nat.zero_le _, hle, ?_, by simp [flat]⟩
   simp only [Array.size_append, size_zeroCells, hzs]
   omega
  obtain ⟨W, hW⟩ : ∃ W, w.drew.alloc (.cells (Builtin.zeroCells zI.cells n ++ Builtin.zeroCells zI.cells (cap - n)) 97) = W := ⟨_, rfl⟩
  rw [hW] at hr hB HO
  have HM : MadeL [] w.heap.size (.returned (.slice (some ⟨w.heap.size, 0, none⟩) 0 cap)) W := ⟨_, _, rfl, Lg.of HO (Nat.le_refl _)⟩
  have n0 : decide ((n : Int) < 0) = false := by simp
  have n1 : decide (0 < (n : Int)) = true := by simp; omega
  have n2 : decide ((n : Int) > 0) = true := by simp; omega
  have c0 : (0 : Int) ≤ (cap : Int) := by omega
  clear hW hcap HO
  go_enter Tryz.func110, Tryz.ntmps110
  go_wp2_with (at_builtin; refine Lib.wpList_append_run _ rfl _ _ _ _ rfl _ _ rfl rfl _ _ hr ?_)
  go_ret
  exact ⟨HM, hB⟩
def upL (L M : List Le) : Nat → List Le
 | 0 => []
 | 1 => L
 | _ => L ++ M
set_option maxHeartbeats 4000000 in
theorem concat_ok (L M : List Le) (la ma : Option Addr) (lc mc G : Nat) (lz : (L.length + M.length) * 40 ≤ 140737488351232) (w : World) (hL : Li Le.vals 0 la L w) (hM : Li Le.vals 0 ma M w) (hG : Blk G #[.slice la L.length lc, .slice ma M.length mc] 27 w) :
  Calls Tryz.prog 67 #[.slice (some ⟨G, 0, none⟩) 2 2] w fun e w' => MadeL (L ++ M) w.heap.size e w' ∧ Below w.heap.size w w' := by
 obtain ⟨iI, zI, hI, hz0, hsz, hby, hzs⟩ := infoLe
 obtain ⟨n, hn⟩ : ∃ n, Hid (L.length = n) := ⟨_, rfl⟩
 obtain ⟨m, hm⟩ : ∃ m, Hid (M.length = m) := ⟨_, rfl⟩
 rw [hn.out, hm.out] at lz hG
 have e0 : w.cell? ⟨G, 0, none⟩ = some (.slice la n lc) := hG.cell 0 _ rfl
 have e1 : w.cell? ⟨G, 1, none⟩ = some (.slice ma m mc) := hG.cell 1 _ rfl
 have gl := hG.lt
 have n0 : (0 : Int) ≤ (n : Int) := by omega
 have m0 : (0 : Int) ≤ (m : Int) := by omega
 go_enter Tryz.func67, Tryz.ntmps67
 go_wp2_with fail
 go_loopw [3, 11] (fun sz iv wr => ∃ j s : Nat, j ≤ 2 ∧ iv = .int .i64 j ∧ sz = .int .i64 s ∧ w = wr ∧ (j = 0 ∧ s = 0 ∨ j = 1 ∧ n = s ∨ j = 2 ∧ n + m = s)) (fun _ iv _ => 2 - (intOf iv).toNat)
 case atStart => exact ⟨0, 0, by omega, rfl, rfl, rfl, .inl ⟨rfl, rfl⟩⟩
 case round =>
  obtain ⟨j, s, hj, rfl, rfl, rfl, h | h | h⟩ := hrel
  ·obtain ⟨rfl, rfl⟩ := h
   go_wp2_with fail
   exact ⟨⟨1, n, by omega, by go_num, by go_num, trivial, .inr (.inl ⟨rfl, rfl⟩)⟩, by simp [intOf]⟩
  ·obtain ⟨rfl, rfl⟩ := h
   go_wp2_with fail
   exact ⟨⟨2, n + m, by omega, by go_num, by go_num, trivial, .inr (.inr ⟨rfl, rfl⟩)⟩, by simp [intOf]⟩
  ·obtain ⟨h2, h3⟩ := h
   have j2 : decide ((j : Int) < 2) = false := by simp; omega
   rw [h3] at lz
   have HS : Hid (n + m = s) := h3
   have hns : n ≤ s := by omega
   have hms : m ≤ s := by omega
   clear h2 h3
   go_wp2_with fail
   refine (grow_ok s lz w).mono ?_
   rintro r w1 ⟨⟨a, c, rfl, h0⟩, hb⟩
   simp only [List.length_nil]
   go_wp2_with fail
   go_loopw [6, 27] (fun sv iv wr => ∃ (j q : Nat) (a : Option Addr) (c : Nat), iv = .int .i64 j ∧ sv = .slice a q c ∧ Lg Le.vals 4 97 w.heap.size a c (upL L M j) wr ∧ Below w.heap.size w wr ∧ (j = 0 ∧ q = 0 ∨ j = 1 ∧ n = q ∨ j = 2 ∧ q = s)) (fun _ iv _ => 2 - (intOf iv).toNat)
   case atStart => exact ⟨0, 0, a, c, rfl, rfl, h0, hb, .inl ⟨rfl, rfl⟩⟩
   case round =>
    clear h0 hb
    obtain ⟨j, q, a, c, rfl, rfl, h0, hb, h⟩ := hrel
    rename World => wr
    have d0 : wr.cell? ⟨G, 0, none⟩ = some (.slice la n lc) := (hG.below hb).cell 0 _ rfl
    have d1 : wr.cell? ⟨G, 1, none⟩ = some (.slice ma m mc) := (hG.below hb).cell 1 _ rfl
    have xL := (hL.below hb).src (P := Tryz.prog) Le.vals_length Le.vals_one Tryz.underlying27 lc
    have xM := (hM.below hb).src (P := Tryz.prog) Le.vals_length Le.vals_one Tryz.underlying27 mc
    rw [hn.out] at xL
    rw [hm.out] at xM
    rcases h with h | h | h
    ·obtain ⟨rfl, rfl⟩ := h
     clear d1 xM
     replace h0 : Lg Le.vals 4 97 w.heap.size a c [] wr := h0
     go_wp2_with (refine append_any Le.vals_length rfl _ _ rfl Tryz.underlying27 hI hz0 hsz hby hzs h0 hb.size (n := 0) rfl rfl (M := L) hn.out (by rw [hn.out]; exact xL) rfl (by have := HS.out; omega) (by have := HS.out; simp only [maxLen]; omega) ?_; intro a3 c3 W3 hG3 hK3 _)
     have hb3 : Below w.heap.size wr W3 := hK3.below (fun k hk => (h0.in k hk).1) hb.size
     exact ⟨⟨1, n, a3, c3, by go_num, by simp, hG3, hb.trans hb3, .inr (.inl ⟨rfl, rfl⟩)⟩, by simp [intOf]⟩
    ·obtain ⟨rfl, rfl⟩ := h
     clear d0 xL
     replace h0 : Lg Le.vals 4 97 w.heap.size a c L wr := h0
     go_wp2_with (refine append_any Le.vals_length rfl _ _ rfl Tryz.underlying27 hI hz0 hsz hby hzs h0 hb.size hn.out rfl (M := M) hm.out (by rw [hm.out]; exact xM) rfl (by have := HS.out; omega) (by have := HS.out; simp only [maxLen]; omega) ?_; intro a3 c3 W3 hG3 hK3 _)
     have hb3 : Below w.heap.size wr W3 := hK3.below (fun k hk => (h0.in k hk).1) hb.size
     exact ⟨⟨2, s, a3, c3, by go_num, by simp [HS.out], hG3, hb.trans hb3, .inr (.inr ⟨rfl, rfl⟩)⟩, by simp [intOf]⟩
    ·obtain ⟨rfl, rfl⟩ := h
     go_wp2_with fail
     go_ret
     exact ⟨⟨a, c, by simp [hn.out, hm.out, HS.out], h0⟩, hb⟩
set_option maxHeartbeats 1000000 in
theorem lclone_ok (L : List Le) (la : Option Addr) (lc : Nat) (hl : L.length * 40 ≤ 140737488355328) (w : World) (hS : Li Le.vals 0 la L w) : Calls Tryz.prog 41 #[.slice la L.length lc] w fun e w' => MadeL L w.heap.size e w' ∧ Below w.heap.size w w' := by
 obtain ⟨iI, zI, hI, hz0, hsz, hby, hzs⟩ := infoLe
 cases la with
 | none =>
  obtain rfl : L = [] := by
   rcases hS with h | ⟨_, _, h, _⟩
   ·exact h
   ·cases h
  have HC : MadeL [] w.heap.size (.returned (.slice none 0 0)) w := ⟨none, 0, rfl, Lg.none _ _ _⟩
  have hq : ∀ w, (binOp .eql 27 (.slice none 0 lc) (.slice none 0 0)).run Tryz.prog w = .ok (.bool true) w := fun w => by kernel_rfl
  clear hS hI
  show Calls Tryz.prog 41 #[.slice none 0 lc] w _
  go_enter Tryz.func41, Tryz.ntmps41
  go_wp2_with fail
  go_ret
  exact ⟨HC, Below.refl _ _⟩
 | some ad =>
  have b1 := blk_new w #[] 97
  have hB : Below w.heap.size w (w.alloc (.cells #[] 97)) := below_box w _
  have hS1 := hS.below hB
  have hx := hS1.src (P := Tryz.prog) Le.vals_length Le.vals_one Tryz.underlying27 lc
  have ho : Ow Le.vals 4 97 w.heap.size 0 [] (w.alloc (.cells #[] 97)) := Ow.empty b1
  obtain ⟨n, hn⟩ : ∃ n, Hid (L.length = n) := ⟨_, rfl⟩
  rw [hn.out] at hl hx ⊢
  have hq : ∀ w, (binOp .eql 27 (.slice (some ad) n lc) (.slice none 0 0)).run Tryz.prog w = .ok (.bool false) w := fun w => by kernel_rfl
  clear hS hS1 b1
  go_enter Tryz.func41, Tryz.ntmps41
  go_wp2_with (first | refine box_le0 rfl rfl ?_ | (refine append_ow Le.vals_length rfl _ _ rfl Tryz.underlying27 hI hz0 hsz hby hzs ho rfl (M := L) (by rw [hn.out]; exact hx) rfl (by simp [hn.out]; omega) (by simp [maxLen, hn.out]; omega) ?_; intro g' cap' w5 hg5 hb5 hc5; have hB6 : Below w.heap.size w w5 := hB.trans (hb5.below (by simp) hB.size)))
  go_ret
  refine ⟨⟨some ⟨g', 0, none⟩, cap', by simp, Lg.of (by simpa using hg5) (by rcases hc5 with rfl | h <;> simp at * <;> omega)⟩, hB6⟩
end Go.Proofs.YthgfpdidilolgaaGreat
namespace Go.Proofs.YthgfpdidilolgaaGreat
set_option maxRecDepth 10000
set_option linter.unusedSimpArgs false
open Go.RowKit Go.Sort
set_option linter.unusedVariables false
set_option linter.unusedSimpArgs false
theorem bsLs2 (a b : Option Addr) (n c m d : Nat) (w : World) : (Instr.buildSlice 171 2 #[(0, .slice a n c), (1, .slice b m d)]).run Tryz.prog w = .ok (.slice (some ⟨w.heap.size, 0, none⟩) 2 2) (w.alloc (.cells #[.slice a n c, .slice b m d] 27)) := by kernel_rfl
theorem wp_ls2 {op : Oper} {a : Act} {w : World} {K : Act → World → Prop} {Q : Exit → Act → World → Prop} (x y : Operand) (ho : op.op = .buildSlice 171 2 #[(0, x), (1, y)]) {xa ya : Option Addr} {n c m d : Nat} (hx : a.eval x = .slice xa n c) (hy : a.eval y = .slice ya m d)
  (h : ∀ g W, Blk g #[.slice xa n c, .slice ya m d] 27 W → Below w.heap.size w W → w.heap.size ≤ g → g < W.heap.size → K (a.put op.dst (.slice (some ⟨g, 0, none⟩) 2 2)) W) : op.wp Tryz.prog a w K Q := by
 have hk := h _ _ (blk_new w #[.slice xa n c, .slice ya m d] 27) (below_box w _) (Nat.le_refl _) (by simp)
 unfold Oper.wp execOp
 simp only [ho, List.map_toArray, List.map_cons, List.map_nil, hx, hy, Sem.run_bind, Sem.run_pure, bsLs2, Result.andThen_ok]
 exact hk
theorem box_ls2 {ops : Array Oper} {rest : List Oper} {op : Oper} {a : Act} {w : World} {Q : Exit → Act → World → Prop} (hgd : op.guard = none) (x y : Operand) (ho : op.op = .buildSlice 171 2 #[(0, x), (1, y)]) {xa ya : Option Addr} {n c m d : Nat} (hx : a.eval x = .slice xa n c) (hy : a.eval y = .slice ya m d)
  (h : ∀ g W, Blk g #[.slice xa n c, .slice ya m d] 27 W → Below w.heap.size w W → w.heap.size ≤ g → g < W.heap.size → wpList Tryz.prog ops Q rest (a.put op.dst (.slice (some ⟨g, 0, none⟩) 2 2)) W) : wpList Tryz.prog ops Q (op :: rest) a w :=
 wpList_plain hgd fun _ hK => wp_ls2 x y ho hx hy fun g W h1 h2 h3 h4 => hK _ _ (h g W h1 h2 h3 h4)
def cutA (ad : Option Addr) (c i k : Nat) : Option Addr := if c = i then ad else ad.map (·.add (i * k))
theorem Li.cut {α : Type} {f : α → List Value} {k : Nat} (hk : ∀ x, (f x).length = k) {B : Nat} {a : Option Addr} {L : List α} {w : World} (h : Li f B a L w) (c i : Nat) (hc : L.length ≤ c) (hi : i ≤ L.length) : Li f B (cutA a c i k) (L.drop i) w := by
 unfold cutA
 by_cases h1 : c = i
 ·rw [List.drop_eq_nil_of_le (by omega)]
  exact Li.nil _ _ _
 ·rw [if_neg h1]
  rcases h with rfl | ⟨b, o, rfl, hB, hlt, hr⟩
  ·exact .inl (by simp)
  ·exact .inr ⟨b, o + i * k, by simp [Addr.add_mid], hB, hlt, range_drop hk hr i hi⟩
theorem yields_cut {P : Program} {ops : Array Oper} {S : World → Prop} {op : Oper} {a : Act} (hw : Region.wanted op (yielded ops a.tmps) = true) (x y : Operand) {t T : TypeId} {k : Nat} (ho : op.op = .slice t x (some y) none none)
  (ht : P.underlying t = some (.slice (P.elem t))) (hT : P.elem t = T) (hsz : ∀ w, (sizeOf T).run P w = .ok k w) {ad : Option Addr} {n c i : Nat} (hi : i ≤ n) (hx : a.eval x = .slice ad n c) (hy : a.eval y = .int .i64 (i : Int)) : YieldsIf P ops S op (.slice (cutA ad c i k) (n - i) (c - i)) a :=
 .inl ⟨hw, fun w _ => by
  have hr : (Instr.slice t (.slice ad n c) (some (.int .i64 (i : Int))) none none).run P w = .ok (.slice (cutA ad c i k) (n - i) (c - i)) w := by
   rw [run_slice_l w t ad n c ht .i64 i (by omega) (by omega), hT, hsz w]
   simp [Result.andThen, sliced, cutA]
  unfold execOp
  simp only [ho, Option.map_some, Option.map_none, hx, hy, Sem.run_bind, run_sliceAt_slice _ _ _ _ _ _ ht, hr, Result.andThen_ok, Sem.run_pure]⟩
theorem take_min {α : Type} (L : List α) (k : Nat) : L.take k = L.take (min L.length k) := by
 rcases Nat.le_total L.length k with h | h
 ·rw [Nat.min_eq_left h, List.take_of_length_le h, List.take_of_length_le (Nat.le_refl _)]
 ·rw [Nat.min_eq_right h]
theorem Li.take {α : Type} {f : α → List Value} {k : Nat} (hk : ∀ x, (f x).length = k) {B : Nat} {a : Option Addr} {L : List α} {w : World} (h : Li f B a L w) (n : Nat) : Li f B a (L.take n) w := by
 rcases h with rfl | ⟨b, o, e, hB, hlt, hr⟩
 ·exact .inl (by simp)
 ·refine .inr ⟨b, o, e, hB, hlt, fun j v hv => hr j v ?_⟩
  rw [← flat_take hk, List.getElem?_take] at hv
  split at hv
  ·exact hv
  ·cases hv
set_option maxHeartbeats 1000000 in
theorem lput_ok (L X : List Le) (la xa : Option Addr) (lc xc : Nat) (lz : L.length * 40 ≤ 140737488351232) (xz : X.length * 40 ≤ 140737488351232) (hlc : L.length ≤ lc) (hxc : X.length ≤ xc) (w : World) (hL : Li Le.vals 0 la L w) (hX : Li Le.vals 0 xa X w) :
  Calls Tryz.prog 106 #[.slice la L.length lc, .slice xa X.length xc] w fun e w' => MadeL (putL L X) w.heap.size e w' ∧ Below w.heap.size w w' := by
 obtain ⟨n, hn⟩ : ∃ n, Hid (L.length = n) := ⟨_, rfl⟩
 obtain ⟨m, hm⟩ : ∃ m, Hid (X.length = m) := ⟨_, rfl⟩
 obtain ⟨p, hp⟩ : ∃ p, Hid (min n 4096 = p) := ⟨_, rfl⟩
 obtain ⟨q, hq⟩ : ∃ q, Hid (min m (4096 - p) = q) := ⟨_, rfl⟩
 have e1 : Hid (putL L X = L.take p ++ X.take q) := by
  show L.take 4096 ++ X.take (4096 - min L.length 4096) = _
  rw [hn.out, hp.out, take_min L 4096, take_min X (4096 - p), hn.out, hm.out, hp.out, hq.out]
 have p0 := hp.out
 have q0 := hq.out
 have i1 : (if (4096 : Int) < (n : Int) then 4096 else (n : Int)) = (p : Int) := by split <;> omega
 have i2 : (if (4096 : Int) - (p : Int) < (m : Int) then 4096 - (p : Int) else (m : Int)) = (q : Int) := by split <;> omega
 have pn : p ≤ n := by omega
 have qm : q ≤ m := by omega
 have p9 : p ≤ 4096 := by omega
 have q9 : q ≤ 4096 := by omega
 rw [hn.out] at lz hlc
 rw [hm.out] at xz hxc
 rw [hn.out, hm.out, e1.out]
 have l1 : (L.take p).length = p := by rw [List.length_take, hn.out]; omega
 have l2 : (X.take q).length = q := by rw [List.length_take, hm.out]; omega
 have hL' := hL.take Le.vals_length p
 have hX' := hX.take Le.vals_length q
 generalize L.take p = L' at l1 hL' ⊢
 generalize X.take q = X' at l2 hX' ⊢
 have H1 : Hid (L'.length = p) := l1
 have H2 : Hid (X'.length = q) := l2
 have pc : (p : Int) ≤ (lc : Int) := by omega
 have qc : (q : Int) ≤ (xc : Int) := by omega
 have pp : (0 : Int) ≤ (p : Int) := by omega
 have qp : (0 : Int) ≤ (q : Int) := by omega
 clear l1 l2 p0 q0 hL hX
 go_enter Tryz.func106, Tryz.ntmps106
 go_wp2_with (refine box_ls2 rfl _ _ rfl rfl rfl ?_; intro G W hG hbG _ _)
 rw [← H1.out, ← H2.out] at hG
 refine (concat_ok L' X' la xa lc xc G (by rw [H1.out, H2.out]; omega) W (hL'.below hbG) (hX'.below hbG) hG).mono ?_
 rintro r w1 ⟨⟨a, c, rfl, h0⟩, hb⟩
 go_wp2_with fail
 go_ret
 exact ⟨⟨a, c, by simp, h0.mono hbG.size⟩, hbG.trans (hb.mono hbG.size)⟩
def TookL (f u ix : Int) (L : List Le) (B : Nat) (e : Ending) (w' : World) : Prop := ∃ a c, e = .returned (.tuple #[.slice a (leftL f u ix L).length c, .agg (gotL f u ix L).arr, .bool (isL f u ix L)]) ∧ Lg Le.vals 4 97 B a c (leftL f u ix L) w'
set_option maxHeartbeats 2000000 in
theorem ltake_ok (L : List Le) (la : Option Addr) (lc : Nat) (f u ix : Int) (hix : -9223372036854775808 ≤ ix ∧ ix ≤ 9223372036854775807) (lz : L.length * 40 ≤ 140737488351232) (hlc : L.length ≤ lc) (hcm : lc ≤ 9223372036854775807) (w : World) (hL : Li Le.vals 0 la L w) :
  Calls Tryz.prog 45 #[.slice la L.length lc, .int .i64 f, .int .i64 u, .int .i64 ix] w fun e w' => TookL f u ix L w.heap.size e w' ∧ Below w.heap.size w w' := by
 obtain ⟨n, hn⟩ : ∃ n, Hid (L.length = n) := ⟨_, rfl⟩
 have a9 := blk_new w Le.zero.arr 97
 have hB := below_box w (.cells Le.zero.arr 97)
 cases hp : pickL f u ix L with
 | none =>
  have pF := find_ok L la lc f u ix hix lz
  have pC := lclone_ok L la lc (by omega)
  have HT : ∀ a c w', Lg Le.vals 4 97 w.heap.size a c L w' → TookL f u ix L w.heap.size (.returned (.tuple #[.slice a n c, .agg Le.zero.arr, .bool false])) w' := by
   intro a c w' h
   refine ⟨a, c, ?_, ?_⟩
   ·simp only [leftL, gotL, isL, hp, hn.out]; rfl
   ·simpa only [leftL, hp] using h
  simp only [isL, hp] at pF
  rw [hn.out] at pF pC ⊢
  clear hp
  go_enter Tryz.func45, Tryz.ntmps45
  go_upto_region 1 with (go_big_may; refine alloc_zero zeroLe rfl rfl ?_)
  try simp only [Act.put]
  generalize w.alloc (Obj.cells Le.zero.arr 97) = W at a9 hB ⊢
  go_wp2_with fail
  refine (pF W (hL.below hB)).mono ?_
  rintro r w1 ⟨rfl, hb⟩
  replace a9 := a9.below hb
  replace hB := below_next hB hb
  clear hb pF
  go_wp2_with fail
  refine (pC w1 (hL.below hB)).mono ?_
  rintro r w2 ⟨⟨a, c, rfl, h0⟩, hb⟩
  replace a9 := a9.below hb
  replace h0 := h0.mono hB.size
  replace hB := below_next hB hb
  rw [hn.out]
  clear hb pC
  go_wp2_with (first | refine build_zero builtLe rfl rfl ?_ | refine store_same rfl 97 _ _ rfl a9 rfl rfl sizeLe Le.zero.arr_one ?_)
  refine bodyPost_ret (w := w2) (v := .tuple #[.slice a n c, .agg Le.zero.arr, .bool false]) (ret_tct rfl rfl a9 Tryz.underlying97 rfl sizeLe rfl rfl) rfl ?_
  exact ⟨HT a c w2 h0, hB⟩
 | some p =>
  have pF := find_ok L la lc f u ix hix lz
  have hlt := pickL_lt hp
  obtain ⟨x, hx, _⟩ := pickL_some hp
  have HT : ∀ a c w', Lg Le.vals 4 97 w.heap.size a c (L.take p ++ L.drop (p + 1)) w' → TookL f u ix L w.heap.size (.returned (.tuple #[.slice a (L.take p ++ L.drop (p + 1)).length c, .agg x.arr, .bool true])) w' := by
   intro a c w' h
   refine ⟨a, c, ?_, ?_⟩
   ·simp only [leftL, gotL, isL, hp, List.getD, hx]; rfl
   ·simpa only [leftL, hp] using h
  simp only [isL, hp] at pF
  have hLt := hL.take Le.vals_length p
  have hLd := hL.cut Le.vals_length lc (p + 1) hlc (by omega)
  have l1 : Hid ((L.take p).length = p) := by show _ = _; rw [List.length_take]; omega
  have l2 : Hid ((L.drop (p + 1)).length = n - (p + 1)) := by show _ = _; rw [List.length_drop, hn.out]
  have hcz : ((L.take p).length + (L.drop (p + 1)).length) * 40 ≤ 140737488351232 := by rw [l1.out, l2.out, ← hn.out]; omega
  rw [hn.out] at pF lz hlc hlt ⊢
  have p0 : (0 : Int) ≤ (p : Int) := by omega
  have p1 : (p : Int) < (n : Int) := by omega
  have p2 : (p : Int) ≤ (lc : Int) := by omega
  have hp1 : p + 1 ≤ n := by omega
  have p3 : IntKind.i64.wrap ((p : Int) + 1) = ((p + 1 : Nat) : Int) := by rw [IntKind.wrap_i64]; omega
  obtain ⟨b, o, rfl, _, _, _⟩ := hL.at Le.vals_length p x hx
  clear hp
  go_enter Tryz.func45, Tryz.ntmps45
  go_upto_region 1 with (go_big_may; refine alloc_zero zeroLe rfl rfl ?_)
  try simp only [Act.put]
  generalize w.alloc (Obj.cells Le.zero.arr 97) = W9 at a9 hB ⊢
  go_wp2_with fail
  refine (pF W9 (hL.below hB)).mono ?_
  rintro r w1 ⟨rfl, hb⟩
  replace a9 := a9.below hb
  replace hB := below_next hB hb
  clear hb pF
  simp only [Option.getD_some, Option.isSome_some]
  go_upto_region 4 with fail
  try simp only [Act.put]
  refine wp_region_held_drew (S := fun v => Below w.heap.size w v) (by kernel_rfl) (below_next hB (Below.refl _ _).drew) (fun hHeld => ?_)
  replace a9 := a9.drew
  replace hB := below_next hB (Below.refl _ _).drew
  refine tkQ 0 hHeld ?_
  try simp only [yy]
  refine tkQ 1 hHeld ?_
  try simp only [yy]
  refine tkQ 2 hHeld ?_
  try simp only [yy]
  refine tkQ 3 hHeld ?_
  try simp only [yy]
  refine tkQ 4 hHeld ?_
  try simp only [yy]
  refine tkQ 5 hHeld ?_
  try simp only [yy]
  refine wpAnyH_take (i := 6) (v := .slice (cutA (some ⟨b, o, none⟩) lc (p + 1) 4) (n - (p + 1)) (lc - (p + 1))) rfl (by kernel_rfl) (by kernel_rfl) (by kernel_rfl) (fun _ _ _ h => h) (yields_cut (by rfl) _ _ rfl Tryz.underlying27 rfl (fun w => by kernel_rfl) hp1 rfl rfl) hHeld ?_
  try simp only [yy]
  refine tkQ 9 hHeld ?_
  try simp only [yy]
  refine tkQ 10 hHeld ?_
  try simp only [yy]
  refine tkQ 11 hHeld ?_
  try simp only [yy]
  refine' tkH 12 (v := _) rfl (by kernel_rfl) (fun _ _ _ h => h) (yieldsIf_load_mid (by rfl) _ _ rfl b (o + p * 4) rfl x.vals _ ?hS11 Tryz.underlying97 rfl sizeLe) hHeld ?_
  case hS11 => exact fun w h => ((hL.below h).rng Le.vals_length p x hx)
  try simp only [yy]
  refine rd1 7 (fun K hK => ?_)
  rw [if_pos (by rfl)]
  refine wp_ls2 _ _ rfl rfl rfl ?_
  intro G W hG hbG _ _
  replace a9 := a9.below hbG
  replace hB := below_next hB hbG
  refine hK.out _ _ (below_next hHeld hbG) (fun hHeld => ?_)
  clear hK K hbG
  try simp only [yy]
  refine rd1 8 (fun K hK => ?_)
  go_simp
  go_wp2_with (refine (concat_ok (L.take p) (L.drop (p + 1)) (some ⟨b, o, none⟩) (cutA (some ⟨b, o, none⟩) lc (p + 1) 4) lc (lc - (p + 1)) G hcz W (hLt.below hHeld) (hLd.below hHeld) (by rw [l1.out, l2.out]; exact hG)).mono ?_; rintro r u8 ⟨⟨a, c, rfl, h0⟩, hb⟩)
  have hoff : w.heap.size ∉ blkOf a := fun hm => by
   have h1 := (h0.in _ hm).1
   have h2 := a9.lt
   omega
  replace a9 := a9.below hb
  replace hB := below_next hB hb
  replace h0 := h0.mono hHeld.size
  refine hK.out _ _ (below_next hHeld hb) (fun hHeld => ?_)
  clear hK K hb
  refine tkQ 13 hHeld ?_
  try simp only [yy]
  refine rd1 14 (fun K hK => ?_)
  rw [if_pos (by rfl)]
  refine wp_store_all 97 _ _ rfl (cells := x.arr) a9 rfl rfl sizeLe rfl x.arr_one ?_
  intro u9 hn9 hk
  replace h0 := h0.away hk hoff
  replace hB := below_at hB hk (Nat.le_refl _)
  refine hK.out _ _ (below_at hHeld hk (Nat.le_refl _)) (fun hHeld => ?_)
  clear hK K hk
  try simp only [yy]
  refine tkQ 15 hHeld ?_
  try simp only [yy]
  refine wpAnyH_done (by kernel_rfl) ?_ _
  go_wp2_with fail
  refine bodyPost_ret (w := u9) (v := .tuple #[.slice a (L.take p ++ L.drop (p + 1)).length c, .agg x.arr, .bool true]) (ret_tct rfl rfl hn9 Tryz.underlying97 rfl sizeLe (by simp) rfl) rfl ?_
  exact ⟨HT a c u9 h0, hB⟩
end Go.Proofs.YthgfpdidilolgaaGreat
