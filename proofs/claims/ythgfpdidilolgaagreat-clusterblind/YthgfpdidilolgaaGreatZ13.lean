/-
  Of the texts beneath these laws, in their order: PkEnc, FrDec, FrDer, FrLn, FrWi, FrLa, FrBk, PkRd.
  Each theorem says its own conditions.
-/
import Derived.Test.YthgfpdidilolgaaGreatZ11
import Derived.Test.YthgfpdidilolgaaGreatZ12
import Derived.Test.YthgfpdidilolgaaGreatZ08
import Derived.Lib.QuietBelow
import Derived.BigQuiet
import Derived.Test.YthgfpdidilolgaaGreatZ10
import Derived.Lib.SlBuf
import Derived.Laws.AppendOwn
namespace Go.Proofs.YthgfpdidilolgaaGreat.Eld
set_option maxRecDepth 10000
open Go.RowKit Go.Sort
abbrev ba (l : List UInt8) : ByteArray := ⟨l.toArray⟩
theorem ba_size (l : List UInt8) : (ba l).size = l.length := by show l.toArray.size = _; simp
theorem ba_data (l : List UInt8) : (ba l).data.toList = l := by simp
theorem ba_of (s : ByteArray) : s = ba s.data.toList := by cases s; simp
theorem ba_fr (F : Nat → En) : Fr.bytes F = ba (Fr.bytes F).data.toList := ba_of _
def Pk.sealed (p : Pk) : ByteArray := ba p.body ++ Crc.four (Crc.sum p.body)
theorem rawb_length (n : Nat → Nat) (t : Nat) (a b c : List UInt8) : (rawb n t a b c).length = 133 + a.length + b.length + c.length := by
 simp only [rawb, List.length_append, Pack.digits_length, idb_length, rown_length]; omega
theorem body_length (p : Pk) : p.body.length = 637 := by
 unfold Pk.body; rw [rawb_length, frb_length, frb_length, frb_length]
theorem sealed_size (p : Pk) : p.sealed.size = 641 := by
 unfold Pk.sealed; rw [ByteArray.size_append, ba_size, body_length]; rfl
set_option maxHeartbeats 1000000 in
theorem encode_pk (p : Pk) (hn : ∀ i, p.n i < 4294967296) (w : World) : Calls Tryz.prog 104 #[.agg (pkc p)] w fun e w' =>
  e = .returned (if p.may then .tuple #[.string p.sealed, .int .i64 0] else .tuple #[.string ⟨#[]⟩, .int .i64 52]) ∧ Below w.heap.size w w' := by
 have hck := fun w => check_pk p w
 obtain ⟨w0, hw0⟩ : ∃ w0, w.alloc (.cells (pkc p) 116) = w0 := ⟨_, rfl⟩
 have B0 : Blk w.heap.size (pkc p) 116 w0 := by rw [← hw0]; exact blk_new w _ _
 have b0 : Below w.heap.size w w0 := by rw [← hw0]; exact below_box _ _
 cases hm : p.may
 ·rw [hm] at hck
  go_enter Tryz.func104, Tryz.ntmps104
  go_wp2_with (refine load_blk rfl 116 _ rfl B0 rfl Tryz.underlying116 rfl (by rw [pkc_size]; exact size35) ?_)
  refine (hck _).mono ?_
  rintro r w1 ⟨rfl, hb1⟩
  go_wp2_with fail
  go_ret2
  exact ⟨rfl, b0.trans (hb1.mono b0.size)⟩
 ·rw [hm] at hck
  have hm2 := hm
  unfold Pk.may at hm2
  simp only [Bool.and_eq_true] at hm2
  have hlay := fun w => lay_pk p hm2.2.1 hm2.2.2.1 hm2.2.2.2 hn w
  have hseal : ∀ w, Calls Tryz.prog 141 #[.string ⟨p.body.toArray⟩] w fun e w' => e = .returned (.string p.sealed) ∧ Below w.heap.size w w' := by
   intro w
   have h := seal_any (ba p.body) w (by rw [ba_size, body_length]; omega)
   rw [ba_data] at h
   exact h
  generalize p.sealed = sl at hseal ⊢
  generalize (⟨p.body.toArray⟩ : ByteArray) = bd at hlay hseal
  clear hm hm2 hn
  go_enter Tryz.func104, Tryz.ntmps104
  go_wp2_with (refine load_blk rfl 116 _ rfl B0 rfl Tryz.underlying116 rfl (by rw [pkc_size]; exact size35) ?_)
  refine (hck _).mono ?_
  rintro r w1 ⟨rfl, hb1⟩
  have B1 := B0.below hb1
  have b1 := b0.trans (hb1.mono b0.size)
  clear hb1 B0 b0 hck hw0
  go_wp2_with (refine load_blk rfl 116 _ rfl B1 rfl Tryz.underlying116 rfl (by rw [pkc_size]; exact size35) ?_)
  refine (hlay _).mono ?_
  rintro r w2 ⟨rfl, hb2⟩
  have b2 := b1.trans (hb2.mono b1.size)
  clear hb2 B1 b1 hlay
  go_wp2_with fail
  refine (hseal _).mono ?_
  rintro r w3 ⟨rfl, hb3⟩
  go_wp2_with fail
  go_ret2
  exact ⟨rfl, b2.trans (hb3.mono b2.size)⟩
theorem row_get (n : Nat → Nat) (o m : Nat) (hm : m < 8) : (rowc n o)[m]? = some (.int .u32 (n (o + m) : Int)) := by
 obtain rfl | rfl | rfl | rfl | rfl | rfl | rfl | rfl : m = 0 ∨ m = 1 ∨ m = 2 ∨ m = 3 ∨ m = 4 ∨ m = 5 ∨ m = 6 ∨ m = 7 := by omega
 all_goals rfl
theorem rown_get (n : Nat → Nat) (o m : Nat) (hm : m < 8) : (rown n o)[m]? = some (n (o + m)) := by
 obtain rfl | rfl | rfl | rfl | rfl | rfl | rfl | rfl : m = 0 ∨ m = 1 ∨ m = 2 ∨ m = 3 ∨ m = 4 ∨ m = 5 ∨ m = 6 ∨ m = 7 := by omega
 all_goals rfl
end Go.Proofs.YthgfpdidilolgaaGreat.Eld
namespace Go.Proofs.YthgfpdidilolgaaGreat.Eld
set_option maxRecDepth 10000
open Go.RowKit Go.Sort
def part (s : ByteArray) (x : Nat) : ByteArray := s.extract (28 * x) (28 * x + 28)
def goodUp (D : Nat → Option En) : Bool := (List.range 6).all fun x => (D x).isSome
def soFar (D : Nat → Option En) (x : Nat) : Nat → En := fun y => if y < x then (D y).getD En.zero else En.zero
def Tells (fn : Nat) (s : ByteArray) (o : Option En) : Prop := ∀ w, Calls Tryz.prog fn #[.string s] w fun r w' =>
 r = .returned (.tuple #[.agg (o.getD En.zero).vals.toArray, .int .i64 (if o.isSome then 0 else 30)]) ∧ Below w.heap.size w w'
theorem goodUp_iff (D : Nat → Option En) : goodUp D = true ↔ ∀ x, x < 6 → (D x).isSome = true := by
 simp [goodUp]
theorem soFar_set (D : Nat → Option En) (x : Nat) (e : En) (h : D x = some e) : (fun y => if y = x then e else soFar D x y) = soFar D (x + 1) := by
 funext y
 unfold soFar
 by_cases h1 : y = x
 ·subst h1; simp [h]
 ·by_cases h2 : y < x
  ·have h3 : y < x + 1 := by omega
   simp [h1, h2, h3]
  ·have h3 : ¬ y < x + 1 := by omega
   simp [h1, h2, h3]
set_option maxHeartbeats 2000000 in
theorem frDecode_gen (s : ByteArray) (hs : s.size = 168) (D : Nat → Option En) (hD : ∀ x, x < 6 → Tells 224 (part s x) (D x)) (w : World) : Calls Tryz.prog 214 #[.string s] w fun r w' =>
  r = .returned (if goodUp D then .tuple #[.agg (frc (soFar D 6)), .int .i64 0] else .tuple #[.agg (frc zeroFr), .int .i64 30]) ∧ Below w.heap.size w w' := by
 obtain ⟨c, hc⟩ : ∃ c : Value, Hid ((if goodUp D then .tuple #[.agg (frc (soFar D 6)), .int .i64 0] else .tuple #[.agg (frc zeroFr), .int .i64 30]) = c) := ⟨_, rfl⟩
 rw [hc.out]
 have hlen : ((s.size : Int) == 168) = true := by rw [hs]; rfl
 go_enter Tryz.func214, Tryz.ntmps214
 go_wp2_with (refine alloc_fr rfl rfl ?_)
 go_loopw [0, 13] (fun t i w' => ∃ m : Nat, m ≤ 3 ∧ i = .int .i64 m ∧ Below w.heap.size w w' ∧ Blk w.heap.size (frc zeroFr) 43 w' ∧ Blk (w.heap.size + 1) (frc (soFar D (2 * m))) 43 w' ∧ Hid (∀ x, x < 2 * m → (D x).isSome = true) ∧ ∃ b : ByteArray, t = .string b ∧ Hid (b = s.extract (56 * m) s.size)) (fun _ i _ => 3 - (intOf i).toNat)
 case atStart =>
  have z1 : (w.alloc (.cells (frc zeroFr) 43)).heap.size = w.heap.size + 1 := by simp
  refine ⟨0, by omega, rfl, (below_box w _).alloc (by simp) _, (blk_new w (frc zeroFr) 43).alloc _, ?_, fun x hx => by omega, s, rfl, ?_⟩
  ·rw [← z1]; exact blk_new (w.alloc (.cells (frc zeroFr) 43)) (frc zeroFr) 43
  ·unfold Hid; simp
 case round =>
  obtain ⟨m, hm, rfl, hb, hR, hF, hall, b, rfl, hbe⟩ := hrel
  by_cases hlt : m < 3
  ·have d1 : (m : Int) < 3 := by omega
   go_wp2_with fail
   go_loopw [0, 16] (fun t i w' => ∃ j : Nat, j ≤ 2 ∧ i = .int .i64 j ∧ Below w.heap.size w w' ∧ Blk w.heap.size (frc zeroFr) 43 w' ∧ Blk (w.heap.size + 1) (frc (soFar D (2 * m + j))) 43 w' ∧ Hid (∀ x, x < 2 * m + j → (D x).isSome = true) ∧ ∃ b : ByteArray, t = .string b ∧ Hid (b = s.extract (56 * m + 28 * j) s.size)) (fun _ i _ => 2 - (intOf i).toNat)
   case atStart => exact ⟨0, by omega, rfl, hb, hR, hF, hall, b, rfl, hbe⟩
   case round =>
    clear hb hR hF hall hbe
    obtain ⟨j, hj, rfl, hb, hR, hF, hall, b, rfl, hbe⟩ := hrel
    by_cases hjl : j < 2
    ·have d2 : (j : Int) < 2 := by omega
     have hbz : b.size = 168 - (56 * m + 28 * j) := by rw [hbe.out, ByteArray.size_extract, hs]; omega
     have hge : 28 ≤ b.size := by omega
     have hT := hD (2 * m + j) (by omega)
     have hpt : b.extract 0 28 = part s (2 * m + j) := by
      rw [hbe.out, ByteArray.extract_extract, part]
      congr 1 <;> omega
     rw [← hpt] at hT
     have hnx : Hid (b.extract 28 b.size = s.extract (56 * m + 28 * (j + 1)) s.size) := by
      unfold Hid
      rw [hbz, hbe.out, ByteArray.extract_extract]
      congr 1 <;> omega
     clear hpt hbe hbz
     go_wp2_with fail
     refine (hT _).mono ?_
     clear hT
     rintro r w2 ⟨rfl, hb2⟩
     have hR2 := (hR.below hb2)
     have hF2 := (hF.below hb2)
     have hb3 := hb.trans (hb2.mono hb.size)
     clear hb hb2 hR hF
     cases hd : D (2 * m + j) with
     | none =>
      have hno : goodUp D = false := by
       cases hg : goodUp D
       ·rfl
       ·have := (goodUp_iff D).1 hg (2 * m + j) (by omega)
        rw [hd] at this
        cases this
      have hs6 : En.zero.vals.toArray.size = 6 := rfl
      have hR3 := hR2.alloc (.cells En.zero.vals.toArray 40)
      have hb4 := hb3.alloc hb3.size (.cells En.zero.vals.toArray 40)
      have vz : ((none : Option En).getD En.zero) = En.zero := rfl
      have iz : (none : Option En).isSome = false := rfl
      rw [vz, iz]
      clear hd
      go_wp2_with (first | refine build_fr rfl rfl ?_ | refine store_new rfl 40 _ _ rfl rfl rfl (by rw [hs6]; exact size24) (by rw [hs6]; rfl) En.zero.one ?_ | refine store_blk rfl 43 _ _ rfl hR3 rfl rfl (by rw [frc_size]; exact size27) rfl (frc_one zeroFr) ?_)
      refine bodyPost_ret (ret_fr Tryz.results214 rfl (hR3.setRow (frc zeroFr)) (frc_size _) rfl) rfl ⟨?_, below_setRow hb4 (Nat.le_refl _) _⟩
      rw [← hc.out, hno]; rfl
     | some e =>
      have hs6 : e.vals.toArray.size = 6 := rfl
      have vz : (some e : Option En).getD En.zero = e := rfl
      have iz : (some e : Option En).isSome = true := rfl
      rw [vz, iz]
      clear vz iz
      go_wp2_with (first | refine store_new rfl 40 _ _ rfl rfl rfl (by rw [hs6]; exact size24) (by rw [hs6]; rfl) e.one ?_)
      have hR3 := hR2.alloc (.cells e.vals.toArray 40)
      have hF3 := hF2.alloc (.cells e.vals.toArray 40)
      have hb4 := hb3.alloc hb3.size (.cells e.vals.toArray 40)
      have hE := (blk_new w2 e.vals.toArray 40).at6 0 e rfl
      have hO := hF3.at6 (m * 12 + j * 6) En.zero (by
       have h := frc_part (soFar D (2 * m + j)) (2 * m + j) (m * 12 + j * 6) (by omega) (by omega)
       have hz : soFar D (2 * m + j) (2 * m + j) = En.zero := by simp [soFar]
       rw [hz] at h; exact h)
      have hP := hF3.free6 (m * 12 + j * 6)
      have n1 : (0 : Int) ≤ (m : Int) := by omega
      have n2 : (0 : Int) ≤ (j : Int) := by omega
      obtain ⟨k, sv, g, se, n, t⟩ := e
      obtain ⟨p0, p1, p2, p3, p4, p5⟩ := hE
      obtain ⟨q0, q1, q2, q3, q4, q5⟩ := hO
      obtain ⟨f0, f1, f2, f3, f4, f5⟩ := hP
      go_region
      all_goals go_wp2_with fail
      have vs : ∀ W : World, W.setCells (w.heap.size + 1) (m * 12 + j * 6) (En.vals ⟨k, sv, g, se, n, t⟩) = (((((W.setCell ⟨w.heap.size + 1, m * 12 + j * 6, none⟩ (.int .i64 k)).setCell ⟨w.heap.size + 1, m * 12 + j * 6 + 1, none⟩ (.int .i64 sv)).setCell ⟨w.heap.size + 1, m * 12 + j * 6 + 2, none⟩ (.int .i64 g)).setCell ⟨w.heap.size + 1, m * 12 + j * 6 + 3, none⟩ (.int .u64 se)).setCell ⟨w.heap.size + 1, m * 12 + j * 6 + 4, none⟩ (.int .u64 n)).setCell ⟨w.heap.size + 1, m * 12 + j * 6 + 5, none⟩ (.string t) := fun _ => rfl
      rw [← vs]
      have b5 := (below_cells (Nat.le_succ _) (En.vals ⟨k, sv, g, se, n, t⟩) (m * 12 + j * 6) hb4).drew
      have r5 := (hR3.setCells_other (Nat.ne_of_lt (Nat.lt_succ_self _)) (En.vals ⟨k, sv, g, se, n, t⟩) (m * 12 + j * 6)).drew
      have f5 := (hF3.setCells (En.vals ⟨k, sv, g, se, n, t⟩) (m * 12 + j * 6)).drew
      rw [frc_put (soFar D (2 * m + j)) ⟨k, sv, g, se, n, t⟩ (2 * m + j) (m * 12 + j * 6) (by omega) (by omega), soFar_set D (2 * m + j) _ hd] at f5
      generalize (World.setCells _ _ _ _).drew = W5 at b5 r5 f5 ⊢
      refine ⟨⟨j + 1, by omega, by go_num, b5, r5, f5, fun x hx => ?_, _, rfl, hnx⟩, by simp [intOf]; omega⟩
      ·rcases Nat.lt_or_ge x (2 * m + j) with h | h
       ·exact hall.out x h
       ·obtain rfl : x = 2 * m + j := by omega
        rw [hd]; rfl
    ·obtain rfl : j = 2 := by omega
     go_wp2_with fail
     refine ⟨⟨m + 1, by omega, by go_num, hb, hR, hF, hall, b, rfl, hbe⟩, by simp [intOf]; omega⟩
  ·obtain rfl : m = 3 := by omega
   have hyes : goodUp D = true := (goodUp_iff D).2 fun x hx => hall.out x (by omega)
   go_wp2_with (first | refine load_blk rfl 43 _ rfl hF rfl Tryz.underlying43 rfl (by rw [frc_size]; exact size27) ?_ | refine store_blk rfl 43 _ _ rfl hR rfl rfl (by rw [frc_size]; exact size27) (by rw [frc_size, frc_size]) (frc_one _) ?_)
   refine bodyPost_ret (ret_fr Tryz.results214 rfl (hR.setRow (frc (soFar D 6))) (frc_size _) rfl) rfl ⟨?_, below_setRow hb (Nat.le_refl _) _⟩
   rw [← hc.out, hyes]; rfl
end Go.Proofs.YthgfpdidilolgaaGreat.Eld
namespace Go.Proofs.YthgfpdidilolgaaGreat.Eld
set_option maxRecDepth 10000
open Go.RowKit Go.Sort
end Go.Proofs.YthgfpdidilolgaaGreat.Eld
namespace Go.Proofs.YthgfpdidilolgaaGreat.Eld
set_option maxRecDepth 10000
open Go.RowKit Go.Sort
theorem frc_congr {F G : Nat → En} (h : ∀ y, y < 6 → F y = G y) : frc F = frc G := by
 unfold frc Fr.list
 rw [h 0 (by omega), h 1 (by omega), h 2 (by omega), h 3 (by omega), h 4 (by omega), h 5 (by omega)]
end Go.Proofs.YthgfpdidilolgaaGreat.Eld
namespace Go.Proofs.YthgfpdidilolgaaGreat.Eld
set_option maxRecDepth 10000
open Go.RowKit Go.Sort
end Go.Proofs.YthgfpdidilolgaaGreat.Eld
namespace Go.Proofs.YthgfpdidilolgaaGreat.Eld
set_option maxRecDepth 10000
open Go.RowKit Go.Sort
end Go.Proofs.YthgfpdidilolgaaGreat.Eld
namespace Go.Proofs.YthgfpdidilolgaaGreat.Eld
set_option maxRecDepth 10000
open Go.RowKit Go.Sort
theorem part_bytes (F : Nat → En) (x : Nat) (hx : x < 6) : part (Fr.bytes F) x = (F x).bytes := by
 have hu : ∀ m, (Fr.upto F (m + 1)) = Fr.upto F m ++ (F m).bytes.data.toList := fun _ => rfl
 have hl := Fr.upto_length F
 have hz : ∀ m, (F m).bytes.data.toList.length = 28 := fun m => by rw [Array.length_toList]; exact (F m).bytes_size
 have key : ((Fr.upto F 6).drop (28 * x)).take 28 = (F x).bytes.data.toList := by
  have ht : ∀ k, (Fr.upto F (x + 1 + k)).take (28 * x + 28) = Fr.upto F (x + 1) := by
   intro k
   induction k with
   | zero => rw [Nat.add_zero, List.take_of_length_le (by rw [hl]; omega)]
   | succ k ih =>
    show (Fr.upto F (x + 1 + k + 1)).take _ = _
    rw [hu, List.take_append_of_le_length (by rw [hl]; omega), ih]
  have h6 := ht (5 - x)
  rw [show x + 1 + (5 - x) = 6 by omega] at h6
  have e : ((Fr.upto F 6).drop (28 * x)).take 28 = ((Fr.upto F 6).take (28 * x + 28)).drop (28 * x) := by
   rw [List.drop_take]; congr 1; omega
  rw [e, h6, hu, List.drop_append_of_le_length (by rw [hl]; omega), List.drop_of_length_le (by rw [hl]; omega), List.nil_append]
 apply ByteArray.ext
 apply Array.toList_inj.1
 rw [← key]
 unfold part
 rw [ByteArray.data_extract, Array.toList_extract]
 show ((Fr.upto F 6).toArray.toList).extract _ _ = _
 simp [List.extract, Nat.add_sub_cancel_left]
theorem enDecode_back (e : En) (hm : e.may = true) : Tells 224 e.bytes (some e) := by
 intro w
 obtain ⟨a, b, c, ha, hb, hc, h1, h2, h3, h4, h5, h6, hbs⟩ := En.may_fit hm
 have h := decode_back a b c e.se e.n e.t (by rw [← ha, ← hb, ← hc]; exact hm) h1 h2 h3 h4 h5 h6 w
 rw [← hbs, ← ha, ← hb, ← hc] at h
 exact h
theorem soFar_all (F : Nat → En) : frc (soFar (fun x => some (F x)) 6) = frc F := by
 apply frc_congr
 intro y hy
 simp [soFar, hy]
theorem decode_bytes (F : Nat → En) (hm : Fr.may F = true) (w : World) : Calls Tryz.prog 214 #[.string (Fr.bytes F)] w fun r w' => r = .returned (.tuple #[.agg (frc F), .int .i64 0]) ∧ Below w.heap.size w w' := by
 have h := frDecode_gen (Fr.bytes F) (Fr.bytes_size F) (fun x => some (F x)) (fun x hx => by rw [part_bytes F x hx]; exact enDecode_back (F x) ((Fr.may_all F).1 hm x hx)) w
 have hg : goodUp (fun x => some (F x)) = true := (goodUp_iff _).2 fun _ _ => rfl
 rw [hg, if_pos rfl, soFar_all] at h
 exact h
end Go.Proofs.YthgfpdidilolgaaGreat.Eld
namespace Go.Proofs.YthgfpdidilolgaaGreat.Eld
set_option maxRecDepth 10000
open Go.RowKit Go.Sort
def Rd (b : Nat) (l : List UInt8) (sp : Bool) (w : World) : Prop := Blk b #[.string (ba l), .bool sp] 234 w
theorem Rd.but {A b : Nat} {l : List UInt8} {sp : Bool} {w w' : World} (h : Rd A l sp w) (hb : But b w w') (hne : A ≠ b) : Rd A l sp w' := Blk.but h hb hne
theorem Rd.below {A : Nat} {l : List UInt8} {sp : Bool} {w w' : World} (h : Rd A l sp w) (hb : Below w.heap.size w w') : Rd A l sp w' := Blk.below h hb
theorem Rd.lt {A : Nat} {l : List UInt8} {sp : Bool} {w : World} (h : Rd A l sp w) : A < w.heap.size := Blk.lt h
theorem But.new {b V : Nat} {u w w' : World} (h : But b u w) (k : But V w w') (hV : u.heap.size ≤ V) : But b u w' :=
 ⟨k.os.trans h.os, k.tape.trans h.tape, k.output.trans h.output, Nat.le_trans h.size k.size, fun i hi hb => (k.block i (Nat.lt_of_lt_of_le hi h.size) (by omega)).trans (h.block i hi hb)⟩
theorem blk_set {B : Nat} {C : Array Value} {T : TypeId} {w : World} (h : Blk B C T w) (o : Nat) (v : Value) : Blk B (C.setIfInBounds o v) T (w.setCell ⟨B, o, none⟩ v) := heap_setCell_same w B o C T v h
theorem ba_front (F R : List UInt8) (k : Nat) (hk : F.length = k) : (ba (F ++ R)).extract 0 k = ba F := by
 apply ByteArray.ext
 apply Array.toList_inj.1
 rw [ByteArray.data_extract, Array.toList_extract]
 simp [List.extract, ← hk]
theorem ba_back (F R : List UInt8) (k : Nat) (hk : F.length = k) : (ba (F ++ R)).extract k (ba (F ++ R)).size = ba R := by
 apply ByteArray.ext
 apply Array.toList_inj.1
 rw [ByteArray.data_extract, Array.toList_extract, ba_size, List.length_append]
 simp [List.extract, ← hk]
set_option maxHeartbeats 1000000 in
theorem cut_ok (b k : Nat) (F R : List UInt8) (sp : Bool) (hk : F.length = k) (hl : F.length + R.length ≤ 1000) (w : World) (h : Rd b (F ++ R) sp w) :
  Calls Tryz.prog 213 #[.pointer (some ⟨b, 0, none⟩), .int .i64 (k : Int)] w fun e w' => e = .returned (.string (ba F)) ∧ Rd b R sp w' ∧ But b w w' := by
 have e1 := ba_front F R k hk
 have e2 := ba_back F R k hk
 have hz : k ≤ (ba (F ++ R)).size := by rw [ba_size, List.length_append]; omega
 have hz2 : (ba (F ++ R)).size ≤ 1000 := by rw [ba_size, List.length_append]; omega
 have hB : Blk b #[.string (ba (F ++ R)), .bool sp] 234 w := h
 generalize ba (F ++ R) = s at e1 e2 hz hz2 hB
 have hc := hB.cell 0 (.string s) rfl
 have hf := hB.free 0
 obtain ⟨W, hW⟩ : ∃ W, w.setCell ⟨b, 0, none⟩ (.string (ba R)) = W := ⟨_, rfl⟩
 have hB2 : Rd b R sp W := by rw [← hW]; exact blk_set hB 0 _
 have hbut : But b w W := by rw [← hW]; exact But.setCell b 0 w _
 clear hB h hk hl
 go_enter Tryz.func213, Tryz.ntmps213
 go_wp2_with fail
 go_ret
 exact ⟨rfl, hB2, hbut⟩
theorem val_self (k n : Nat) (hn : n < 256 ^ k) : Pack.val ((Pack.digits k n).take k) = n := by
 rw [List.take_of_length_le (by rw [Pack.digits_length]; exact Nat.le_refl _), Pack.val_digits, Nat.mod_eq_of_lt hn]
set_option maxHeartbeats 1000000 in
theorem number_rd (b k n : Nat) (R : List UInt8) (sp : Bool) (h1 : 1 ≤ k) (h4 : k ≤ 4) (hn : n < 256 ^ k) (hl : R.length ≤ 900) (w : World) (h : Rd b (Pack.digits k n ++ R) sp w) :
  Calls Tryz.prog 184 #[.pointer (some ⟨b, 0, none⟩), .int .i64 (k : Int)] w fun e w' => e = .returned (.int .u32 (n : Int)) ∧ Rd b R sp w' ∧ But b w w' := by
 have hcut := cut_ok b k (Pack.digits k n) R sp (Pack.digits_length k n) (by rw [Pack.digits_length]; omega) w h
 have htake := fun w => take_ok (ba (Pack.digits k n)) (by rw [ba_size, Pack.digits_length]; omega) k h1 (by omega) (by rw [ba_size, Pack.digits_length]; exact Nat.le_refl _) w
 rw [ba_data, val_self k n hn] at htake
 have hlt : n < 4294967296 := by
  have := Nat.pow_le_pow_right (n := 256) (by decide) h4
  omega
 generalize (ba (Pack.digits k n)).extract k (ba (Pack.digits k n)).size = rest at htake
 generalize ba (Pack.digits k n) = dg at hcut htake
 clear hn h hl h1 h4
 go_enter Tryz.func184, Tryz.ntmps184
 go_wp2_with fail
 refine hcut.mono ?_
 rintro e w1 ⟨rfl, hR1, hb1⟩
 go_wp2_with fail
 refine (htake _).mono ?_
 rintro e w2 ⟨rfl, hb2⟩
 have hR2 := hR1.below hb2
 have hb3 := hb1.trans (But.of_below hb2)
 clear hR1 hb1 hb2 hcut htake
 go_wp2_with fail
 go_ret
 exact ⟨rfl, hR2, hb3⟩
theorem number1_rd (b n : Nat) (R : List UInt8) (sp : Bool) (hn : n < 256) (hl : R.length ≤ 900) (w : World) (h : Rd b (Pack.digits 1 n ++ R) sp w) :
  Calls Tryz.prog 184 #[.pointer (some ⟨b, 0, none⟩), .int .i64 1] w fun e w' => e = .returned (.int .u32 (n : Int)) ∧ Rd b R sp w' ∧ But b w w' :=
 number_rd b 1 n R sp (by decide) (by decide) (by omega) hl w h
theorem number4_rd (b n : Nat) (R : List UInt8) (sp : Bool) (hn : n < 4294967296) (hl : R.length ≤ 900) (w : World) (h : Rd b (Pack.digits 4 n ++ R) sp w) :
  Calls Tryz.prog 184 #[.pointer (some ⟨b, 0, none⟩), .int .i64 4] w fun e w' => e = .returned (.int .u32 (n : Int)) ∧ Rd b R sp w' ∧ But b w w' :=
 number_rd b 4 n R sp (by decide) (by decide) (by omega) hl w h
theorem ret_cells {fn : Func} {p : Tmp} {ty : TypeId} {d : TypeDesc} (hr : fn.results = #[.cell p ty]) {tmps : Array Value} {w : World} {B : Nat} {C : Array Value} {T : TypeId} (hp : tmps.getD p undef = .pointer (some ⟨B, 0, none⟩)) (hB : Blk B C T w) (hu : Tryz.prog.underlying ty = some d) (hd : d.isRow = true) (hi : (Tryz.prog.info? ty).map (·.size) = some C.size) :
  (results fn tmps).run Tryz.prog w = .ok (.agg C) w :=
 results_cell_row hr tmps w B T C (0, 0) d hp hB hu (by cases d <;> first | rfl | exact hd) hi
theorem idc_one (x y z : Nat) : (idc x y z).all (·.oneCell') = true := by simp [idc, idl, Value.oneCell']
theorem idc_size (x y z : Nat) : (idc x y z).size = 3 := rfl
theorem rowc_size (n : Nat → Nat) (o : Nat) : (rowc n o).size = 8 := rfl
theorem rowc_one (n : Nat → Nat) (o : Nat) : (rowc n o).all (·.oneCell') = true := by simp [rowc, rowl, Value.oneCell']
theorem id_zero : (Tryz.prog.info? 51).map (fun i => (i.zero, i.size)) = some (some (.agg (idc 0 0 0)), 3) := by kernel_rfl
theorem row_zero : (Tryz.prog.info? 54).map (fun i => (i.zero, i.size)) = some (some (.agg (rowc (fun _ => 0) 0)), 8) := by kernel_rfl
theorem alloc_id {ops : Array Oper} {rest : List Oper} {o : Oper} {a : Act} {w : World} {Q : Exit → Act → World → Prop} (hgd : o.guard = none) (ho : o.op = .alloc 51)
  (h : wpList Tryz.prog ops Q rest (a.put o.dst (.pointer (some ⟨w.heap.size, 0, none⟩))) (w.alloc (.cells (idc 0 0 0) 51))) : wpList Tryz.prog ops Q (o :: rest) a w :=
 wpList_plain hgd fun _ hK => by
  have hz := (zero_of_info id_zero).1
  have hk := hK _ _ h
  unfold Oper.wp execOp
  simp only [ho, Instr.alloc, Sem.run_bind, hz, Result.andThen_ok]
  exact hk
theorem alloc_row {ops : Array Oper} {rest : List Oper} {o : Oper} {a : Act} {w : World} {Q : Exit → Act → World → Prop} (hgd : o.guard = none) (ho : o.op = .alloc 54)
  (h : wpList Tryz.prog ops Q rest (a.put o.dst (.pointer (some ⟨w.heap.size, 0, none⟩))) (w.alloc (.cells (rowc (fun _ => 0) 0) 54))) : wpList Tryz.prog ops Q (o :: rest) a w :=
 wpList_plain hgd fun _ hK => by
  have hz := (zero_of_info row_zero).1
  have hk := hK _ _ h
  unfold Oper.wp execOp
  simp only [ho, Instr.alloc, Sem.run_bind, hz, Result.andThen_ok]
  exact hk
set_option maxHeartbeats 2000000 in
theorem id_rd (b x y z : Nat) (R : List UInt8) (sp : Bool) (hx : x < 4294967296) (hy : y < 256) (hz : z < 4294967296) (hl : R.length ≤ 800) (w : World) (h : Rd b (idb x y z ++ R) sp w) :
  Calls Tryz.prog 185 #[.pointer (some ⟨b, 0, none⟩)] w fun e w' => e = .returned (.agg (idc x y z)) ∧ Rd b R sp w' ∧ But b w w' := by
 have hlt := h.lt
 obtain ⟨V, hV⟩ : ∃ V, V = w.heap.size + 1 := ⟨_, rfl⟩
 obtain ⟨w0, hw0⟩ : ∃ w0, (w.alloc (.cells (idc 0 0 0) 51)).alloc (.cells (idc 0 0 0) 51) = w0 := ⟨_, rfl⟩
 have A0 : Blk w.heap.size (idc 0 0 0) 51 w0 := by rw [← hw0]; exact (blk_new w _ _).alloc _
 have V0 : Blk V (idc 0 0 0) 51 w0 := by
  have h := blk_new (w.alloc (.cells (idc 0 0 0) 51)) (idc 0 0 0) 51
  have hz : (w.alloc (.cells (idc 0 0 0) 51)).heap.size = w.heap.size + 1 := by simp
  rw [hz, hw0, ← hV] at h; exact h
 have u0 : But b w w0 := by rw [← hw0]; exact (But.alloc b w _).trans (But.alloc b _ _)
 have R0 : Rd b (Pack.digits 4 x ++ (Pack.digits 1 y ++ (Pack.digits 4 z ++ R))) sp w0 := by
  have h2 : Rd b (idb x y z ++ R) sp w0 := by rw [← hw0]; exact (Blk.alloc (Blk.alloc h _) _)
  simpa [idb] using h2
 have hn1 : w.heap.size ≠ V := by omega
 have hn2 : V ≠ b := by omega
 have hn3 : w.heap.size ≠ b := by omega
 have KV : Hid (V = w.heap.size + 1) := hV
 have kx : Hid (x < 4294967296) := hx
 have ky : Hid (y < 256) := hy
 have kz : Hid (z < 4294967296) := hz
 have kl : Hid (R.length ≤ 800) := hl
 have hzz : (w.alloc (.cells (idc 0 0 0) 51)).heap.size = V := by rw [hV]; simp
 have hz2 : w.heap.size + 1 = V := hV.symm
 clear hV hx hy hz hl h hlt
 go_enter Tryz.func185, Tryz.ntmps185
 go_wp2_with (refine alloc_id rfl rfl ?_)
 refine (number4_rd b x _ sp kx.out (by simp only [List.length_append, Pack.digits_length]; have := kl.out; omega) _ R0).mono ?_
 rintro e w1 ⟨rfl, R1, u1⟩
 have A1 := A0.but u1 hn3
 have V1 := V0.but u1 hn2
 have c1 := V1.cell 0 (.int .u32 ((0 : Nat) : Int)) rfl
 have f1 := V1.free 0
 obtain ⟨W1, e1⟩ : ∃ W, w1.setCell ⟨V, 0, none⟩ (.int .u32 (x : Int)) = W := ⟨_, rfl⟩
 have V1' : Blk V (idc x 0 0) 51 W1 := by rw [← e1]; exact blk_set V1 0 _
 have t1 : But V w1 W1 := by rw [← e1]; exact But.setCell V 0 w1 _
 have A1' := A1.but t1 hn1
 have R1' := R1.but t1 hn2.symm
 have u1' := (u0.trans u1).new t1 (by have := KV.out; omega)
 clear A0 A1 V0 V1 R0 R1 u0 u1 t1 hw0
 go_wp2_with fail
 refine (number1_rd b y _ sp ky.out (by simp only [List.length_append, Pack.digits_length]; have := kl.out; omega) _ R1').mono ?_
 rintro e w2 ⟨rfl, R2, u2⟩
 clear c1 f1 e1
 have A2 := A1'.but u2 hn3
 have V2 := V1'.but u2 hn2
 have c2 := V2.cell 1 (.int .u32 ((0 : Nat) : Int)) rfl
 have f2 := V2.free 1
 obtain ⟨W2, e2⟩ : ∃ W, w2.setCell ⟨V, 1, none⟩ (.int .u32 (y : Int)) = W := ⟨_, rfl⟩
 have V2' : Blk V (idc x y 0) 51 W2 := by rw [← e2]; exact blk_set V2 1 _
 have t2 : But V w2 W2 := by rw [← e2]; exact But.setCell V 1 w2 _
 have A2' := A2.but t2 hn1
 have R2' := R2.but t2 hn2.symm
 have u2' := (u1'.trans u2).new t2 (by have := KV.out; omega)
 clear A1' A2 V1' V2 R1' R2 u1' u2 t2
 go_wp2_with fail
 refine (number4_rd b z _ sp kz.out (by have := kl.out; omega) _ R2').mono ?_
 rintro e w3 ⟨rfl, R3, u3⟩
 clear c2 f2 e2
 have A3 := A2'.but u3 hn3
 have V3 := V2'.but u3 hn2
 have c3 := V3.cell 2 (.int .u32 ((0 : Nat) : Int)) rfl
 have f3 := V3.free 2
 obtain ⟨W3, e3⟩ : ∃ W, w3.setCell ⟨V, 2, none⟩ (.int .u32 (z : Int)) = W := ⟨_, rfl⟩
 have V3' : Blk V (idc x y z) 51 W3 := by rw [← e3]; exact blk_set V3 2 _
 have t3 : But V w3 W3 := by rw [← e3]; exact But.setCell V 2 w3 _
 have A3' := A3.but t3 hn1
 have R3' := R3.but t3 hn2.symm
 have u3' := (u2'.trans u3).new t3 (by have := KV.out; omega)
 clear A2' A3 V2' V3 R2' R3 u2' u3 t3
 go_wp2_with (first | refine load_blk rfl 51 _ rfl V3' rfl Tryz.underlying51 rfl (by rw [idc_size]; exact sizeId) ?_ | (refine store_part (off := 0) rfl 51 _ _ rfl A3' rfl rfl (by rw [idc_size]; exact sizeId) (by rw [idc_size, idc_size]; omega) (idc_one _ _ _) ?_; intro W4 A4 u4))
 refine bodyPost_ret (ret_cells Tryz.results185 rfl A4 Tryz.underlying51 rfl (by rw [putAt_size, idc_size]; exact sizeId)) rfl ⟨rfl, R3'.but u4 hn3.symm, u3'.new u4 (Nat.le_refl _)⟩
def upto (g : Nat → Nat) (m : Nat) (i : Nat) : Nat := if i < m then g i else 0
theorem upto_set (g : Nat → Nat) (m : Nat) (hm : m < 8) : (rowc (upto g m) 0).setIfInBounds m (.int .u32 (g m : Int)) = rowc (upto g (m + 1)) 0 := by
 obtain rfl | rfl | rfl | rfl | rfl | rfl | rfl | rfl : m = 0 ∨ m = 1 ∨ m = 2 ∨ m = 3 ∨ m = 4 ∨ m = 5 ∨ m = 6 ∨ m = 7 := by omega
 all_goals kernel_rfl
theorem upto_all (n : Nat → Nat) (o : Nat) : rowc (upto (fun i => n (o + i)) 8) 0 = rowc n o := by kernel_rfl
theorem upto_none (g : Nat → Nat) : rowc (fun _ => 0) 0 = rowc (upto g 0) 0 := by kernel_rfl
theorem rown_drop (n : Nat → Nat) (o m : Nat) (hm : m < 8) : nums 4 ((rown n o).drop m) = Pack.digits 4 (n (o + m)) ++ nums 4 ((rown n o).drop (m + 1)) := by
 have hl : (rown n o).length = 8 := rfl
 have h : m < (rown n o).length := by omega
 rw [List.drop_eq_getElem_cons h]
 have := rown_get n o m hm
 rw [List.getElem?_eq_getElem h] at this
 rw [Option.some.inj this]
 rfl
set_option maxHeartbeats 2000000 in
theorem row_rd (b o : Nat) (n : Nat → Nat) (R : List UInt8) (sp : Bool) (hn : ∀ i, n i < 4294967296) (hl : R.length ≤ 800) (w : World) (h : Rd b (nums 4 (rown n o) ++ R) sp w) :
  Calls Tryz.prog 186 #[.pointer (some ⟨b, 0, none⟩)] w fun e w' => e = .returned (.agg (rowc n o)) ∧ Rd b R sp w' ∧ But b w w' := by
 obtain ⟨g, hg⟩ : ∃ g : Nat → Nat, g = fun i => n (o + i) := ⟨_, rfl⟩
 have hlt := h.lt
 obtain ⟨V, hV⟩ : ∃ V, V = w.heap.size + 1 := ⟨_, rfl⟩
 obtain ⟨w0, hw0⟩ : ∃ w0, (w.alloc (.cells (rowc (fun _ => 0) 0) 54)).alloc (.cells (rowc (fun _ => 0) 0) 54) = w0 := ⟨_, rfl⟩
 have A0 : Blk w.heap.size (rowc (fun _ => 0) 0) 54 w0 := by rw [← hw0]; exact (blk_new w _ _).alloc _
 have V0 : Blk V (rowc (upto g 0) 0) 54 w0 := by
  have h := blk_new (w.alloc (.cells (rowc (fun _ => 0) 0) 54)) (rowc (fun _ => 0) 0) 54
  have hz : (w.alloc (.cells (rowc (fun _ => 0) 0) 54)).heap.size = w.heap.size + 1 := by simp
  rw [hz, hw0, ← hV] at h; rw [← upto_none]; exact h
 have u0 : But b w w0 := by rw [← hw0]; exact (But.alloc b w _).trans (But.alloc b _ _)
 have R0 : Rd b (nums 4 ((rown n o).drop 0) ++ R) sp w0 := by
  rw [← hw0]; exact (Blk.alloc (Blk.alloc h _) _)
 have hn1 : w.heap.size ≠ V := by omega
 have hn2 : V ≠ b := by omega
 have hn3 : w.heap.size ≠ b := by omega
 have KV : Hid (V = w.heap.size + 1) := hV
 have kn : Hid (∀ i, n i < 4294967296) := hn
 have kl : Hid (R.length ≤ 800) := hl
 have kg : Hid (g = fun i => n (o + i)) := hg
 have hzz : (w.alloc (.cells (rowc (fun _ => 0) 0) 54)).heap.size = V := by rw [hV]; simp
 have hz2 : w.heap.size + 1 = V := hV.symm
 clear hV hn hl h hlt hg
 go_enter Tryz.func186, Tryz.ntmps186
 go_wp2_with (refine alloc_row rfl rfl ?_)
 go_loopw [5] (fun i w' => ∃ m : Nat, m ≤ 8 ∧ i = .int .i64 m ∧ But b w w' ∧ Blk w.heap.size (rowc (fun _ => 0) 0) 54 w' ∧ Blk V (rowc (upto g m) 0) 54 w' ∧ Rd b (nums 4 ((rown n o).drop m) ++ R) sp w') (fun i _ => 8 - (intOf i).toNat)
 case atStart => exact ⟨0, by omega, rfl, u0, A0, V0, R0⟩
 case round =>
  clear u0 A0 V0 R0 hw0
  obtain ⟨m, hm, rfl, u0, A0, V0, R0⟩ := hrel
  by_cases hlt : m < 8
  ·have d1 : (m : Int) < 8 := by omega
   rw [rown_drop n o m hlt, List.append_assoc] at R0
   have hgm : g m = n (o + m) := by rw [kg.out]
   have hnum := number4_rd b (n (o + m)) _ sp (kn.out _) (by
    rw [List.length_append, nums_length, List.length_drop]
    have := kl.out
    have : (rown n o).length = 8 := rfl
    omega) _ R0
   rw [← hgm] at hnum
   clear hgm R0
   go_wp2_with fail
   refine hnum.mono ?_
   clear hnum
   rintro e w1 ⟨rfl, R1, u1⟩
   have A1 := A0.but u1 hn3
   have V1 := V0.but u1 hn2
   have c1 : w1.cell? ⟨V, m, none⟩ = some (.int .u32 ((0 : Nat) : Int)) := V1.cell m _ (by
    rw [row_get _ 0 m hlt]
    simp [upto])
   have f1 := V1.free m
   obtain ⟨W1, e1⟩ : ∃ W, w1.setCell ⟨V, m, none⟩ (.int .u32 (g m : Int)) = W := ⟨_, rfl⟩
   have V1' : Blk V (rowc (upto g (m + 1)) 0) 54 W1 := by rw [← e1, ← upto_set g m hlt]; exact blk_set V1 m _
   have t1 : But V w1 W1 := by rw [← e1]; exact But.setCell V m w1 _
   have A1' := A1.but t1 hn1
   have R1' := R1.but t1 hn2.symm
   have u1' := (u0.trans u1).new t1 (by have := KV.out; omega)
   clear A0 A1 V0 V1 R1 u0 u1 t1
   go_wp2_with fail
   refine ⟨⟨m + 1, by omega, by go_num, u1', A1', V1', R1'⟩, by simp [intOf]; omega⟩
  ·obtain rfl : m = 8 := by omega
   have R1 : Rd b R sp _ := R0
   rw [kg.out, upto_all] at V0
   clear R0
   go_wp2_with (first | refine load_blk rfl 54 _ rfl V0 rfl Tryz.underlying54 rfl (by rw [rowc_size]; exact sizeRow) ?_ | (refine store_part (off := 0) rfl 54 _ _ rfl A0 rfl rfl (by rw [rowc_size]; exact sizeRow) (by rw [rowc_size, rowc_size]; omega) (rowc_one _ _) ?_; intro W4 A4 u4))
   refine bodyPost_ret (ret_cells Tryz.results186 rfl A4 Tryz.underlying54 rfl (by rw [putAt_size, rowc_size]; exact sizeRow)) rfl ⟨rfl, R1.but u4 hn3.symm, u0.new u4 (Nat.le_refl _)⟩
set_option maxHeartbeats 1000000 in
theorem flag_rd (b t : Nat) (R : List UInt8) (sp : Bool) (ht : t < 256) (hl : R.length ≤ 800) (w : World) (h : Rd b (Pack.digits 1 t ++ R) sp w) :
  Calls Tryz.prog 187 #[.pointer (some ⟨b, 0, none⟩)] w fun e w' => e = .returned (.bool (decide (t = 1))) ∧ Rd b R (sp || decide (1 < t)) w' ∧ But b w w' := by
 have hnum := number1_rd b t R sp ht (by omega) w h
 have kt : Hid (t < 256) := ht
 clear ht hl h
 by_cases h1 : 1 < t
 ·have g1 : (1 : Int) < (t : Int) := by omega
  have g2 : ((t : Int) == 1) = false := by rw [beq_eq_false_iff_ne]; omega
  have r1 : decide (t = 1) = false := by simp; omega
  have r2 : (sp || decide (1 < t)) = true := by simp [h1]
  rw [r1, r2]
  clear r1 r2 h1
  go_enter Tryz.func187, Tryz.ntmps187
  go_wp2_with fail
  refine hnum.mono ?_
  rintro e w1 ⟨rfl, R1, u1⟩
  have c1 := Blk.cell R1 1 (.bool sp) rfl
  have f1 := Blk.free R1 1
  obtain ⟨W1, e1⟩ : ∃ W, w1.setCell ⟨b, 1, none⟩ (.bool true) = W := ⟨_, rfl⟩
  have R1' : Rd b R true W1 := by rw [← e1]; exact blk_set R1 1 _
  have u1' : But b w W1 := by rw [← e1]; exact u1.trans (But.setCell b 1 w1 _)
  clear R1 u1 hnum
  go_wp2_with fail
  go_ret
  exact ⟨rfl, R1', u1'⟩
 ·have g1 : ¬ (1 : Int) < (t : Int) := by omega
  have r2 : (sp || decide (1 < t)) = sp := by simp [h1]
  have r1 : ((t : Int) == 1) = decide (t = 1) := by
   rw [Bool.eq_iff_iff, beq_iff_eq, decide_eq_true_iff]; omega
  rw [r2]
  generalize decide (t = 1) = q at r1 ⊢
  clear r2 h1
  go_enter Tryz.func187, Tryz.ntmps187
  go_wp2_with fail
  refine hnum.mono ?_
  rintro e w1 ⟨rfl, R1, u1⟩
  clear hnum
  go_wp2_with fail
  go_ret
  exact ⟨rfl, R1, u1⟩
theorem frc_put_all (F G : Nat → En) : putAt (frc F) 0 (frc G).toList = frc G := by kernel_rfl
set_option maxHeartbeats 2000000 in
theorem frame_rd (b : Nat) (F R : List UInt8) (sp : Bool) (G : Nat → En) (c : Int) (hF : F.length = 168) (hl : R.length ≤ 800) (hdec : ∀ w, Calls Tryz.prog 214 #[.string (ba F)] w fun r w' => r = .returned (.tuple #[.agg (frc G), .int .i64 c]) ∧ Below w.heap.size w w')
  (w : World) (h : Rd b (F ++ R) sp w) :
  Calls Tryz.prog 188 #[.pointer (some ⟨b, 0, none⟩)] w fun e w' => e = .returned (.agg (frc G)) ∧ Rd b R (sp || (c != 0)) w' ∧ But b w w' := by
 have hlt := h.lt
 obtain ⟨w0, hw0⟩ : ∃ w0, w.alloc (.cells (frc zeroFr) 43) = w0 := ⟨_, rfl⟩
 have A0 : Blk w.heap.size (frc zeroFr) 43 w0 := by rw [← hw0]; exact blk_new w _ _
 have u0 : But b w w0 := by rw [← hw0]; exact But.alloc b w _
 have R0 : Rd b (F ++ R) sp w0 := by rw [← hw0]; exact Blk.alloc h _
 have hcut : Calls Tryz.prog 213 #[.pointer (some ⟨b, 0, none⟩), .int .i64 168] w0 fun e w' => e = .returned (.string (ba F)) ∧ Rd b R sp w' ∧ But b w0 w' := cut_ok b 168 F R sp hF (by omega) w0 R0
 have hn3 : w.heap.size ≠ b := by omega
 generalize ba F = sF at hcut hdec
 clear R0 h hF hl
 have hfin : ∀ (W : World) (s2 : Bool), Blk w.heap.size (frc zeroFr) 43 W → True := fun _ _ _ => trivial
 clear hfin
 cases hc : (c != 0)
 ·have hc0 : c = 0 := by simpa using hc
  subst hc0
  rw [Bool.or_false]
  clear hc
  go_enter Tryz.func188, Tryz.ntmps188
  go_wp2_with (refine alloc_fr rfl rfl ?_)
  refine hcut.mono ?_
  rintro e w1 ⟨rfl, R1, u1⟩
  have A1 := A0.but u1 hn3
  clear hcut A0 hw0
  go_wp2_with fail
  refine (hdec _).mono ?_
  rintro e w2 ⟨rfl, hb2⟩
  have R2 := (R1.below hb2)
  have R3 : Rd b R sp (w2.alloc (.cells (frc G) 43)) := Blk.alloc R2 _
  have A3 := (A1.below hb2).alloc (.cells (frc G) 43)
  have V3 := blk_new w2 (frc G) 43
  have u3 := ((u0.trans u1).trans (But.of_below hb2)).trans (But.alloc b w2 (.cells (frc G) 43))
  have hlt2 : w2.heap.size ≠ w.heap.size := by have h1 := A1.lt; have h2 := hb2.size; omega
  clear R1 R2 A1 u0 u1 hb2 hdec
  obtain ⟨W3, hW3⟩ : ∃ W3, w2.alloc (.cells (frc G) 43) = W3 := ⟨_, rfl⟩
  rw [hW3] at R3 A3 V3 u3
  go_wp2_with (first | refine alloc_fr rfl rfl ?_ | (refine store_new (cells := frc G) rfl 43 _ _ rfl rfl rfl (by rw [frc_size]; exact size27) (by rw [frc_size, frc_size]) (frc_one G) ?_; rw [hW3]) | refine load_blk rfl 43 _ rfl V3 rfl Tryz.underlying43 rfl (by rw [frc_size]; exact size27) ?_ | (refine store_part (off := 0) rfl 43 _ _ rfl A3 rfl rfl (by rw [frc_size]; exact size27) (by rw [frc_size, frc_size]; omega) (frc_one _) ?_; intro W4 A4 u4))
  rw [frc_put_all] at A4
  refine bodyPost_ret (ret_cells Tryz.results188 rfl A4 Tryz.underlying43 rfl (by rw [frc_size]; exact size27)) rfl ⟨rfl, R3.but u4 hn3.symm, u3.new u4 (Nat.le_refl _)⟩
 ·have hc1 : (c != 0) = true := hc
  rw [Bool.or_true]
  clear hc
  go_enter Tryz.func188, Tryz.ntmps188
  go_wp2_with (refine alloc_fr rfl rfl ?_)
  refine hcut.mono ?_
  rintro e w1 ⟨rfl, R1, u1⟩
  have A1 := A0.but u1 hn3
  clear hcut A0 hw0
  go_wp2_with fail
  refine (hdec _).mono ?_
  rintro e w2 ⟨rfl, hb2⟩
  have R2 := (R1.below hb2)
  have R3 : Rd b R sp (w2.alloc (.cells (frc G) 43)) := Blk.alloc R2 _
  have A3 := (A1.below hb2).alloc (.cells (frc G) 43)
  have V3 := blk_new w2 (frc G) 43
  have u3 := ((u0.trans u1).trans (But.of_below hb2)).trans (But.alloc b w2 (.cells (frc G) 43))
  have hlt2 : w2.heap.size ≠ b := by have h1 := R2.lt; omega
  clear R1 R2 A1 u0 u1 hb2 hdec
  obtain ⟨W3, hW3⟩ : ∃ W3, w2.alloc (.cells (frc G) 43) = W3 := ⟨_, rfl⟩
  rw [hW3] at R3 A3 V3 u3
  have c1 := Blk.cell R3 1 (.bool sp) rfl
  have f1 := Blk.free R3 1
  obtain ⟨W5, e5⟩ : ∃ W, W3.setCell ⟨b, 1, none⟩ (.bool true) = W := ⟨_, rfl⟩
  have t5 : But b W3 W5 := by rw [← e5]; exact But.setCell b 1 W3 _
  have R5 : Rd b R true W5 := by rw [← e5]; exact blk_set R3 1 _
  have A5 := A3.but t5 hn3
  have V5 := V3.but t5 hlt2
  have u5 := u3.trans t5
  clear R3 A3 V3 u3 t5
  go_wp2_with (first | refine alloc_fr rfl rfl ?_ | (refine store_new (cells := frc G) rfl 43 _ _ rfl rfl rfl (by rw [frc_size]; exact size27) (by rw [frc_size, frc_size]) (frc_one G) ?_; rw [hW3]) | refine load_blk rfl 43 _ rfl V5 rfl Tryz.underlying43 rfl (by rw [frc_size]; exact size27) ?_ | (refine store_part (off := 0) rfl 43 _ _ rfl A5 rfl rfl (by rw [frc_size]; exact size27) (by rw [frc_size, frc_size]; omega) (frc_one _) ?_; intro W4 A4 u4))
  rw [frc_put_all] at A4
  refine bodyPost_ret (ret_cells Tryz.results188 rfl A4 Tryz.underlying43 rfl (by rw [frc_size]; exact size27)) rfl ⟨rfl, R5.but u4 hn3.symm, u5.new u4 (Nat.le_refl _)⟩
end Go.Proofs.YthgfpdidilolgaaGreat.Eld
