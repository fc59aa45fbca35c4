/-
  What is known of a daemon (a peer), and a core, as plain data: their cells, parts of them, stores into them; two that are the same compared; as arguments.
  No condition.
-/
import Derived.Test.YtbmhfnallpcmpaaBt
import Derived.Test.YtbmhfnallpcmpaaIm
import Derived.Test.YtbmhfnallpcmpaaPq
namespace Go.Proofs.Ytbmhfnallpcmpaa
set_option maxRecDepth 10000
open Go.ChangeShapes Go.WideShapes Go.ChangeAt Go.RowKit Go.WideElems Go.Sort

structure Pe where
  inc : Nat
  conf : Idn
  pr : Idn
  cut : Nat → Nat
  rdy : Bool

def Pe.vals (x : Pe) : List Value := .int .u32 (x.inc : Int) :: (x.conf.vals ++ (x.pr.vals ++ (row8 x.cut ++ [.bool x.rdy])))
def Pe.arr (x : Pe) : Array Value := x.vals.toArray
def Pe.zero : Pe := ⟨0, Idn.zero, Idn.zero, noMb, false⟩
theorem Pe.vals_length (x : Pe) : x.vals.length = 16 := rfl
theorem Pe.arr_size (x : Pe) : x.arr.size = 16 := rfl
theorem Pe.arr_one (x : Pe) : x.arr.all (·.oneCell') = true := by kernel_rfl
theorem sizePe : (Try.prog.info? 32).map (·.size) = some 16 := by kernel_rfl
theorem Pe.size (x : Pe) : (Try.prog.info? 32).map (·.size) = some x.arr.size := sizePe
theorem zeroPe : (Try.prog.info? 32).map (fun i => (i.zero, i.size)) = some (some (.agg Pe.zero.arr), 16) := by kernel_rfl
theorem builtPe (n : Nat) (a b : Idn) (c : Nat → Nat) (r : Bool) : Try.prog.built 32 [(0, .int .u32 (n : Int)), (1, .agg a.arr), (2, .agg b.arr), (3, .agg (mbc c)), (4, .bool r)] = some (Pe.mk n a b c r).arr := by kernel_rfl
theorem Pe.get_inc (x : Pe) : x.arr[0]? = some (.int .u32 (x.inc : Int)) := rfl
theorem Pe.get_rdy (x : Pe) : x.arr[15]? = some (.bool x.rdy) := rfl
theorem Pe.p_conf (x : Pe) : (x.arr.extract 1 (1 + x.conf.vals.length)).toList = x.conf.vals := by kernel_rfl
theorem Pe.p_pr (x : Pe) : (x.arr.extract 4 (4 + x.pr.vals.length)).toList = x.pr.vals := by kernel_rfl
theorem Pe.p_cut (x : Pe) : (x.arr.extract 7 (7 + (row8 x.cut).length)).toList = row8 x.cut := by kernel_rfl
theorem Pe.s_conf (x : Pe) (y : Idn) : putAt x.arr 1 y.arr.toList = (Pe.mk x.inc y x.pr x.cut x.rdy).arr := by kernel_rfl
theorem Pe.s_cut (x : Pe) (c : Nat → Nat) : putAt x.arr 7 (mbc c).toList = (Pe.mk x.inc x.conf x.pr c x.rdy).arr := by kernel_rfl
theorem Pe.s_rdy (x : Pe) (r : Bool) : x.arr.setIfInBounds 15 (.bool r) = (Pe.mk x.inc x.conf x.pr x.cut r).arr := by kernel_rfl

theorem Pe.all (x y : Pe) : putAt x.arr 0 y.arr.toList = y.arr := putAt_all _ _ rfl
theorem Idn.all (x y : Idn) : putAt x.arr 0 y.arr.toList = y.arr := putAt_all _ _ rfl
theorem mb_all (x y : Nat → Nat) : putAt (mbc x) 0 (mbc y).toList = mbc y := putAt_all _ _ rfl

theorem equalIdnIn (d : Nat) (a : Idn) (w : World) : (Op.equalIn (d + 1 + 1) 27 (.agg a.arr) (.agg a.arr)).run Try.prog w = .ok true w := by
  have hu : Try.prog.underlying 27 = some (.struct (Try.prog.fieldsOf 27)) := by kernel_rfl
  rw [run_equalIn_struct w (d + 1) 27 a.arr a.arr hu (by kernel_rfl)]
  apply fields_same
  have hf : (Try.prog.fieldsOf 27).toList.map (fun f => (f.name, f.type, f.offset)) = [("Epoch", 22, 0), ("Coord", 22, 1), ("Inc", 22, 2)] := by kernel_rfl
  intro f hmem
  have hm : (f.name, f.type, f.offset) ∈ (Try.prog.fieldsOf 27).toList.map (fun f => (f.name, f.type, f.offset)) := List.mem_map_of_mem (f := fun f : Field => (f.name, f.type, f.offset)) hmem
  rw [hf] at hm
  generalize f.name = fn at hm ⊢
  generalize f.type = ft at hm ⊢
  generalize f.offset = fo at hm ⊢
  simp only [List.mem_cons, List.not_mem_nil, or_false, Prod.mk.injEq] at hm
  rcases hm with ⟨rfl, rfl, rfl⟩ | ⟨rfl, rfl, rfl⟩ | ⟨rfl, rfl, rfl⟩
  · exact ⟨by decide, .int .u32 (a.e : Int), by kernel_rfl, by simp [go_sem]⟩
  · exact ⟨by decide, .int .u32 (a.c : Int), by kernel_rfl, by simp [go_sem]⟩
  · exact ⟨by decide, .int .u32 (a.i : Int), by kernel_rfl, by simp [go_sem]⟩
theorem samePe (b : Pe) (w : World) : (Op.equalIn 10000 32 (.agg b.arr) (.agg b.arr)).run Try.prog w = .ok true w := by
  have hu : Try.prog.underlying 32 = some (.struct (Try.prog.fieldsOf 32)) := by kernel_rfl
  rw [show (10000 : Nat) = 9999 + 1 from rfl, run_equalIn_struct w 9999 32 b.arr b.arr hu (by kernel_rfl)]
  apply fields_same
  have hf : (Try.prog.fieldsOf 32).toList.map (fun f => (f.name, f.type, f.offset)) = [("Inc", 22, 0), ("Conf", 27, 1), ("Promise", 27, 4), ("Cut", 29, 7), ("Ready", 4, 15)] := by kernel_rfl
  intro f hmem
  have hm : (f.name, f.type, f.offset) ∈ (Try.prog.fieldsOf 32).toList.map (fun f => (f.name, f.type, f.offset)) := List.mem_map_of_mem (f := fun f : Field => (f.name, f.type, f.offset)) hmem
  rw [hf] at hm
  generalize f.name = fn at hm ⊢
  generalize f.type = ft at hm ⊢
  generalize f.offset = fo at hm ⊢
  simp only [List.mem_cons, List.not_mem_nil, or_false, Prod.mk.injEq] at hm
  rcases hm with ⟨rfl, rfl, rfl⟩ | ⟨rfl, rfl, rfl⟩ | ⟨rfl, rfl, rfl⟩ | ⟨rfl, rfl, rfl⟩ | ⟨rfl, rfl, rfl⟩
  · exact ⟨by decide, .int .u32 (b.inc : Int), by kernel_rfl, by simp [go_sem]⟩
  · exact ⟨by decide, .agg b.conf.arr, by kernel_rfl, equalIdnIn 9997 b.conf w⟩
  · exact ⟨by decide, .agg b.pr.arr, by kernel_rfl, equalIdnIn 9997 b.pr w⟩
  · exact ⟨by decide, .agg (mbc b.cut), by kernel_rfl, by rw [show (9999 : Nat) = 9997 + 1 + 1 from rfl, equalRow Try.underlying29 9997, mbSame_self]⟩
  · exact ⟨by decide, .bool b.rdy, by kernel_rfl, by simp [go_sem]⟩
theorem eqlPe (b : Pe) (w : World) : (binOp .eql 32 (.agg b.arr) (.agg b.arr)).run Try.prog w = .ok (.bool true) w := by
  rw [run_eql_struct, samePe]; rfl
theorem neqPe (b : Pe) (w : World) : (binOp .neq 32 (.agg b.arr) (.agg b.arr)).run Try.prog w = .ok (.bool false) w := by
  rw [run_neq_struct, samePe]; rfl

/- A core. -/
structure Co where
  self : Int
  wait : Int
  own : Nat
  beat : Bt
  conf : Idn
  mem : Nat → Nat
  count : Nat → Nat
  ka : Option Addr
  kn : Nat
  kc : Nat
  pr : Idn
  want : Nat → Nat
  cut : Nat → Nat
  rdy : Bool
  peers : Nat → Pe
  epoch : Nat

def prs (f : Nat → Pe) : List Value := (f 0).vals ++ ((f 1).vals ++ ((f 2).vals ++ ((f 3).vals ++ ((f 4).vals ++ ((f 5).vals ++ ((f 6).vals ++ (f 7).vals))))))
def col (c : Co) : List Value := .int .i64 c.self :: .int .i64 c.wait :: .int .u32 (c.own : Int) :: (c.beat.vals ++ (c.conf.vals ++ (row8 c.mem ++ (row8 c.count ++ (.slice c.ka c.kn c.kc :: (c.pr.vals ++ (row8 c.want ++ (row8 c.cut ++ (.bool c.rdy :: (prs c.peers ++ [.int .u32 (c.epoch : Int)]))))))))))
def coc (c : Co) : Array Value := (col c).toArray
def noPe : Nat → Pe := fun _ => Pe.zero
def Co.zero : Co := ⟨0, 0, 0, Bt.zero, Idn.zero, noMb, noMb, none, 0, 0, Idn.zero, noMb, noMb, false, noPe, 0⟩
theorem prs_length (f : Nat → Pe) : (prs f).length = 128 := rfl
theorem coc_size (c : Co) : (coc c).size = 189 := rfl
theorem coc_one (c : Co) : (coc c).all (·.oneCell') = true := by kernel_rfl
theorem sizeCo : (Try.prog.info? 35).map (·.size) = some 189 := by kernel_rfl
theorem Co.size (c : Co) : (Try.prog.info? 35).map (·.size) = some (coc c).size := sizeCo
theorem zeroCo : (Try.prog.info? 35).map (fun i => (i.zero, i.size)) = some (some (.agg (coc Co.zero)), 189) := by kernel_rfl
theorem Co.get_self (c : Co) : (coc c)[0]? = some (.int .i64 c.self) := rfl
theorem Co.get_wait (c : Co) : (coc c)[1]? = some (.int .i64 c.wait) := rfl
theorem Co.get_own (c : Co) : (coc c)[2]? = some (.int .u32 (c.own : Int)) := rfl
theorem Co.get_now (c : Co) : (coc c)[3]? = some (.int .u32 (c.beat.now : Int)) := rfl
theorem Co.get_kept (c : Co) : (coc c)[39]? = some (.slice c.ka c.kn c.kc) := rfl
theorem Co.get_prc (c : Co) : (coc c)[41]? = some (.int .u32 (c.pr.c : Int)) := rfl
theorem Co.get_pri (c : Co) : (coc c)[42]? = some (.int .u32 (c.pr.i : Int)) := rfl
theorem Co.get_pre (c : Co) : (coc c)[40]? = some (.int .u32 (c.pr.e : Int)) := rfl
theorem Co.get_rdy (c : Co) : (coc c)[59]? = some (.bool c.rdy) := rfl
theorem Co.get_epoch (c : Co) : (coc c)[188]? = some (.int .u32 (c.epoch : Int)) := rfl
theorem Co.p_beat (c : Co) : ((coc c).extract 3 (3 + c.beat.vals.length)).toList = c.beat.vals := by kernel_rfl
theorem Co.p_conf (c : Co) : ((coc c).extract 20 (20 + c.conf.vals.length)).toList = c.conf.vals := by kernel_rfl
theorem Co.p_mem (c : Co) : ((coc c).extract 23 (23 + (row8 c.mem).length)).toList = (row8 c.mem) := by kernel_rfl
theorem Co.p_count (c : Co) : ((coc c).extract 31 (31 + (row8 c.count).length)).toList = (row8 c.count) := by kernel_rfl
theorem Co.p_pr (c : Co) : ((coc c).extract 40 (40 + c.pr.vals.length)).toList = c.pr.vals := by kernel_rfl
theorem Co.p_want (c : Co) : ((coc c).extract 43 (43 + (row8 c.want).length)).toList = (row8 c.want) := by kernel_rfl
theorem Co.p_cut (c : Co) : ((coc c).extract 51 (51 + (row8 c.cut).length)).toList = (row8 c.cut) := by kernel_rfl
theorem Co.p_peers (c : Co) : ((coc c).extract 60 (60 + (prs c.peers).length)).toList = (prs c.peers) := by kernel_rfl
theorem Co.get_count (c : Co) (i : Nat) (h : i < 8) : (coc c)[31 + i]? = some (.int .u32 (c.count i : Int)) := by
  obtain rfl | rfl | rfl | rfl | rfl | rfl | rfl | rfl : i = 0 ∨ i = 1 ∨ i = 2 ∨ i = 3 ∨ i = 4 ∨ i = 5 ∨ i = 6 ∨ i = 7 := by omega
  all_goals rfl
theorem Co.get_want (c : Co) (i : Nat) (h : i < 8) : (coc c)[43 + i]? = some (.int .u32 (c.want i : Int)) := by
  obtain rfl | rfl | rfl | rfl | rfl | rfl | rfl | rfl : i = 0 ∨ i = 1 ∨ i = 2 ∨ i = 3 ∨ i = 4 ∨ i = 5 ∨ i = 6 ∨ i = 7 := by omega
  all_goals rfl
theorem Co.get_mem (c : Co) (i : Nat) (h : i < 8) : (coc c)[23 + i]? = some (.int .u32 (c.mem i : Int)) := by
  obtain rfl | rfl | rfl | rfl | rfl | rfl | rfl | rfl : i = 0 ∨ i = 1 ∨ i = 2 ∨ i = 3 ∨ i = 4 ∨ i = 5 ∨ i = 6 ∨ i = 7 := by omega
  all_goals rfl
theorem Co.get_cut (c : Co) (i : Nat) (h : i < 8) : (coc c)[51 + i]? = some (.int .u32 (c.cut i : Int)) := by
  obtain rfl | rfl | rfl | rfl | rfl | rfl | rfl | rfl : i = 0 ∨ i = 1 ∨ i = 2 ∨ i = 3 ∨ i = 4 ∨ i = 5 ∨ i = 6 ∨ i = 7 := by omega
  all_goals rfl
theorem Co.p_peer (c : Co) (i : Nat) (h : i < 8) : ((coc c).extract (60 + i * 16) (60 + i * 16 + (c.peers i).vals.length)).toList = (c.peers i).vals := by
  obtain rfl | rfl | rfl | rfl | rfl | rfl | rfl | rfl : i = 0 ∨ i = 1 ∨ i = 2 ∨ i = 3 ∨ i = 4 ∨ i = 5 ∨ i = 6 ∨ i = 7 := by omega
  all_goals kernel_rfl
theorem Co.get_peer (c : Co) (i j : Nat) (h : i < 8) (hj : j < 16) : (coc c)[60 + i * 16 + j]? = (c.peers i).arr[j]? := by
  have e := congrArg (fun l : List Value => l[j]?) (Co.p_peer c i h)
  simp only [Array.toList_extract, List.extract_eq_take_drop, List.getElem?_take] at e
  rw [if_pos (by rw [Pe.vals_length]; omega), List.getElem?_drop, Array.getElem?_toList] at e
  rw [e]
  simp [Pe.arr]
theorem Co.get_pinc (c : Co) (i : Nat) (h : i < 8) : (coc c)[60 + i * 16]? = some (.int .u32 ((c.peers i).inc : Int)) := Co.get_peer c i 0 h (by decide)
theorem Co.get_pep (c : Co) (i : Nat) (h : i < 8) : (coc c)[60 + i * 16 + 4]? = some (.int .u32 ((c.peers i).pr.e : Int)) := Co.get_peer c i 4 h (by decide)
theorem Co.s_beat (c : Co) (x : Bt) : putAt (coc c) 3 x.arr.toList = coc (⟨c.self, c.wait, c.own, x, c.conf, c.mem, c.count, c.ka, c.kn, c.kc, c.pr, c.want, c.cut, c.rdy, c.peers, c.epoch⟩ : Co) := by kernel_rfl
theorem Co.s_conf (c : Co) (x : Idn) : putAt (coc c) 20 x.arr.toList = coc (⟨c.self, c.wait, c.own, c.beat, x, c.mem, c.count, c.ka, c.kn, c.kc, c.pr, c.want, c.cut, c.rdy, c.peers, c.epoch⟩ : Co) := by kernel_rfl
theorem Co.s_mem (c : Co) (x : Nat → Nat) : putAt (coc c) 23 (mbc x).toList = coc (⟨c.self, c.wait, c.own, c.beat, c.conf, x, c.count, c.ka, c.kn, c.kc, c.pr, c.want, c.cut, c.rdy, c.peers, c.epoch⟩ : Co) := by kernel_rfl
theorem Co.s_count (c : Co) (x : Nat → Nat) : putAt (coc c) 31 (mbc x).toList = coc (⟨c.self, c.wait, c.own, c.beat, c.conf, c.mem, x, c.ka, c.kn, c.kc, c.pr, c.want, c.cut, c.rdy, c.peers, c.epoch⟩ : Co) := by kernel_rfl
theorem Co.s_pr (c : Co) (x : Idn) : putAt (coc c) 40 x.arr.toList = coc (⟨c.self, c.wait, c.own, c.beat, c.conf, c.mem, c.count, c.ka, c.kn, c.kc, x, c.want, c.cut, c.rdy, c.peers, c.epoch⟩ : Co) := by kernel_rfl
theorem Co.s_want (c : Co) (x : Nat → Nat) : putAt (coc c) 43 (mbc x).toList = coc (⟨c.self, c.wait, c.own, c.beat, c.conf, c.mem, c.count, c.ka, c.kn, c.kc, c.pr, x, c.cut, c.rdy, c.peers, c.epoch⟩ : Co) := by kernel_rfl
theorem Co.s_cut (c : Co) (x : Nat → Nat) : putAt (coc c) 51 (mbc x).toList = coc (⟨c.self, c.wait, c.own, c.beat, c.conf, c.mem, c.count, c.ka, c.kn, c.kc, c.pr, c.want, x, c.rdy, c.peers, c.epoch⟩ : Co) := by kernel_rfl
theorem Co.s_self (c : Co) (x : Int) : (coc c).setIfInBounds 0 (.int .i64 x) = coc (⟨x, c.wait, c.own, c.beat, c.conf, c.mem, c.count, c.ka, c.kn, c.kc, c.pr, c.want, c.cut, c.rdy, c.peers, c.epoch⟩ : Co) := by kernel_rfl
theorem Co.s_own (c : Co) (x : Nat) : (coc c).setIfInBounds 2 (.int .u32 (x : Int)) = coc (⟨c.self, c.wait, x, c.beat, c.conf, c.mem, c.count, c.ka, c.kn, c.kc, c.pr, c.want, c.cut, c.rdy, c.peers, c.epoch⟩ : Co) := by kernel_rfl
theorem Co.s_rdy (c : Co) (x : Bool) : (coc c).setIfInBounds 59 (.bool x) = coc (⟨c.self, c.wait, c.own, c.beat, c.conf, c.mem, c.count, c.ka, c.kn, c.kc, c.pr, c.want, c.cut, x, c.peers, c.epoch⟩ : Co) := by kernel_rfl
theorem Co.s_epoch (c : Co) (x : Nat) : (coc c).setIfInBounds 188 (.int .u32 (x : Int)) = coc (⟨c.self, c.wait, c.own, c.beat, c.conf, c.mem, c.count, c.ka, c.kn, c.kc, c.pr, c.want, c.cut, c.rdy, c.peers, x⟩ : Co) := by kernel_rfl
theorem Co.s_kept (c : Co) (a : Option Addr) (n k : Nat) : (coc c).setIfInBounds 39 (.slice a n k) = coc (⟨c.self, c.wait, c.own, c.beat, c.conf, c.mem, c.count, a, n, k, c.pr, c.want, c.cut, c.rdy, c.peers, c.epoch⟩ : Co) := by kernel_rfl
theorem Co.all (x y : Co) : putAt (coc x) 0 (coc y).toList = coc y := putAt_all _ _ rfl
def putP (f : Nat → Pe) (i : Nat) (x : Pe) : Nat → Pe := fun j => if j = i then x else f j
theorem Co.s_peer (c : Co) (i : Nat) (x : Pe) (h : i < 8) : putAt (coc c) (60 + i * 16) x.arr.toList = coc (⟨c.self, c.wait, c.own, c.beat, c.conf, c.mem, c.count, c.ka, c.kn, c.kc, c.pr, c.want, c.cut, c.rdy, putP c.peers i x, c.epoch⟩ : Co) := by
  obtain rfl | rfl | rfl | rfl | rfl | rfl | rfl | rfl : i = 0 ∨ i = 1 ∨ i = 2 ∨ i = 3 ∨ i = 4 ∨ i = 5 ∨ i = 6 ∨ i = 7 := by omega
  all_goals kernel_rfl

section
variable {H : Type} {enc : TypeId × Value → H} {W : World} {base : Nat} {spare : Nat → Bool} {held : Bool}

theorem int_cell {l : List Value} {fuel : Nat} {o : Option (DataW H × List MemPlace)} (ho : o.isSome = true) (h : DataW.trod enc Try.prog W base spare held fuel 3 l = o) : ∃ x : Int, l = [.int .i64 x] := by
  obtain ⟨y, rfl⟩ := Option.isSome_iff_exists.1 ho
  obtain ⟨k, e, _⟩ := DataW.trod_int Try.underlying3 h
  exact ⟨k, e⟩

def Pe.fit (x : Pe) : Prop := x.inc < 4294967296 ∧ (x.conf.e < 4294967296 ∧ x.conf.c < 4294967296 ∧ x.conf.i < 4294967296) ∧ (x.pr.e < 4294967296 ∧ x.pr.c < 4294967296 ∧ x.pr.i < 4294967296) ∧ ∀ i, x.cut i < 4294967296
def Idn.fit (x : Idn) : Prop := x.e < 4294967296 ∧ x.c < 4294967296 ∧ x.i < 4294967296

theorem pe_cells {l : List Value} {fuel : Nat} {o : Option (DataW H × List MemPlace)} (ho : o.isSome = true) (h : DataW.trod enc Try.prog W base spare held fuel 32 l = o) : ∃ x : Pe, l = x.vals ∧ x.fit := by
  obtain ⟨y, rfl⟩ := Option.isSome_iff_exists.1 ho
  have hC : Try.prog.cellsOf 32 = 16 := by kernel_rfl
  have h3 : Try.prog.cellsOf 3 = 1 := by kernel_rfl
  have h4 : Try.prog.cellsOf 4 = 1 := by kernel_rfl
  have h22 : Try.prog.cellsOf 22 = 1 := by kernel_rfl
  have hid : Try.prog.cellsOf 27 = 3 := by kernel_rfl
  have hmb : Try.prog.cellsOf 28 = 8 := by kernel_rfl
  have hct : Try.prog.cellsOf 29 = 8 := by kernel_rfl
  have hbt : Try.prog.cellsOf 25 = 17 := by kernel_rfl
  obtain ⟨xs, m, _, _, hlen, hl, hg⟩ := DataW.trod_struct Try.underlying32 h
  have hl5 : xs.length = 5 := hl
  rw [hC] at hlen
  have g0 := hg 0 _ rfl
  obtain ⟨x0, e0, b0⟩ := u32_cell (by rw [List.getElem?_eq_getElem (by omega)]; rfl) g0
  change (l.drop 0).take (Try.prog.cellsOf 22) = _ at e0
  rw [h22] at e0
  have g1 := hg 1 _ rfl
  obtain ⟨x1, e1, b1⟩ := id_cells (by rw [List.getElem?_eq_getElem (by omega)]; rfl) g1
  change (l.drop 1).take (Try.prog.cellsOf 27) = _ at e1
  rw [hid] at e1
  have g2 := hg 2 _ rfl
  obtain ⟨x2, e2, b2⟩ := id_cells (by rw [List.getElem?_eq_getElem (by omega)]; rfl) g2
  change (l.drop 4).take (Try.prog.cellsOf 27) = _ at e2
  rw [hid] at e2
  have g3 := hg 3 _ rfl
  obtain ⟨x3, e3, b3⟩ := row8_cells Try.underlying29 hct (by rw [List.getElem?_eq_getElem (by omega)]; rfl) g3
  change (l.drop 7).take (Try.prog.cellsOf 29) = _ at e3
  rw [hct] at e3
  have g4 := hg 4 _ rfl
  obtain ⟨x4, e4⟩ := bool_cell (by rw [List.getElem?_eq_getElem (by omega)]; rfl) g4
  change (l.drop 15).take (Try.prog.cellsOf 4) = _ at e4
  rw [h4] at e4
  have z : l.drop 16 = [] := List.drop_eq_nil_of_le (by omega)
  have e : l = (l.drop 0).take 1 ++ ((l.drop 1).take 3 ++ ((l.drop 4).take 3 ++ ((l.drop 7).take 8 ++ ((l.drop 15).take 1)))) := by
    conv => lhs; rw [← List.drop_zero (l := l), more l 0 1, more l 1 3, more l 4 3, more l 7 8, more l 15 1, z, List.append_nil]
  refine ⟨⟨x0, x1, x2, x3, x4⟩, ?_, b0, b1, b2, b3⟩
  rw [e, e0, e1, e2, e3, e4]
  rfl

theorem prs_cells {l : List Value} {fuel : Nat} {o : Option (DataW H × List MemPlace)} (ho : o.isSome = true) (h : DataW.trod enc Try.prog W base spare held fuel 33 l = o) : ∃ f : Nat → Pe, l = prs f ∧ ∀ i, (f i).fit := by
  obtain ⟨y, rfl⟩ := Option.isSome_iff_exists.1 ho
  have hC : Try.prog.cellsOf 33 = 128 := by kernel_rfl
  have hp : Try.prog.cellsOf 32 = 16 := by kernel_rfl
  obtain ⟨xs, m, _, _, hlen, hl, hg⟩ := DataW.trod_array Try.underlying33 h
  rw [hC] at hlen
  have key : ∀ i, ∃ x : Pe, (i < 8 → (l.drop (i * 16)).take 16 = x.vals) ∧ x.fit := by
    intro i
    by_cases hi : i < 8
    · have g := hg i hi
      obtain ⟨x, e, b⟩ := pe_cells (by rw [List.getElem?_eq_getElem (by omega)]; rfl) g
      rw [hp] at e
      exact ⟨x, fun _ => e, b⟩
    · exact ⟨Pe.zero, fun h => absurd h hi, by decide, ⟨by decide, by decide, by decide⟩, ⟨by decide, by decide, by decide⟩, fun _ => by show 0 < _; decide⟩
  obtain ⟨a, ha⟩ := Classical.axiomOfChoice key
  refine ⟨a, ?_, fun i => (ha i).2⟩
  have z : l.drop 128 = [] := List.drop_eq_nil_of_le (by omega)
  have e : l = (l.drop 0).take 16 ++ ((l.drop 16).take 16 ++ ((l.drop 32).take 16 ++ ((l.drop 48).take 16 ++ ((l.drop 64).take 16 ++ ((l.drop 80).take 16 ++ ((l.drop 96).take 16 ++ (l.drop 112).take 16)))))) := by
    conv => lhs; rw [← List.drop_zero (l := l), more l 0 16, more l 16 16, more l 32 16, more l 48 16, more l 64 16, more l 80 16, more l 96 16, more l 112 16, z, List.append_nil]
  have q0 := (ha 0).1 (by omega)
  have q1 := (ha 1).1 (by omega)
  have q2 := (ha 2).1 (by omega)
  have q3 := (ha 3).1 (by omega)
  have q4 := (ha 4).1 (by omega)
  have q5 := (ha 5).1 (by omega)
  have q6 := (ha 6).1 (by omega)
  have q7 := (ha 7).1 (by omega)
  simp only [Nat.zero_mul, Nat.one_mul, Nat.reduceMul] at q0 q1 q2 q3 q4 q5 q6 q7
  rw [e, q0, q1, q2, q3, q4, q5, q6, q7]
  rfl

theorem open_pe {v : Value} {d : DataW H} {p : List MemPlace} (hv : ∃ cs, v = .agg cs) (h : DataW.Trod enc Try.prog W base spare held 32 v d p) : ∃ x : Pe, v = .agg x.arr ∧ x.fit := by
  obtain ⟨cs, rfl⟩ := hv
  obtain ⟨fuel, hf⟩ := h
  obtain ⟨x, e, b⟩ := pe_cells rfl hf
  exact ⟨x, agg_of e, b⟩

structure Co.fit (c : Co) : Prop where
  own : c.own < 4294967296
  beat : c.beat.ok
  conf : c.conf.fit
  mem : ∀ i, c.mem i < 4294967296
  count : ∀ i, c.count i < 4294967296
  pr : c.pr.fit
  want : ∀ i, c.want i < 4294967296
  cut : ∀ i, c.cut i < 4294967296
  peers : ∀ i, (c.peers i).fit
  epoch : c.epoch < 4294967296

set_option maxHeartbeats 1000000 in
theorem open_core {v : Value} {d : DataW H} {p : List MemPlace} (hv : ∃ cs, v = .agg cs) (hw : ∀ n ∈ d.weights Try.prog 35, n ≤ reachBytes) (h : DataW.Trod enc Try.prog W base spare held 35 v d p) :
    ∃ (c : Co) (L : List Kt), v = .agg (coc c) ∧ c.fit ∧ c.kn = L.length ∧ L.length * 352 ≤ 140737488351232 ∧ Li Kt.vals 0 c.ka L W := by
  obtain ⟨cs, rfl⟩ := hv
  have hC : Try.prog.cellsOf 35 = 189 := by kernel_rfl
  have hks : Try.prog.cellsOf 30 = 1 := by kernel_rfl
  have hps : Try.prog.cellsOf 33 = 128 := by kernel_rfl
  have hby : Try.prog.bytesOf 97 = 352 := by kernel_rfl
  have h3 : Try.prog.cellsOf 3 = 1 := by kernel_rfl
  have h4 : Try.prog.cellsOf 4 = 1 := by kernel_rfl
  have h22 : Try.prog.cellsOf 22 = 1 := by kernel_rfl
  have hid : Try.prog.cellsOf 27 = 3 := by kernel_rfl
  have hmb : Try.prog.cellsOf 28 = 8 := by kernel_rfl
  have hct : Try.prog.cellsOf 29 = 8 := by kernel_rfl
  have hbt : Try.prog.cellsOf 25 = 17 := by kernel_rfl
  obtain ⟨fuel, hf⟩ := h
  obtain ⟨xs, m, _, hd, hlen, hl, hg⟩ := DataW.trod_struct Try.underlying35 hf
  have hl14 : xs.length = 14 := hl
  rw [hC] at hlen
  generalize hcs : (Value.agg cs).cells.toList = l at hlen hg
  have g0 := hg 0 _ rfl
  obtain ⟨x0, e0⟩ := int_cell (by rw [List.getElem?_eq_getElem (by omega)]; rfl) g0
  change (l.drop 0).take (Try.prog.cellsOf 3) = _ at e0
  rw [h3] at e0
  have g1 := hg 1 _ rfl
  obtain ⟨x1, e1⟩ := int_cell (by rw [List.getElem?_eq_getElem (by omega)]; rfl) g1
  change (l.drop 1).take (Try.prog.cellsOf 3) = _ at e1
  rw [h3] at e1
  have g2 := hg 2 _ rfl
  obtain ⟨x2, e2, b2⟩ := u32_cell (by rw [List.getElem?_eq_getElem (by omega)]; rfl) g2
  change (l.drop 2).take (Try.prog.cellsOf 22) = _ at e2
  rw [h22] at e2
  have g3 := hg 3 _ rfl
  obtain ⟨x3, e3, b3⟩ := bt_cells (by rw [List.getElem?_eq_getElem (by omega)]; rfl) g3
  change (l.drop 3).take (Try.prog.cellsOf 25) = _ at e3
  rw [hbt] at e3
  have g4 := hg 4 _ rfl
  obtain ⟨x4, e4, b4⟩ := id_cells (by rw [List.getElem?_eq_getElem (by omega)]; rfl) g4
  change (l.drop 20).take (Try.prog.cellsOf 27) = _ at e4
  rw [hid] at e4
  have g5 := hg 5 _ rfl
  obtain ⟨x5, e5, b5⟩ := row8_cells Try.underlying28 hmb (by rw [List.getElem?_eq_getElem (by omega)]; rfl) g5
  change (l.drop 23).take (Try.prog.cellsOf 28) = _ at e5
  rw [hmb] at e5
  have g6 := hg 6 _ rfl
  obtain ⟨x6, e6, b6⟩ := row8_cells Try.underlying29 hct (by rw [List.getElem?_eq_getElem (by omega)]; rfl) g6
  change (l.drop 31).take (Try.prog.cellsOf 29) = _ at e6
  rw [hct] at e6
  have g7 := hg 7 _ rfl
  obtain ⟨y7, hy7⟩ : ∃ y, xs[7]? = some y := ⟨_, List.getElem?_eq_getElem (by omega)⟩
  rw [hy7] at g7
  change DataW.trod enc Try.prog W base spare held m 30 ((l.drop 39).take (Try.prog.cellsOf 30)) = some y7 at g7
  rw [hks] at g7
  have g8 := hg 8 _ rfl
  obtain ⟨x8, e8, b8⟩ := id_cells (by rw [List.getElem?_eq_getElem (by omega)]; rfl) g8
  change (l.drop 40).take (Try.prog.cellsOf 27) = _ at e8
  rw [hid] at e8
  have g9 := hg 9 _ rfl
  obtain ⟨x9, e9, b9⟩ := row8_cells Try.underlying28 hmb (by rw [List.getElem?_eq_getElem (by omega)]; rfl) g9
  change (l.drop 43).take (Try.prog.cellsOf 28) = _ at e9
  rw [hmb] at e9
  have g10 := hg 10 _ rfl
  obtain ⟨x10, e10, b10⟩ := row8_cells Try.underlying29 hct (by rw [List.getElem?_eq_getElem (by omega)]; rfl) g10
  change (l.drop 51).take (Try.prog.cellsOf 29) = _ at e10
  rw [hct] at e10
  have g11 := hg 11 _ rfl
  obtain ⟨x11, e11⟩ := bool_cell (by rw [List.getElem?_eq_getElem (by omega)]; rfl) g11
  change (l.drop 59).take (Try.prog.cellsOf 4) = _ at e11
  rw [h4] at e11
  have g12 := hg 12 _ rfl
  obtain ⟨x12, e12, b12⟩ := prs_cells (by rw [List.getElem?_eq_getElem (by omega)]; rfl) g12
  change (l.drop 60).take (Try.prog.cellsOf 33) = _ at e12
  rw [hps] at e12
  have g13 := hg 13 _ rfl
  obtain ⟨x13, e13, b13⟩ := u32_cell (by rw [List.getElem?_eq_getElem (by omega)]; rfl) g13
  change (l.drop 188).take (Try.prog.cellsOf 22) = _ at e13
  rw [h22] at e13
  have z : l.drop 189 = [] := List.drop_eq_nil_of_le (by omega)
  have e : l = (l.drop 0).take 1 ++ ((l.drop 1).take 1 ++ ((l.drop 2).take 1 ++ ((l.drop 3).take 17 ++ ((l.drop 20).take 3 ++ ((l.drop 23).take 8 ++ ((l.drop 31).take 8 ++ ((l.drop 39).take 1 ++ ((l.drop 40).take 3 ++ ((l.drop 43).take 8 ++ ((l.drop 51).take 8 ++ ((l.drop 59).take 1 ++ ((l.drop 60).take 128 ++ ((l.drop 188).take 1))))))))))))) := by
    conv => lhs; rw [← List.drop_zero (l := l), more l 0 1, more l 1 1, more l 2 1, more l 3 17, more l 20 3, more l 23 8, more l 31 8, more l 39 1, more l 40 3, more l 43 8, more l 51 8, more l 59 1, more l 60 128, more l 188 1, z, List.append_nil]
  have key : ∃ (a : Option Addr) (L : List Kt) (k : Nat), (l.drop 39).take 1 = [.slice a L.length k] ∧ L.length * 352 ≤ 140737488351232 ∧ Li Kt.vals 0 a L W := by
    rcases Go.Deep.open_slice Try.underlying30 g7 with ⟨hc, _⟩ | ⟨a, len, cap, mm, nn, D, Pl, hc, hba, hlc, hcm, hm, hx, hcell⟩
    · exact ⟨none, [], 0, hc, by simp, .inl rfl⟩
    · have ht : DataW.Trod enc Try.prog W base spare held 30 (.slice (some a) len cap) y7.1 y7.2 := ⟨m, by
        have e9 : (Value.slice (some a) len cap).cells.toList = [.slice (some a) len cap] := by simp [Value.cells]
        rw [e9, ← hc]
        exact g7⟩
      obtain ⟨a', L, k', e', _, hS⟩ := open_kts ⟨_, _, _, rfl⟩ ht
      injection e' with e3 e4 e5
      subst e3 e4 e5
      refine ⟨some a, L, cap, hc, ?_, hS⟩
      have hin : (L.length + (mm - L.length)) * 352 ∈ d.weights Try.prog 35 := by
        have hd' : d = .agg (xs.map (·.1)) := by injection hd
        rw [hd']
        have h0 : (L.length + (mm - L.length)) * 352 ∈ y7.1.weights Try.prog 30 := by
          rw [hx]
          simp [DataW.weights, Try.underlying30, hby]
        have hu : Try.prog.underlying 35 = some (.struct (Try.prog.fieldsOf 35)) := by kernel_rfl
        have hf3 : (Try.prog.fieldsOf 35).toList.map (·.type) = [3, 3, 22, 25, 27, 28, 29, 30, 27, 28, 29, 4, 33, 22] := by kernel_rfl
        simp only [DataW.weights, hu, hf3]
        exact DataW.weights_mem_each (j := 7) rfl (by rw [List.getElem?_map, hy7]; rfl) _ h0
      have := hw _ hin
      simp only [reachBytes] at this
      omega
  obtain ⟨a, L, k, e7, hsz, hS⟩ := key
  refine ⟨⟨x0, x1, x2, x3, x4, x5, x6, a, L.length, k, x8, x9, x10, x11, x12, x13⟩, L, ?_, ⟨b2, b3, b4, b5, b6, b8, b9, b10, b12, b13⟩, rfl, hsz, hS⟩
  refine (agg_of hcs).trans ?_
  rw [e, e0, e1, e2, e3, e4, e5, e6, e7, e8, e9, e10, e11, e12, e13]
  rfl

end

end Go.Proofs.Ytbmhfnallpcmpaa
