/-
  A daemon without its tenants: plain answers. What a core does at a tick, with a packet, what it sends, how it begins.
  No condition.
-/
import Derived.Test.YthgmecgknhphmaaBase
import Derived.Test.YthgmecgknhphmaaKtN
import Derived.Test.YthgmecgknhphmaaBtB
namespace Go.Proofs.Ythgmecgknhphmaa
set_option maxRecDepth 10000
open Go.RowKit Go.Sort

/- A happening. -/
structure Hp where
  view : Bool
  k : Kt
  conf : Idn
  mem : Nat → Nat

/- A core, what it keeps, what it tells. -/
structure Sg where
  c : Co
  L : List Kt
  t : List Hp

def Co.kp (c : Co) (a : Option Addr) (n k : Nat) : Co := ⟨c.self, c.wait, c.own, c.beat, c.conf, c.mem, c.count, a, n, k, c.pr, c.want, c.cut, c.rdy, c.peers, c.epoch⟩
def Co.wBeat (c : Co) (x : Bt) : Co := ⟨c.self, c.wait, c.own, x, c.conf, c.mem, c.count, c.ka, c.kn, c.kc, c.pr, c.want, c.cut, c.rdy, c.peers, c.epoch⟩
def Co.wCount (c : Co) (x : Nat → Nat) : Co := ⟨c.self, c.wait, c.own, c.beat, c.conf, c.mem, x, c.ka, c.kn, c.kc, c.pr, c.want, c.cut, c.rdy, c.peers, c.epoch⟩
def Co.wRdy (c : Co) (x : Bool) : Co := ⟨c.self, c.wait, c.own, c.beat, c.conf, c.mem, c.count, c.ka, c.kn, c.kc, c.pr, c.want, c.cut, x, c.peers, c.epoch⟩
def Co.wEpoch (c : Co) (x : Nat) : Co := ⟨c.self, c.wait, c.own, c.beat, c.conf, c.mem, c.count, c.ka, c.kn, c.kc, c.pr, c.want, c.cut, c.rdy, c.peers, x⟩
def Co.wPeer (c : Co) (i : Nat) (x : Pe) : Co := ⟨c.self, c.wait, c.own, c.beat, c.conf, c.mem, c.count, c.ka, c.kn, c.kc, c.pr, c.want, c.cut, c.rdy, putP c.peers i x, c.epoch⟩
def promC (c : Co) (x : Idn) (m : Nat → Nat) : Co := ⟨c.self, c.wait, c.own, c.beat, c.conf, c.mem, c.count, c.ka, c.kn, c.kc, x, m, c.count, false, c.peers, c.epoch⟩
def instC (c : Co) : Co := ⟨c.self, c.wait, c.own, c.beat, c.pr, c.want, noMb, c.ka, c.kn, c.kc, c.pr, c.want, noMb, false, c.peers, c.epoch⟩

def gathB (c : Co) : Bool := !Idn.same c.pr c.conf
def ownN (c : Co) : Nat := c.count c.self.toNat

/- To go on. -/
def rdyB (c : Co) : Bool := gathB c && !c.rdy && allB c && withB (targC c) c.count
def readyC (c : Co) : Co := if rdyB c = true then c.wRdy true else c
def insB (c : Co) : Bool := gathB c && c.rdy && doneB c
def viewH (c : Co) : Hp := ⟨true, Kt.zero, c.pr, c.want⟩
def takeH (x : Kt) : Hp := ⟨false, x, Idn.zero, noMb⟩
def instS (s : Sg) : Sg := ⟨instC s.c, [], s.t ++ [viewH s.c]⟩
def goOnS (s : Sg) : Sg := if insB (readyC s.c) = true then instS ⟨readyC s.c, s.L, s.t⟩ else ⟨readyC s.c, s.L, s.t⟩

/- To propose. -/
def outB (c : Co) (m : Nat → Nat) : Bool := (oth m c.self).any (aboveB c m)
def unsB (c : Co) (m : Nat → Nat) : Bool := gathB c || !mbSame m c.mem || outB c m
def waitN (c : Co) : Nat := (c.wait % 4294967296).toNat
def reachC (c : Co) : Nat → Nat := rchB c.beat c.self c.own (waitN c)
def proposeC (c : Co) (m : Nat → Nat) : Co := if (unsB c m && proB c m) = true then promC (c.wEpoch (propI c m).e) (propI c m) m else c

/- To send. -/
def sendB (c : Co) : Bool := !gathB c && mayB c.count c.mem c.self && !decide (ownN c = 4294967295)
def nextK (c : Co) (f : Nat → En) : Kt := ⟨c.self, (ownN c + 1) % 4294967296, f, Nat.mod_lt _ (by decide)⟩
def sentS (s : Sg) (f : Nat → En) : Sg := ⟨s.c.wCount (takeC s.c.count (nextK s.c f)), takeL s.L (nextK s.c f), s.t ++ [takeH (nextK s.c f)]⟩
def sendS (s : Sg) (f : Nat → En) : Sg := if sendB s.c = true then sentS s f else s

def tick0 (c : Co) : Co := proposeC (c.wBeat (tickB c.beat)) (reachC (c.wBeat (tickB c.beat)))
def tick1 (c : Co) (L : List Kt) : Sg := goOnS ⟨tick0 c, L, []⟩
def tickS (c : Co) (L : List Kt) (f : Nat → En) : Sg := sendS (tick1 c L) f
def tickD (c : Co) (L : List Kt) : Bool := sendB (tick1 c L).c

/- To receive. -/
def heedB (c : Co) (p : Pk) : Bool := !decide ((p.n 0 : Int) = c.self) && hearsB c.beat (p.n 0 : Int) (p.n 1)
def hearC (c : Co) (p : Pk) : Co := ((c.wBeat (hearB c.beat (p.n 0 : Int) (p.n 1))).wPeer (p.n 0) (updP (c.peers (p.n 0)) (told p))).wEpoch (max c.epoch (max (p.n 33) (p.n 21)))
def adopC (c : Co) (p : Pk) : Co := if adoptB c.pr c.self c.own p = true then promC c p.pr p.want else c
def mostB (c : Co) : Bool := !gathB c || (!c.rdy && allB c)
def mostC (c : Co) : Nat → Nat := if gathB c = true then targC c else fun _ => ownN c
def offered (s : Sg) (p : Pk) : Os := offO s.c.mem (mostC s.c) p ⟨s.L, s.c.count, []⟩
def offedS (s : Sg) (p : Pk) : Sg := ⟨s.c.wCount (offered s p).c, (offered s p).L, s.t ++ (offered s p).t.map takeH⟩
def offS (s : Sg) (p : Pk) : Sg := if (mostB s.c && Idn.same p.conf s.c.conf) = true then offedS s p else s
def recv0 (c : Co) (p : Pk) : Co := adopC (hearC c p) p
def recvY (c : Co) (L : List Kt) (p : Pk) : Sg := goOnS (offS ⟨recv0 c p, L, []⟩ p)
def recvS (c : Co) (L : List Kt) (p : Pk) : Sg := if heedB c p = true then recvY c L p else ⟨c, L, []⟩

/- How it begins. -/
def startB (s : Int) (n : Nat) (wt : Int) : Bool := decide (0 ≤ s ∧ s ≤ 7 ∧ n ≠ 0 ∧ 1 ≤ wt ∧ wt ≤ 1000)
def startC (s : Int) (n : Nat) (wt : Int) : Co :=
  if startB s n wt = true then ⟨s, wt, n, Bt.zero, ⟨0, s.toNat, n⟩, put8 noMb s.toNat n, noMb, none, 0, 0, ⟨0, s.toNat, n⟩, put8 noMb s.toNat n, noMb, false, noPe, 0⟩ else Co.zero

end Go.Proofs.Ythgmecgknhphmaa
