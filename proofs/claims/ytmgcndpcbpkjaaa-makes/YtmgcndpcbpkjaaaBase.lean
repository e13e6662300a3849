/- Plain definitions and lemmas: rules and peers as they lie in memory; what may be. No function of the program is walked here. -/
import Derived.Test.YtmgcndpcbpkjaaaRows
import Derived.WalkKit
import Derived.WalkSpells
import Derived.WalkLawsBesides
namespace Go.Proofs.Ytmgcndpcbpkjaaa
open Go.RowKit
set_option linter.unusedSimpArgs false
set_option linter.unusedVariables false

structure Rl where
  p : Bool
  a : Int
  l : Int
  g : Int
  e : Int

def Rl.cells (r : Rl) : List Value := [.bool r.p, .int .u32 r.a, .int .i64 r.l, .int .i64 r.g, .int .i64 r.e]

/-- A slice value of n elements of so many cells each: element i holds the cells c i. -/
def Sl (w : World) (size : Nat) (v : Value) (n : Nat) (c : Nat → List Value) : Prop :=
  ∃ ao cap, v = .slice ao n cap ∧ n ≤ cap ∧ cap ≤ maxLen ∧
    (0 < n → ∃ b o, ao = some ⟨b, o, none⟩ ∧ ∀ i < n, ∀ k u, (c i)[k]? = some u → w.cell? ⟨b, o + i * size + k, none⟩ = some u)

def RsAt (w : World) (v : Value) (n : Nat) (r : Nat → Rl) : Prop := Sl w 5 v n (fun i => (r i).cells) ∧ ∀ i < n, 0 ≤ (r i).a ∧ (r i).a < 4294967296

structure Pr where
  au : Int
  hold : Int
  lim : Int
  pref : Int
  wait : Int
  im : Value
  ni : Nat
  ir : Nat → Rl
  ex : Value
  ne : Nat
  er : Nat → Rl

def Pr.cells (p : Pr) : List Value := [.int .i64 p.au, .int .i64 p.hold, .int .i64 p.lim, .int .i64 p.pref, .int .i64 p.wait, p.im, p.ex]

def PsAt (w : World) (v : Value) (n : Nat) (P : Nat → Pr) : Prop :=
  Sl w 7 v n (fun i => (P i).cells) ∧ ∀ i < n, RsAt w (P i).im (P i).ni (P i).ir ∧ RsAt w (P i).ex (P i).ne (P i).er

def betB (n lo hi : Int) : Bool := decide (lo ≤ n) && decide (n ≤ hi)

theorem betB_true {n lo hi : Int} (h : lo ≤ n) (h' : n ≤ hi) : betB n lo hi = true := by simp [betB, h, h']
theorem betB_false {n lo hi : Int} (h : ¬ (lo ≤ n ∧ n ≤ hi)) : betB n lo hi = false := by simp [betB]; omega

def ruleB (r : Rl) : Bool := betB r.l 0 32 && decide (r.a % 2^(32 - r.l.toNat) = 0) && betB r.g r.l r.e && decide (r.e ≤ 32)
def allB (n : Nat) (r : Nat → Rl) : Bool := (List.range n).all fun i => ruleB (r i)
def fltB (n : Nat) (r : Nat → Rl) : Bool := decide (n ≤ 8) && allB n r
def holdB (h : Int) : Bool := h == 0 || betB h 3 65535
def peerB (p : Pr) : Bool := betB p.au 1 65535 && holdB p.hold && decide (0 ≤ p.lim) && betB p.pref 0 2147483648 && betB p.wait 0 1000 && fltB p.ni p.ir && fltB p.ne p.er
def spkB (au id : Int) (n : Nat) : Bool := betB au 1 65535 && (id != 0) && decide (n ≤ 8)
/-- The first peer from k on, of so many, with which something is: counted from 1; 0: none. -/
def firstBad (P : Nat → Pr) : Nat → Nat → Nat
  | _, 0 => 0
  | k, m + 1 => if peerB (P k) then firstBad P (k + 1) m else k + 1
def faultOf (au id : Int) (n : Nat) (P : Nat → Pr) : Int × Int :=
  if spkB au id n then (if firstBad P 0 n = 0 then (0, 0) else (1, (firstBad P 0 n : Nat))) else (1, 0)

theorem pow_split (l : Nat) (h : l ≤ 32) : (2:Int)^32 = 2^(32-l) * 2^l := by
  rw [← Int.pow_add]; congr 1; omega

theorem shl_zero (a : Int) (l : Nat) (h : l ≤ 32) : (a * 2^l) % 2^32 = 0 ↔ a % 2^(32-l) = 0 := by
  have hp : (0:Int) < 2^l := Int.pow_pos (by decide)
  rw [pow_split l h, Int.mul_comm a, Int.mul_comm (2^(32-l)), Int.mul_emod_mul_of_pos _ _ hp]
  constructor
  · intro h0; rcases Int.mul_eq_zero.1 h0 with h1 | h1
    · omega
    · exact h1
  · intro h0; rw [h0]; simp

theorem shlB (a l : Int) (h1 : l ≤ 32) : a * 2 ^ l.toNat % 4294967296 = 0 ↔ a % 2^(32 - l.toNat) = 0 := shl_zero a l.toNat (by omega)

end Go.Proofs.Ytmgcndpcbpkjaaa
