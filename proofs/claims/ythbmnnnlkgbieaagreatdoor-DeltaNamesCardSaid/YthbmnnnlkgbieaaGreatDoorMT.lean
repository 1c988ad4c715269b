/- Plain mathematics: tokens of lists of bytes. -/
import Derived.Test.YthbmnnnlkgbieaaGreatDoorMQ
namespace Go.Proofs.YthbmnnnlkgbieaaGreatDoor

def letN (n : Int) : Bool := decide ((97 ≤ n ∧ n ≤ 122) ∨ (65 ≤ n ∧ n ≤ 90) ∨ n = 95)
def digN (n : Int) : Bool := decide (48 ≤ n ∧ n ≤ 57)
def blkN (n : Int) : Bool := decide (n = 32 ∨ n = 9 ∨ n = 10 ∨ n = 13)
def wdN (n : Int) : Bool := letN n || digN n
/-- Is one in a comment behind a byte? -/
def cmt (c : Bool) (n : Int) : Bool := if n = 10 then false else if n = 35 then true else c
/-- Is the next sign meant by a backslash? -/
def sls (c : Bool) (n : Int) : Bool := decide (n = 92) && !c

/-- How many bytes a machine goes through: it has a state; at each byte it turns it, and says whether it goes on. -/
def runM (st : Bool → Int → Bool) (go : Bool → Int → Bool) : Bool → List UInt8 → Nat
  | _, [] => 0
  | c, b :: t => if go c b.toNat = true then 1 + runM st go (st c b.toNat) t else 0
theorem runM_le (st go : Bool → Int → Bool) : ∀ (c : Bool) (l : List UInt8), runM st go c l ≤ l.length
  | _, [] => Nat.le_refl _
  | c, b :: t => by
    have := runM_le st go (st c b.toNat) t
    unfold runM
    split <;> simp <;> omega
theorem runM_go {st go : Bool → Int → Bool} {c : Bool} {b : UInt8} {t : List UInt8} (h : go c b.toNat = true) : runM st go c (b :: t) = 1 + runM st go (st c b.toNat) t := by rw [runM, if_pos h]
theorem runM_stop {st go : Bool → Int → Bool} {c : Bool} {b : UInt8} {t : List UInt8} (h : go c b.toNat = false) : runM st go c (b :: t) = 0 := by rw [runM, if_neg (by simp [h])]

def wSt (c : Bool) (_n : Int) : Bool := c
def wGo (_c : Bool) (n : Int) : Bool := wdN n
def lGo (c : Bool) (n : Int) : Bool := cmt c n || blkN n
def qGo (c : Bool) (n : Int) : Bool := decide (n ≠ 34) || c
def wLen (l : List UInt8) : Nat := runM wSt wGo false l
def lLen (l : List UInt8) : Nat := runM cmt lGo false l
def qLen (l : List UInt8) : Nat := runM sls qGo false l
end Go.Proofs.YthbmnnnlkgbieaaGreatDoor
