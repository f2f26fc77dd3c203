/- PLANS, PLAINLY. Nothing here knows the program. -/
import Derived.Test.YtmkinnheoejphaaGreatDoorLow
namespace Go.Proofs.YtmkinnheoejphaaGreatDoor
namespace Pn
structure Pt where
  ep : Int
  ch : List Int
  le : Int
structure P where
  nodes : Int
  copies : Int
  parts : List Pt
  lives : List (Int × Int)
structure Ev where
  kind : Int
  node : Int
  part : Int
  n : Int
def epB (n : Int) : Bool := decide (1 ≤ n) && decide (n ≤ 1073741824)
def layB (n c m : Int) : Bool := decide (1 ≤ n) && decide (n ≤ 5) && decide (1 ≤ c) && decide (c ≤ n) && decide (2 ≤ m) && decide (m ≤ 4)
/-- Whether a chain's node, the i-th, can be. -/
def nodeB (x : Pt) (nodes : Int) (i : Nat) (n : Int) : Bool := decide (1 ≤ n) && decide (n ≤ nodes) && (n != x.le) && !(x.ch.take i).contains n
def chTo (x : Pt) (nodes : Int) (k : Nat) : Bool := (List.range k).all fun i => match x.ch[i]? with
  | some n => nodeB x nodes i n
  | none => true
def placeB (x : Pt) (nodes : Int) : Bool := epB x.ep && decide (0 ≤ x.le) && decide (x.le ≤ nodes) && decide (1 ≤ x.ch.length) && decide ((x.ch.length : Int) ≤ nodes) && chTo x nodes x.ch.length
def livesB (nodes : Int) : Int → List (Int × Int) → Bool
  | _, [] => true
  | last, q :: l => decide (last < q.1) && decide (q.1 ≤ nodes) && epB q.2 && livesB nodes q.1 l
def goodB (p : P) : Bool := layB p.nodes p.copies p.parts.length && p.parts.all (fun x => placeB x p.nodes) && livesB p.nodes 0 p.lives
def evB (x : Ev) : Bool :=
  if x.kind = 1 then decide (1 ≤ x.node) && decide (x.node ≤ 5) && decide (x.part = 0) && epB x.n
  else if x.kind = 2 then decide (1 ≤ x.node) && decide (x.node ≤ 5) && decide (x.part = 0) && decide (x.n = 0)
  else if x.kind = 3 then decide (1 ≤ x.node) && decide (x.node ≤ 5) && decide (0 ≤ x.part) && decide (x.part < 4) && epB x.n
  else if x.kind = 4 then decide (x.node = 0) && decide (x.part = 0) && decide (x.n = 0)
  else if x.kind = 5 then decide (1 ≤ x.node) && decide (x.node ≤ 5) && decide (0 ≤ x.part) && decide (x.part < 4) && decide (x.n = 0)
  else false
/-- A partition's chain at its beginning. -/
def ch0 (nodes copies part : Int) : List Int := (List.range copies.toNat).map fun (i : Nat) => (part + (i : Int)) % nodes + 1
def first (nodes copies part : Int) : Pt := ⟨1, ch0 nodes copies part, 0⟩
def new (n c m : Int) : P := ⟨n, c, (List.range m.toNat).map fun (k : Nat) => first n c (k : Int), []⟩
def life (l : List (Int × Int)) (n : Int) : Int := match l.find? (fun q => q.1 == n) with
  | some q => q.2
  | none => 0
def wantB (c n : Int) (x : Pt) : Bool := decide ((x.ch.length : Int) < c) && (x.le == 0) && !x.ch.contains n
/-- The places at which something holds, from k on. -/
def idx {α : Type} (f : α → Bool) : Nat → List α → List Nat
  | _, [] => []
  | k, x :: l => if f x = true then k :: idx f (k + 1) l else idx f (k + 1) l
def wants (p : P) (n : Int) : List Nat := if 1 ≤ n ∧ n ≤ p.nodes then idx (wantB p.copies n) 0 p.parts else []
def hasB (n : Int) (x : Pt) : Bool := x.le == n || x.ch.contains n
/-- A list without the place where n stands first. -/
def wo (l : List Int) (n : Int) : List Int := l.take (l.idxOf n) ++ l.drop (l.idxOf n + 1)
def loseB (n : Int) (x : Pt) : Bool := x.le == n || (x.ch.contains n && decide (x.ch.length ≠ 1))
def lose (n : Int) (x : Pt) : Pt := if x.le = n then { x with le := 0 } else if x.ch.contains n = true ∧ x.ch.length ≠ 1 then { x with ch := wo x.ch n } else x
/-- The next epoch of these partitions. -/
def rise : List Pt → List Nat → Option (List Pt)
  | ps, [] => some ps
  | ps, k :: ks => match ps[k]? with
    | some x => if x.ep = 1073741824 then none else rise (ps.set k { x with ep := x.ep + 1 }) ks
    | none => rise ps ks
inductive R where
  | bad : Int → R
  | ok : P → List Nat → R
def fin (p : P) (ps : List Pt) (ls : List (Int × Int)) (t : List Nat) : R := match rise ps t with
  | some qs => .ok ⟨p.nodes, p.copies, qs, ls⟩ t
  | none => .bad 32
def okB (p : P) (x : Ev) : Bool := goodB p && evB x && decide (x.node ≤ p.nodes) && decide (x.part < p.parts.length)
def apply1 (p : P) (x : Ev) : R := if x.n ≤ life p.lives x.node then .bad 21 else fin p p.parts (Fk.putPt p.lives x.node x.n) (idx (hasB x.node) 0 p.parts)
def apply2 (p : P) (x : Ev) : R := if idx (loseB x.node) 0 p.parts = [] then .bad 21 else fin p (p.parts.map (lose x.node)) p.lives (idx (loseB x.node) 0 p.parts)
def at' (p : P) (x : Ev) : Pt := p.parts.getD x.part.toNat ⟨0, [], 0⟩
def apply3 (p : P) (x : Ev) : R := if x.n = (at' p x).ep ∧ x.node = (at' p x).le then fin p (p.parts.set x.part.toNat ⟨(at' p x).ep, (at' p x).ch ++ [x.node], 0⟩) p.lives [x.part.toNat] else .bad 21
def apply4 (p : P) : R := if p.parts.length = 4 then .bad 32 else .ok ⟨p.nodes, p.copies, p.parts ++ [first p.nodes p.copies p.parts.length], p.lives⟩ [p.parts.length]
def apply5 (p : P) (x : Ev) : R := if life p.lives x.node = 0 ∨ wantB p.copies x.node (at' p x) = false then .bad 21 else fin p (p.parts.set x.part.toNat ⟨(at' p x).ep, (at' p x).ch, x.node⟩) p.lives [x.part.toNat]
/-- The plan behind an event. -/
def apply (p : P) (x : Ev) : R :=
  if okB p x = false then .bad 1
  else if x.kind = 1 then apply1 p x
  else if x.kind = 2 then apply2 p x
  else if x.kind = 3 then apply3 p x
  else if x.kind = 4 then apply4 p
  else apply5 p x
end Pn
end Go.Proofs.YtmkinnheoejphaaGreatDoor
