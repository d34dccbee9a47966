/- What a check of a pattern answers, as a plain function. -/
import Derived.Test.YtfkgicakiapmaaaPatCho
namespace Go.Proofs.Ytfkgicakiapmaaa

def sepFrom : Nat → List (Nat × Nat) → Bool
  | _, [] => true
  | f, x :: r => decide (f ≤ x.1 ∧ x.1 ≤ x.2) && sepFrom (x.2 + 2) r
def sepN (l : List (Nat × Nat)) : Bool := sepFrom 0 l && decide (0 < l.length)
def wellB (op : Int) (rl : Nat) (sep nme : Bool) (kl : Nat) (mn mx : Int) : Bool :=
  if (op ≠ 1 ∧ 0 < rl) ∨ (op ≠ 5 ∧ nme = false) then false
  else if op ≠ 4 ∧ (mn ≠ 0 ∨ mx ≠ 0) then false
  else if op = 0 ∨ op = 6 ∨ op = 7 then decide (kl = 0)
  else if op = 1 then decide (kl = 0) && sep
  else if op = 2 ∨ op = 3 then decide (2 ≤ kl)
  else if op = 4 ∨ op = 5 then decide (kl = 1)
  else false
def boundsB (a b : Int) : Bool := if a < 0 ∨ 40 < a then false else decide (b = -1 ∨ (a ≤ b ∧ b ≤ 40))
def nmE (n : ByteArray) : Bool := n.toList.isEmpty
def nodeErr (op : Int) (rs : List (Nat × Nat)) (nm : ByteArray) (kl : Nat) (mn mx : Int) : Int :=
  if wellB op rs.length (sepN rs) (nmE nm) kl mn mx = false then 1
  else if op = 5 ∧ nameN nm.data.toList = false then 6
  else if op = 4 ∧ boundsB mn mx = false then 2
  else 0
mutual
def visN : Nd → Nat → Nat × List ByteArray → Int × (Nat × List ByteArray)
  | .mk op rs nm kids mn mx, d, st =>
    if 400 < st.1 + 1 then (4, (st.1 + 1, st.2))
    else if 20 < d then (5, (st.1 + 1, st.2))
    else if nodeErr op rs nm kids.length mn mx ≠ 0 then (nodeErr op rs nm kids.length mn mx, (st.1 + 1, st.2))
    else visAll kids (d + 1) (st.1 + 1, if op = 5 then st.2 ++ [nm] else st.2)
def visAll : List Nd → Nat → Nat × List ByteArray → Int × (Nat × List ByteArray)
  | [], _, st => (0, st)
  | k :: r, d, st => if (visN k d st).1 ≠ 0 then visN k d st else visAll r d (visN k d st).2
end
def namesErr (l : List ByteArray) : Int := if ¬ l.Nodup then 7 else if 16 < l.length then 4 else 0
def chkN (t : Nd) : Int := if (visN t 0 (0, [])).1 ≠ 0 then (visN t 0 (0, [])).1 else namesErr (visN t 0 (0, [])).2.2
mutual
def cntN : Nd → Nat → Nat
  | .mk _ _ _ kids _ _, lim => cntAll kids lim 1
def cntAll : List Nd → Nat → Nat → Nat
  | [], _, n => n
  | k :: r, lim, n => if n = lim then n else cntAll r lim (n + cntN k (lim - n))
end
end Go.Proofs.Ytfkgicakiapmaaa
