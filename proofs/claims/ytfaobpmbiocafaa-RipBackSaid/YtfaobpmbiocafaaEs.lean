/-
  The datagram of routes, or why there is none: definitions on values alone.
-/
import Derived.Test.YtfaobpmbiocafaaPs
namespace Go.Proofs.Ytfaobpmbiocafaa.Es
open Go.ChangeShapes Go.WideShapes Go.ChangeAt Go.RowKit
open Go.Proofs.Ytfaobpmbiocafaa.Ms
open Go.Proofs.Ytfaobpmbiocafaa.Rp
open Go.Proofs.Ytfaobpmbiocafaa.Ps
open Go.Proofs.Ytfaobpmbiocafaa.Bk (E)
set_option linter.unusedVariables false
set_option maxRecDepth 100000

/-- The mask of a route's entry. -/
def maskM (m : M) : ByteArray := if m.family = 2 ∧ m.ver = 2 then Mask.ofB m.plen else ⟨#[0, 0, 0, 0]⟩
def entryM (m : M) : E := ⟨m.family, m.tag, m.pfx, maskM m, m.next, m.metric⟩
def lineL (m : M) : List UInt8 := (Ent.putE (entryM m)).data.toList
def hdL (f : M) : List UInt8 := Ent.layN f.cmd 1 ++ (Ent.layN f.ver 1 ++ ([0, 0] ++ (Au.putA f.auth).data.toList))
def at0 (l : List M) (i : Nat) : M := l.getD i M.zero
theorem at0_eq (l : List M) (i : Nat) (h : i < l.length) : at0 l i = l[i] := by unfold at0; rw [List.getD_eq_getElem?_getD, List.getElem?_eq_getElem h]; rfl
def wrtL (l : List M) : List UInt8 := hdL (at0 l 0) ++ l.flatMap lineL
/-- How many may stand together with it. -/
def most (m : M) : Nat := if m.auth.size = 0 then 25 else 24
def tog (a b : M) : Bool := a.family != 0 && (b.family != 0 && (a.cmd == b.cmd && (a.ver == b.ver && a.auth.toList == b.auth.toList)))
/-- What is wrong with the i-th one, behind those ahead. -/
def ckT (l : List M) (i : Nat) : Int := if i = most (at0 l 0) then 8 else if 0 < i ∧ tog (at0 l 0) (at0 l i) = false then 7 else 0
/-- May the i-th not be? -/
def ckW (l : List M) (i : Nat) : Int := if rightB (at0 l i) then 0 else 1
/-- The answer: bytes, a place, an error. -/
def enc (l : List M) : ByteArray × Int × Int :=
  match bad (ckW l) l.length with
  | some i => (ByteArray.mk #[], ((i : Nat) : Int), 1)
  | none => if l.length = 0 then (⟨#[]⟩, 0, 8) else
    match bad (ckT l) l.length with
    | some i => (ByteArray.mk #[], ((i : Nat) : Int), ckT l i)
    | none => (⟨(wrtL l).toArray⟩, 0, 0)

theorem enc_wrong {l : List M} {k : Nat} (hk : k < l.length) (h : ∀ i, i < k → ckW l i = 0) (hn : ckW l k ≠ 0) : enc l = (ByteArray.mk #[], ((k : Nat) : Int), 1) := by
  unfold enc
  rw [bad_some hk h hn]
theorem enc_none {l : List M} (h : l.length = 0) : enc l = (ByteArray.mk #[], 0, 8) := by
  unfold enc
  rw [bad_none (fun i hi => absurd hi (by omega)), if_pos h]
theorem enc_apart {l : List M} {k : Nat} (hw : ∀ i, i < l.length → ckW l i = 0) (hk : k < l.length) (h : ∀ i, i < k → ckT l i = 0) (hn : ckT l k ≠ 0) : enc l = (ByteArray.mk #[], ((k : Nat) : Int), ckT l k) := by
  unfold enc
  rw [bad_none hw, if_neg (by omega), bad_some hk h hn]
theorem enc_ok {l : List M} (hw : ∀ i, i < l.length → ckW l i = 0) (h0 : l.length ≠ 0) (h : ∀ i, i < l.length → ckT l i = 0) : enc l = (ByteArray.mk (wrtL l).toArray, 0, 0) := by
  unfold enc
  rw [bad_none hw, if_neg h0, bad_none h]
theorem ckW_zero {l : List M} {i : Nat} : ckW l i = 0 ↔ rightB (at0 l i) = true := by
  unfold ckW
  cases rightB (at0 l i) <;> simp
theorem all_right {l : List M} (h : ∀ i, i < l.length → ckW l i = 0) : ∀ m ∈ l, rightB m = true := by
  intro m hm
  obtain ⟨i, hi, rfl⟩ := List.getElem_of_mem hm
  have := ckW_zero.1 (h i hi)
  rwa [at0_eq l i hi] at this
end Go.Proofs.Ytfaobpmbiocafaa.Es
