/-
  A stepper's block; an address's short and long bytes, the router-id in it, an Update's address by what is known, what its flags say, whether it is told. Conditions: what is known may be, the Update counts; the variables have what they are laid with.
  What an Update's flags say, whether it is told, its message. Conditions: the Update counts; the Subs stand in the world.
-/
import Derived.Test.YtpkmpinbpfblfaaGreatDoorQ04
import Derived.Test.YtpkmpinbpfblfaaGreatDoorQ05
import Derived.Test.YtpkmpinbpfblfaaGreatDoorQ07
namespace Go.Proofs.YtpkmpinbpfblfaaGreatDoor.K3
open Go.ChangeShapes Go.WideShapes Go.ChangeAt Go.RowKit
open Go.Proofs.YtpkmpinbpfblfaaGreatDoor.Ms
open Go.Proofs.YtpkmpinbpfblfaaGreatDoor.Box
open Go.Proofs.YtpkmpinbpfblfaaGreatDoor.S1
open Go.Proofs.YtpkmpinbpfblfaaGreatDoor.Lk (shA lgA link)
open Go.Proofs.YtpkmpinbpfblfaaGreatDoor.Nu (text_eq ext_list)
open Go.Proofs.YtpkmpinbpfblfaaGreatDoor.J1
open Go.Proofs.YtpkmpinbpfblfaaGreatDoor.J2 (bool_eq int_eq str_eq nil_eq nil_em size_eq)
open Go.Proofs.YtpkmpinbpfblfaaGreatDoor.J4 (shU wpList_loadU wpList_storeU)
open Go.Proofs.YtpkmpinbpfblfaaGreatDoor.An
open Go.Proofs.YtpkmpinbpfblfaaGreatDoor.Tc
open Go.Proofs.YtpkmpinbpfblfaaGreatDoor.K1
open Go.Proofs.YtpkmpinbpfblfaaGreatDoor.Kb
open Go.Proofs.YtpkmpinbpfblfaaGreatDoor.K2
open Go.Proofs.YtpkmpinbpfblfaaGreatDoor.Bits (keepL keepL_length keepL_all keepL_keep)
open Go.Proofs.YtpkmpinbpfblfaaGreatDoor.Pre (leastN cutL fillL fillL_length)
open Go.Proofs.YtpkmpinbpfblfaaGreatDoor.Bk (Bk Sh alloc_size wpList_loadK wpList_storeK run_loadK results_one loadVarK)
open Go.Proofs.YtpkmpinbpfblfaaGreatDoor.Hs
open Go.Proofs.YtpkmpinbpfblfaaGreatDoor.Or (st_yes)
set_option linter.unusedVariables false
set_option maxRecDepth 100000
set_option maxRecDepth 100000
def shC (ae : Int) (a : ByteArray) : ByteArray := if ae = 3 then shA a else a
theorem short_any (ae : Int) (a : ByteArray) (w : World) : Calls Tryz.prog 105 #[.int .i64 ae, .string a] w fun e w' => e = .returned (.string (shC ae a)) ∧ w = w' := by
  by_cases h3 : ae = 3
  · subst h3
    have HK := Lib.hid (show shC 3 a = shA a from rfl)
    have P1 := Lib.hid (fun V => Lk.short_any a V)
    generalize shC 3 a = y at *
    generalize shA a = z at *
    go_enter Tryz.func105, Tryz.ntmps105
    go_wp2_with fail
    refine (P1.out _).mono ?_
    rintro r w' ⟨rfl, rfl⟩
    go_wp2
    go_ret
    exact ⟨str_eq HK.out.symm, rfl⟩
  have HK := Lib.hid (show shC ae a = a by unfold shC; rw [if_neg h3])
  have e3 : (ae == 3) = false := by simpa using h3
  have f3 : (ae != 3) = true := by rw [bne, e3]; rfl
  go_enter Tryz.func105, Tryz.ntmps105
  go_wp2
  go_ret
  exact ⟨str_eq HK.out.symm, rfl⟩
def lgC (ae : Int) (a : ByteArray) : ByteArray := if ae = 3 then lgA a else a
theorem long_any (ae : Int) (a : ByteArray) (w : World) : Calls Tryz.prog 94 #[.int .i64 ae, .string a] w fun e w' => e = .returned (.string (lgC ae a)) ∧ w = w' := by
  by_cases h3 : ae = 3
  · subst h3
    have HK := Lib.hid (show lgC 3 a = lgA a from rfl)
    have P1 := Lib.hid (fun V => Lk.long_any a V)
    generalize lgC 3 a = y at *
    generalize lgA a = z at *
    go_enter Tryz.func94, Tryz.ntmps94
    go_wp2_with fail
    refine (P1.out _).mono ?_
    rintro r w' ⟨rfl, rfl⟩
    go_wp2
    go_ret
    exact ⟨str_eq HK.out.symm, rfl⟩
  have HK := Lib.hid (show lgC ae a = a by unfold lgC; rw [if_neg h3])
  have e3 : (ae == 3) = false := by simpa using h3
  have f3 : (ae != 3) = true := by rw [bne, e3]; rfl
  go_enter Tryz.func94, Tryz.ntmps94
  go_wp2
  go_ret
  exact ⟨str_eq HK.out.symm, rfl⟩
theorem idOf_any (a : ByteArray) (w : World) (ha : a.size ≤ 1000) : Calls Tryz.prog 106 #[.string a] w fun e w' => e = .returned (.string (idA a)) ∧ Below w.heap.size w w' := by
  have P1 := Lib.hid (fun V => Oct.zeros_mid 8 V (by decide))
  have P1 := Lib.hid (show ∀ V, Calls Tryz.prog 110 #[.int .i64 8] V fun e w' => e = .returned (.string ⟨(List.replicate 8 (0 : UInt8)).toArray⟩) ∧ Below V.heap.size V w' from P1.out)
  obtain ⟨x, hx⟩ : ∃ x : ByteArray, ByteArray.mk (List.replicate 8 (0 : UInt8)).toArray = x := ⟨_, rfl⟩
  have hxs : x.size = 8 := by rw [← hx]; rfl
  have hxl : x.data.toList = List.replicate 8 0 := by rw [← hx]
  rw [hx] at P1
  have HK : (x ++ a).extract a.size (x ++ a).size = idA a := text_eq (by
    rw [ext_to, ByteArray.data_append, Array.toList_append, hxl]
    rfl)
  have hsz : (x ++ a).size = 8 + a.size := by rw [ByteArray.size_append, hxs]
  have hcat : ∀ W : World, (Op.stringOp .add x a).run Tryz.prog W = .ok (.string (x ++ a)) W := fun W => run_string_add_sum W x a (by omega)
  generalize x ++ a = z at *
  have hw : wrap64 ((z.size : Int) - 8) = (a.size : Int) := by rw [IntWalk.wrap64_in _ ⟨by omega, by omega⟩]; omega
  have hsl : ∀ wx, Sem.run Tryz.prog (Instr.slice 9 (Value.string z) (some (Value.int IntKind.i64 (a.size : Int))) none none) wx = .ok (.string (idA a)) wx := fun wx => by
    have := F2.sl_l z (a.size : Int) a.size z.size rfl (by omega) rfl wx
    rw [HK] at this
    exact this
  generalize idA a = y at *
  clear HK hx hxl hsz hxs ha
  go_enter Tryz.func106, Tryz.ntmps106
  go_wp2_with fail
  refine (P1.out _).mono ?_
  rintro r w' ⟨rfl, hb⟩
  go_wp2
  go_ret
  exact ⟨rfl, hb⟩
/-- The cells of a stepper: what is known, what was told. -/
def stC (c : Kx) (v : Value) : Array Value := #[.string c.p0, .string c.p1, .string c.p2, .string c.p3, .string c.n0, .string c.n1, .string c.id, v]
theorem shS : Sh Tryz.prog 81 8 := ⟨_, Tryz.underlying81, by kernel_rfl⟩
theorem oneS (c : Kx) (a : Option Addr) (n k : Nat) : ((stC c (.slice a n k)).all fun x => x.oneCell') = true := by simp [stC, Value.oneCell']
theorem wpList_loadS {ops : Array Oper} {rest : List Oper} {o : Oper} {a : Act} {w : World} {Q : Exit → Act → World → Prop} (hgd : o.guard = none) (x : Operand) (ho : o.op = .load 81 x) {b : Nat} (hx : a.eval x = .pointer (some ⟨b, 0, none⟩)) {c : Kx} {v : Value} (hb : Bk 81 w b (stC c v))
    (h : wpList Tryz.prog ops Q rest (a.put o.dst (.agg (stC c v))) w) : wpList Tryz.prog ops Q (o :: rest) a w := wpList_loadK shS hgd x ho hx hb rfl h
theorem wpList_storeS {ops : Array Oper} {rest : List Oper} {o : Oper} {a : Act} {w : World} {Q : Exit → Act → World → Prop} (hgd : o.guard = none) (x y : Operand) (ho : o.op = .store 81 x y) {b : Nat} (hx : a.eval x = .pointer (some ⟨b, 0, none⟩)) {c c' : Kx} {v : Value} {q : Option Addr} {n k : Nat} (hy : a.eval y = .agg (stC c' (.slice q n k))) (hb : Bk 81 w b (stC c v))
    (h : wpList Tryz.prog ops Q rest (a.put o.dst undef) (w.setRow b (stC c' (.slice q n k)))) : wpList Tryz.prog ops Q (o :: rest) a w := wpList_storeK shS hgd x y ho hx hy hb rfl rfl (oneS c' q n k) h
theorem pf_cell {W : World} {b : Nat} {c : Kx} {v : Value} (h : Bk 81 W b (stC c v)) {k : Nat} (hk : k < 4) : W.cell? ⟨b, k, none⟩ = some (.string (c.pf k)) := by
  rcases (show k = 0 ∨ k = 1 ∨ k = 2 ∨ k = 3 by omega) with rfl | rfl | rfl | rfl
  · exact h.cell 0 _ rfl
  · exact h.cell 1 _ rfl
  · exact h.cell 2 _ rfl
  · exact h.cell 3 _ rfl
theorem nx_cell {W : World} {b : Nat} {c : Kx} {v : Value} (h : Bk 81 W b (stC c v)) {k : Nat} (hk : k < 2) : W.cell? ⟨b, 4 + k, none⟩ = some (.string (c.nx k)) := by
  rcases (show k = 0 ∨ k = 1 by omega) with rfl | rfl
  · exact h.cell 4 _ rfl
  · exact h.cell 5 _ rfl
theorem setP_cells (c : Kx) (a : ByteArray) (v : Value) {k : Nat} (hk : k < 4) : (stC c v).setIfInBounds k (.string a) = stC (c.setP k a) v := by
  rcases (show k = 0 ∨ k = 1 ∨ k = 2 ∨ k = 3 by omega) with rfl | rfl | rfl | rfl <;> rfl
/-- What stays: the stepper's copy in block b, the Update's in block g, the variables. -/
structure SU (w W : World) (b g : Nat) (c : Kx) (v : Value) (u : Up) : Prop where
  s : Bk 81 W b (stC c v)
  u : Bk 119 W g u.cells
  tab : Tab W
  bel : Below w.heap.size w W
section
variable {w W w' : World} {b g : Nat} {c : Kx} {v : Value} {u : Up}
theorem SU.call (h : SU w W b g c v u) (hb : Below W.heap.size W w') : SU w w' b g c v u := ⟨h.s.below hb, h.u.below hb, h.tab.below hb, h.bel.trans (hb.mono h.bel.size)⟩
theorem SU.drew (h : SU w W b g c v u) : SU w W.drew b g c v u := ⟨h.s, h.u, h.tab.drew, h.bel.drew⟩
theorem SU.new (w : World) (c : Kx) (v : Value) (u : Up) (ht : Tab w) : SU w ((w.alloc (.cells (stC c v) 81)).alloc (.cells u.cells 119)) w.heap.size (w.heap.size + 1) c v u := by
  have hu := Bk.Bk.new 119 (w.alloc (.cells (stC c v) 81)) u.cells
  rw [alloc_size] at hu
  have hb := balloc (balloc (Below.refl _ w) (.cells (stC c v) 81)) (.cells u.cells 119)
  exact ⟨(Bk.Bk.new 81 w (stC c v)).old _, hu, ht.below hb, hb⟩
theorem heldU {P : Program} {f : Nat} {args : Array Value} {x : Ending} (h : Calls P f args W fun e w' => e = x ∧ Below W.heap.size W w') (hS : SU w W b g c v u) : Calls P f args W fun e w' => e = x ∧ SU w w' b g c v u :=
  h.mono fun _ _ ⟨he, hb⟩ => ⟨he, hS.call hb⟩
theorem heldQ {P : Program} {f : Nat} {args : Array Value} {x : Ending} (h : Calls P f args W fun e w' => e = x ∧ W = w') (hS : SU w W b g c v u) : Calls P f args W fun e w' => e = x ∧ SU w w' b g c v u :=
  h.mono fun _ _ ⟨he, hb⟩ => ⟨he, hb ▸ hS⟩
end
/-- What the program cuts, fills, lengthens and keeps is the Update's address. -/
def x1 (c : Kx) (u : Up) : ByteArray := shC u.ae (c.pf u.ae)
def x2 (c : Kx) (u : Up) : ByteArray := ⟨(cutL (x1 c u).data.toList (8 * u.om)).toArray⟩
def x3 (c : Kx) (u : Up) : ByteArray := ⟨(fillL (x2 c u ++ u.bytes).data.toList (sizeA u.ae)).toArray⟩
def x4 (c : Kx) (u : Up) : ByteArray := lgC u.ae (x3 c u)
theorem cut_by8 {l : List UInt8} {n : Int} (h : 0 ≤ n) : cutL l (8 * n) = l.take n.toNat := by
  unfold cutL leastN
  rw [show ((8 * n).toNat + 7) / 8 = n.toNat by omega]
  apply List.ext_getElem
  · rw [List.length_take, List.length_take, keepL_length]
  · intro i h1 h2
    have hi : i < n.toNat := by rw [List.length_take] at h2; omega
    rw [List.getElem_take, List.getElem_take]
    apply UInt8.toNat_inj.1
    rw [Bits.keepL_get]
    exact Bits.mask_all _ _ (by omega)
theorem pf_short {c : Kx} {ae : Int} (hc : Okc c) (h0 : 0 ≤ ae) (h3 : ae ≤ 3) : (shC ae (c.pf ae)).data.toList = (c.pf ae).data.toList.drop (baseN ae) := by
  by_cases k : ae = 3
  · subst k
    show (shA (c.pf 3)).data.toList = (c.pf 3).data.toList.drop 8
    rcases hc.pf (ae := 3) (by decide) (by decide) with h | ⟨h, _⟩
    · have e : (c.pf 3).data.toList = [] := List.length_eq_zero_iff.1 (by rw [size_list]; exact h)
      have hl : link (c.pf 3) = false := Lk.link_no (by omega)
      have : shA (c.pf 3) = ⟨#[]⟩ := by unfold shA; rw [hl]; rfl
      rw [this, e]; rfl
    · have hl : link (c.pf 3) = true := h
      rw [Lk.sh_yes hl, ext_to]
  · have e1 : shC ae (c.pf ae) = c.pf ae := by unfold shC; rw [if_neg k]
    have e2 : baseN ae = 0 := by unfold baseN; rw [if_neg k]
    rw [e1, e2]; rfl
theorem x2_is {c : Kx} {d : ByteArray} {u : Up} (hc : Okc c) (g : Cnt d u) : (x2 c u).data.toList = omL c u := by
  show cutL (shC u.ae (c.pf u.ae)).data.toList (8 * u.om) = _
  rw [cut_by8 g.om0, pf_short hc g.ae0 g.ae3]
  rfl
theorem x1_len {c : Kx} {d : ByteArray} {u : Up} (hc : Okc c) (g : Cnt d u) : (x1 c u).size ≤ 16 := by
  rw [← size_list]
  show (shC u.ae (c.pf u.ae)).data.toList.length ≤ 16
  rw [pf_short hc g.ae0 g.ae3, List.length_drop, size_list]
  rcases hc.pf g.ae0 g.ae3 with h | ⟨h, h0⟩
  · omega
  · have := adr_len h (by have := g.ae0; omega) g.ae3
    split at this <;> omega
theorem sizeA_le (ae : Int) : sizeA ae ≤ 16 := by unfold sizeA; split <;> (try split) <;> (try split) <;> omega
theorem cnt_size {d : ByteArray} {u : Up} (g : Cnt d u) : countN u.ae u.plen ≤ sizeA u.ae := by
  rcases len_cases g.len with ⟨e, h⟩ | ⟨e, _, k⟩ | ⟨e, _, k⟩ | ⟨e, _, k⟩ <;> rw [e] <;> (try rw [h]) <;> unfold countN sizeA leastN baseN <;> simp <;> omega
theorem x_size {c : Kx} {d : ByteArray} {u : Up} (hc : Okc c) (g : Cnt d u) (h : ¬ (0 < u.om ∧ (c.pf u.ae).size = 0)) : (x1 c u).size ≤ 16 ∧ (x2 c u).size ≤ 16 ∧ u.bytes.size ≤ 16 ∧ (x2 c u ++ u.bytes).size ≤ 16 ∧ (x4 c u).size ≤ 16 := by
  have h1 := x1_len hc g
  have h2 : (x2 c u).size = u.om.toNat := by rw [← size_list, x2_is hc g, ahead_len hc g h]
  have h3 := g.size
  have h4 := cnt_size g
  have h5 := g.omle
  have h6 := g.om0
  have h7 := sizeA_le u.ae
  have h8 : (x2 c u ++ u.bytes).size = countN u.ae u.plen := by rw [ByteArray.size_append, h2, h3]; omega
  have h9 : (x3 c u).size = sizeA u.ae := by
    unfold x3
    rw [mk_size, fillL_length _ _ (by rw [size_list, h8]; exact h4)]
  refine ⟨h1, by omega, by omega, by omega, ?_⟩
  unfold x4 lgC
  split
  · unfold lgA
    split
    · rename_i _ k
      rw [ByteArray.size_append, k]
      show 8 + 8 ≤ 16
      omega
    · exact Nat.zero_le _
  · omega
theorem x_is {c : Kx} {d : ByteArray} {u : Up} (hc : Okc c) (g : Cnt d u) (h : ¬ (0 < u.om ∧ (c.pf u.ae).size = 0)) : (⟨(keepL (x4 c u).data.toList u.plen.toNat).toArray⟩ : ByteArray) = adrC c u := by
  have e2 := x2_is hc g
  have hl : (x2 c u ++ u.bytes).data.toList = omL c u ++ u.bytes.data.toList := by rw [ByteArray.data_append, Array.toList_append, e2]
  have hz : (omL c u ++ u.bytes.data.toList).length = countN u.ae u.plen := by rw [← whole_size hc g h, mk_size]
  have hcs := cnt_size g
  unfold adrC wholeP
  congr 3
  show (lgC u.ae (x3 c u)).data.toList = wholeL u.ae _
  have e3 : (x3 c u).data.toList = fillL (omL c u ++ u.bytes.data.toList) (sizeA u.ae) := by unfold x3; rw [hl]
  unfold lgC wholeL
  rcases len_cases g.len with ⟨e, _⟩ | ⟨e, _⟩ | ⟨e, _⟩ | ⟨e, _⟩
  · rw [e] at e3 hz hcs ⊢
    rw [if_neg (by decide), if_neg (by decide), if_neg (by decide), if_neg (by decide), e3]
    have : sizeA 0 = 0 := rfl
    have h0 : omL c u ++ u.bytes.data.toList = [] := List.length_eq_zero_iff.1 (by omega)
    rw [h0]
    rfl
  · rw [e] at e3 ⊢
    rw [if_neg (by decide), if_pos rfl, e3]
    rfl
  · rw [e] at e3 ⊢
    rw [if_neg (by decide), if_neg (by decide), if_pos rfl, e3]
    rfl
  · rw [e] at e3 hcs hz ⊢
    rw [if_pos rfl, if_neg (by decide), if_neg (by decide), if_pos rfl]
    have h8 : (x3 c u).size = 8 := by
      rw [← size_list, e3]
      exact fillL_length _ _ (by rw [hz]; exact hcs)
    unfold lgA
    rw [if_pos h8, ByteArray.data_append, Array.toList_append, e3]
    rfl
set_option maxHeartbeats 12800000 in
theorem address_any (c : Kx) (v : Value) (d : ByteArray) (u : Up) (w : World) (hc : Okc c) (g : Cnt d u) (h : ¬ (0 < u.om ∧ (c.pf u.ae).size = 0)) (ht : Tab w) :
    Calls Tryz.prog 96 #[.agg (stC c v), .agg u.cells] w fun e w' => e = .returned (.string (adrC c u)) ∧ Below w.heap.size w w' := by
  have HA := Lib.hid (x_is hc g h)
  obtain ⟨hz1, hz2, hz3, hz4, hz5⟩ := x_size hc g h
  have P1 := Lib.hid (fun V => short_any u.ae (c.pf u.ae) V)
  have P1 := Lib.hid (show ∀ V, Calls Tryz.prog 105 #[.int .i64 u.ae, .string (c.pf u.ae)] V fun e w' => e = .returned (.string (x1 c u)) ∧ V = w' from P1.out)
  have P2 := Lib.hid (fun V => Pre.cut_any (x1 c u) (8 * u.om) V (by omega) (by have := g.om0; have := g.omle; have := (count_le g.len).1; omega))
  have P2 := Lib.hid (show ∀ V, Calls Tryz.prog 81 #[.string (x1 c u), .int .i64 (8 * u.om)] V fun e w' => e = .returned (.string (x2 c u)) ∧ Below V.heap.size V w' from P2.out)
  have P3 := Lib.hid (fun V => Pre.fill_any (x2 c u ++ u.bytes) (sizeA u.ae : Nat) V (by omega) (by have := sizeA_le u.ae; omega))
  have P3 := Lib.hid (show ∀ V, Calls Tryz.prog 80 #[.string (x2 c u ++ u.bytes), .int .i64 (sizeA u.ae : Nat)] V fun e w' => e = .returned (.string (x3 c u)) ∧ Below V.heap.size V w' from P3.out)
  have P4 := Lib.hid (fun V => long_any u.ae (x3 c u) V)
  have P4 := Lib.hid (show ∀ V, Calls Tryz.prog 94 #[.int .i64 u.ae, .string (x3 c u)] V fun e w' => e = .returned (.string (x4 c u)) ∧ V = w' from P4.out)
  have P5 := Lib.hid (fun V => Bits.keep_any (x4 c u) u.plen V (by omega))
  rw [HA.out] at P5
  have hcat : ∀ W : World, (Op.stringOp .add (x2 c u) u.bytes).run Tryz.prog W = .ok (.string (x2 c u ++ u.bytes)) W := fun W => run_string_add_sum W _ _ (by omega)
  have hmul : IntKind.i64.wrap (8 * u.om) = 8 * u.om := IntWalk.i64_in _ (by have := g.om0; have := g.omle; have := (count_le g.len).1; omega)
  have HU := Lib.hid (SU.new w c v u ht)
  generalize adrC c u = y at *
  generalize x2 c u ++ u.bytes = z at *
  have h0 := g.ae0
  have h3 := g.ae3
  clear HA hz1 hz2 hz3 hz4 hz5 hc h ht
  generalize x1 c u = a1 at *
  generalize x2 c u = a2 at *
  generalize x3 c u = a3 at *
  generalize x4 c u = a4 at *
  clear g
  obtain ⟨ae, fl, plen, om, iv, seq, met, hav, yb, sa, sl, sc⟩ := u
  simp only [] at *
  rcases (show ae = 0 ∨ ae = 1 ∨ ae = 2 ∨ ae = 3 by omega) with rfl | rfl | rfl | rfl
  · clear h0 h3
    have P1 := Lib.hid (show ∀ V, Calls Tryz.prog 105 #[.int .i64 0, .string c.p0] V fun e w' => e = .returned (.string a1) ∧ V = w' from P1.out)
    have P3 := Lib.hid (show ∀ V, Calls Tryz.prog 80 #[.string z, .int .i64 0] V fun e w' => e = .returned (.string a3) ∧ Below V.heap.size V w' from P3.out)
    go_enter Tryz.func96, Tryz.ntmps96
    go_upto_region 1 with fail
    change Code.wp _ _ _ _ ((w.alloc (.cells (stC c v) 81)).alloc (.cells (Up.cells ⟨0, fl, plen, om, iv, seq, met, hav, yb, sa, sl, sc⟩) 119))
    generalize (w.alloc (.cells (stC c v) 81)).alloc (.cells (Up.cells ⟨0, fl, plen, om, iv, seq, met, hav, yb, sa, sl, sc⟩) 119) = W at *
    refine wp_region_held_drew (S := fun X => SU w X w.heap.size (w.heap.size + 1) c v ⟨0, fl, plen, om, iv, seq, met, hav, yb, sa, sl, sc⟩) (by kernel_rfl) HU.out.drew (fun hS => ?_)
    clear HU
    generalize W.drew = X0 at *
    refine H.tk (i := 0) (v := ?v0a0) ?h0a0 hS ?_
    case h0a0 => (intro w hw; go_simp; first | done | (with_reducible rfl))
    try simp only [Act.put, List.setIfInBounds_toArray, List.set_cons_zero, List.set_cons_succ]
    refine H.tk (i := 1) (v := .int .i64 0) ?h1a0 hS ?_
    case h1a0 => exact (fun w hw => by have c := hw.u.cell 0 (.int .i64 0) rfl; go_simp)
    try simp only [Act.put, List.setIfInBounds_toArray, List.set_cons_zero, List.set_cons_succ]
    refine H.tk (i := 2) (v := ?v2a0) ?h2a0 hS ?_
    case h2a0 => (intro w hw; go_simp; first | done | (with_reducible rfl))
    try simp only [Act.put, List.setIfInBounds_toArray, List.set_cons_zero, List.set_cons_succ]
    refine H.tk (i := 3) (v := .int .i64 0) ?h3a0 hS ?_
    case h3a0 => exact (fun w hw => by have c := hw.u.cell 0 (.int .i64 0) rfl; go_simp)
    try simp only [Act.put, List.setIfInBounds_toArray, List.set_cons_zero, List.set_cons_succ]
    refine H.tk (i := 4) (v := ?v4a0) ?h4a0 hS ?_
    case h4a0 => (intro w hw; go_simp; first | done | (with_reducible rfl))
    try simp only [Act.put, List.setIfInBounds_toArray, List.set_cons_zero, List.set_cons_succ]
    refine H.tk (i := 5) (v := ?v5a0) ?h5a0 hS ?_
    case h5a0 => (intro w hw; go_simp; first | done | (with_reducible rfl))
    try simp only [Act.put, List.setIfInBounds_toArray, List.set_cons_zero, List.set_cons_succ]
    refine H.tk (i := 6) (v := .pointer (some ⟨w.heap.size, 0, none⟩)) ?h6a0 hS ?_
    case h6a0 => exact (fun w hw => by go_simp)
    try simp only [Act.put, List.setIfInBounds_toArray, List.set_cons_zero, List.set_cons_succ]
    refine H.tk (i := 7) (v := .string c.p0) ?h7a0 hS ?_
    case h7a0 => exact (fun w hw => by have c := hw.s.cell 0 (.string c.p0) rfl; go_simp)
    try simp only [Act.put, List.setIfInBounds_toArray, List.set_cons_zero, List.set_cons_succ]
    refine H.tk (i := 9) (v := ?v9a0) ?h9a0 hS ?_
    case h9a0 => (intro w hw; go_simp; first | done | (with_reducible rfl))
    try simp only [Act.put, List.setIfInBounds_toArray, List.set_cons_zero, List.set_cons_succ]
    refine H.tk (i := 10) (v := .int .i64 om) ?h10a0 hS ?_
    case h10a0 => exact (fun w hw => by have c := hw.u.cell 3 (.int .i64 om) rfl; go_simp)
    try simp only [Act.put, List.setIfInBounds_toArray, List.set_cons_zero, List.set_cons_succ]
    refine H.tk (i := 11) (v := .int .i64 (8 * om)) ?h11a0 hS ?_
    case h11a0 => exact (fun w hw => by go_simp)
    try simp only [Act.put, List.setIfInBounds_toArray, List.set_cons_zero, List.set_cons_succ]
    refine wpAnyH_ready (rs := [8]) (by kernel_rfl) (by simp) ?_
    refine AllReadyH.cons rfl (fun K hK => ?_) AllReadyH.nil
    go_simp
    refine (heldQ (P1.out _) hS).mono ?_
    rintro e w8 ⟨rfl, hS8⟩
    refine hK.out _ _ hS8 (fun _ => ?_)
    clear hK K hS
    have hS := hS8
    clear hS8
    try simp only [Act.put, List.setIfInBounds_toArray, List.set_cons_zero, List.set_cons_succ]
    refine wpAnyH_ready (rs := [12]) (by kernel_rfl) (by simp) ?_
    refine AllReadyH.cons rfl (fun K hK => ?_) AllReadyH.nil
    go_simp
    refine (heldU (P2.out _) hS).mono ?_
    rintro e w12 ⟨rfl, hS12⟩
    refine hK.out _ _ hS12 (fun _ => ?_)
    clear hK K hS
    have hS := hS12
    clear hS12
    try simp only [Act.put, List.setIfInBounds_toArray, List.set_cons_zero, List.set_cons_succ]
    refine H.tk (i := 13) (v := (.string a2)) (fun w _ => rfl) hS ?_
    try simp only [Act.put, List.setIfInBounds_toArray, List.set_cons_zero, List.set_cons_succ]
    refine wpAnyH_done (by kernel_rfl) ?_ _
    go_upto_region 2 with fail
    refine wp_region_held_drew (S := fun X => SU w X w.heap.size (w.heap.size + 1) c v ⟨0, fl, plen, om, iv, seq, met, hav, yb, sa, sl, sc⟩) (by kernel_rfl) hS.drew (fun hS => ?_)
    generalize World.drew _ = X1 at *
    refine H.tk (i := 0) (v := .string a2) ?h0b0 hS ?_
    case h0b0 => exact (fun w hw => by go_simp)
    try simp only [Act.put, List.setIfInBounds_toArray, List.set_cons_zero, List.set_cons_succ]
    refine H.tk (i := 1) (v := ?v1b0) ?h1b0 hS ?_
    case h1b0 => (intro w hw; go_simp; first | done | (with_reducible rfl))
    try simp only [Act.put, List.setIfInBounds_toArray, List.set_cons_zero, List.set_cons_succ]
    refine H.tk (i := 2) (v := .string yb) ?h2b0 hS ?_
    case h2b0 => exact (fun w hw => by have c := hw.u.cell 8 (.string yb) rfl; go_simp)
    try simp only [Act.put, List.setIfInBounds_toArray, List.set_cons_zero, List.set_cons_succ]
    refine H.tk (i := 3) (v := .string z) ?h3b0 hS ?_
    case h3b0 => exact (fun w hw => by go_simp)
    try simp only [Act.put, List.setIfInBounds_toArray, List.set_cons_zero, List.set_cons_succ]
    refine H.tk (i := 4) (v := ?v4b0) ?h4b0 hS ?_
    case h4b0 => (intro w hw; go_simp; first | done | (with_reducible rfl))
    try simp only [Act.put, List.setIfInBounds_toArray, List.set_cons_zero, List.set_cons_succ]
    refine H.tk (i := 5) (v := .int .i64 0) ?h5b0 hS ?_
    case h5b0 => exact (fun w hw => by have c := hw.u.cell 0 (.int .i64 0) rfl; go_simp)
    try simp only [Act.put, List.setIfInBounds_toArray, List.set_cons_zero, List.set_cons_succ]
    refine H.tk (i := 6) (v := .pointer (some ⟨1, 0, none⟩)) ?h6b0 hS ?_
    case h6b0 => exact (fun w hw => by go_simp)
    try simp only [Act.put, List.setIfInBounds_toArray, List.set_cons_zero, List.set_cons_succ]
    refine H.tk (i := 7) (v := .int .i64 0) ?h7b0 hS ?_
    case h7b0 => exact (fun w hw => by have c := hw.tab.z0; go_simp)
    try simp only [Act.put, List.setIfInBounds_toArray, List.set_cons_zero, List.set_cons_succ]
    refine wpAnyH_ready (rs := [8]) (by kernel_rfl) (by simp) ?_
    refine AllReadyH.cons rfl (fun K hK => ?_) AllReadyH.nil
    go_simp
    refine (heldU (P3.out _) hS).mono ?_
    rintro e w8 ⟨rfl, hS8⟩
    refine hK.out _ _ hS8 (fun _ => ?_)
    clear hK K hS
    have hS := hS8
    clear hS8
    try simp only [Act.put, List.setIfInBounds_toArray, List.set_cons_zero, List.set_cons_succ]
    refine H.tk (i := 9) (v := (.string a3)) (fun w _ => rfl) hS ?_
    try simp only [Act.put, List.setIfInBounds_toArray, List.set_cons_zero, List.set_cons_succ]
    refine wpAnyH_done (by kernel_rfl) ?_ _
    go_upto_region 3 with fail
    refine wp_region_held_drew (S := fun X => SU w X w.heap.size (w.heap.size + 1) c v ⟨0, fl, plen, om, iv, seq, met, hav, yb, sa, sl, sc⟩) (by kernel_rfl) hS.drew (fun hS => ?_)
    generalize World.drew _ = X2 at *
    refine H.tk (i := 0) (v := ?v0c0) ?h0c0 hS ?_
    case h0c0 => (intro w hw; go_simp; first | done | (with_reducible rfl))
    try simp only [Act.put, List.setIfInBounds_toArray, List.set_cons_zero, List.set_cons_succ]
    refine H.tk (i := 1) (v := .int .i64 0) ?h1c0 hS ?_
    case h1c0 => exact (fun w hw => by have c := hw.u.cell 0 (.int .i64 0) rfl; go_simp)
    try simp only [Act.put, List.setIfInBounds_toArray, List.set_cons_zero, List.set_cons_succ]
    refine H.tk (i := 2) (v := .string a3) ?h2c0 hS ?_
    case h2c0 => exact (fun w hw => by go_simp)
    try simp only [Act.put, List.setIfInBounds_toArray, List.set_cons_zero, List.set_cons_succ]
    refine H.tk (i := 4) (v := ?v4c0) ?h4c0 hS ?_
    case h4c0 => (intro w hw; go_simp; first | done | (with_reducible rfl))
    try simp only [Act.put, List.setIfInBounds_toArray, List.set_cons_zero, List.set_cons_succ]
    refine H.tk (i := 5) (v := .int .i64 plen) ?h5c0 hS ?_
    case h5c0 => exact (fun w hw => by have c := hw.u.cell 2 (.int .i64 plen) rfl; go_simp)
    try simp only [Act.put, List.setIfInBounds_toArray, List.set_cons_zero, List.set_cons_succ]
    refine wpAnyH_ready (rs := [3]) (by kernel_rfl) (by simp) ?_
    refine AllReadyH.cons rfl (fun K hK => ?_) AllReadyH.nil
    go_simp
    refine (heldQ (P4.out _) hS).mono ?_
    rintro e w3 ⟨rfl, hS3⟩
    refine hK.out _ _ hS3 (fun _ => ?_)
    clear hK K hS
    have hS := hS3
    clear hS3
    try simp only [Act.put, List.setIfInBounds_toArray, List.set_cons_zero, List.set_cons_succ]
    refine wpAnyH_ready (rs := [6]) (by kernel_rfl) (by simp) ?_
    refine AllReadyH.cons rfl (fun K hK => ?_) AllReadyH.nil
    go_simp
    refine (heldU (P5.out _) hS).mono ?_
    rintro e w6 ⟨rfl, hS6⟩
    refine hK.out _ _ hS6 (fun _ => ?_)
    clear hK K hS
    have hS := hS6
    clear hS6
    try simp only [Act.put, List.setIfInBounds_toArray, List.set_cons_zero, List.set_cons_succ]
    refine H.tk (i := 7) (v := (.string y)) (fun w _ => rfl) hS ?_
    try simp only [Act.put, List.setIfInBounds_toArray, List.set_cons_zero, List.set_cons_succ]
    refine wpAnyH_done (by kernel_rfl) ?_ _
    go_wp2
    go_ret
    exact ⟨rfl, hS.bel⟩
  · clear h0 h3
    have P1 := Lib.hid (show ∀ V, Calls Tryz.prog 105 #[.int .i64 1, .string c.p1] V fun e w' => e = .returned (.string a1) ∧ V = w' from P1.out)
    have P3 := Lib.hid (show ∀ V, Calls Tryz.prog 80 #[.string z, .int .i64 4] V fun e w' => e = .returned (.string a3) ∧ Below V.heap.size V w' from P3.out)
    go_enter Tryz.func96, Tryz.ntmps96
    go_upto_region 1 with fail
    change Code.wp _ _ _ _ ((w.alloc (.cells (stC c v) 81)).alloc (.cells (Up.cells ⟨1, fl, plen, om, iv, seq, met, hav, yb, sa, sl, sc⟩) 119))
    generalize (w.alloc (.cells (stC c v) 81)).alloc (.cells (Up.cells ⟨1, fl, plen, om, iv, seq, met, hav, yb, sa, sl, sc⟩) 119) = W at *
    refine wp_region_held_drew (S := fun X => SU w X w.heap.size (w.heap.size + 1) c v ⟨1, fl, plen, om, iv, seq, met, hav, yb, sa, sl, sc⟩) (by kernel_rfl) HU.out.drew (fun hS => ?_)
    clear HU
    generalize W.drew = X0 at *
    refine H.tk (i := 0) (v := ?v0a1) ?h0a1 hS ?_
    case h0a1 => (intro w hw; go_simp; first | done | (with_reducible rfl))
    try simp only [Act.put, List.setIfInBounds_toArray, List.set_cons_zero, List.set_cons_succ]
    refine H.tk (i := 1) (v := .int .i64 1) ?h1a1 hS ?_
    case h1a1 => exact (fun w hw => by have c := hw.u.cell 0 (.int .i64 1) rfl; go_simp)
    try simp only [Act.put, List.setIfInBounds_toArray, List.set_cons_zero, List.set_cons_succ]
    refine H.tk (i := 2) (v := ?v2a1) ?h2a1 hS ?_
    case h2a1 => (intro w hw; go_simp; first | done | (with_reducible rfl))
    try simp only [Act.put, List.setIfInBounds_toArray, List.set_cons_zero, List.set_cons_succ]
    refine H.tk (i := 3) (v := .int .i64 1) ?h3a1 hS ?_
    case h3a1 => exact (fun w hw => by have c := hw.u.cell 0 (.int .i64 1) rfl; go_simp)
    try simp only [Act.put, List.setIfInBounds_toArray, List.set_cons_zero, List.set_cons_succ]
    refine H.tk (i := 4) (v := ?v4a1) ?h4a1 hS ?_
    case h4a1 => (intro w hw; go_simp; first | done | (with_reducible rfl))
    try simp only [Act.put, List.setIfInBounds_toArray, List.set_cons_zero, List.set_cons_succ]
    refine H.tk (i := 5) (v := ?v5a1) ?h5a1 hS ?_
    case h5a1 => (intro w hw; go_simp; first | done | (with_reducible rfl))
    try simp only [Act.put, List.setIfInBounds_toArray, List.set_cons_zero, List.set_cons_succ]
    refine H.tk (i := 6) (v := .pointer (some ⟨w.heap.size, 1, none⟩)) ?h6a1 hS ?_
    case h6a1 => exact (fun w hw => by go_simp)
    try simp only [Act.put, List.setIfInBounds_toArray, List.set_cons_zero, List.set_cons_succ]
    refine H.tk (i := 7) (v := .string c.p1) ?h7a1 hS ?_
    case h7a1 => exact (fun w hw => by have c := hw.s.cell 1 (.string c.p1) rfl; go_simp)
    try simp only [Act.put, List.setIfInBounds_toArray, List.set_cons_zero, List.set_cons_succ]
    refine H.tk (i := 9) (v := ?v9a1) ?h9a1 hS ?_
    case h9a1 => (intro w hw; go_simp; first | done | (with_reducible rfl))
    try simp only [Act.put, List.setIfInBounds_toArray, List.set_cons_zero, List.set_cons_succ]
    refine H.tk (i := 10) (v := .int .i64 om) ?h10a1 hS ?_
    case h10a1 => exact (fun w hw => by have c := hw.u.cell 3 (.int .i64 om) rfl; go_simp)
    try simp only [Act.put, List.setIfInBounds_toArray, List.set_cons_zero, List.set_cons_succ]
    refine H.tk (i := 11) (v := .int .i64 (8 * om)) ?h11a1 hS ?_
    case h11a1 => exact (fun w hw => by go_simp)
    try simp only [Act.put, List.setIfInBounds_toArray, List.set_cons_zero, List.set_cons_succ]
    refine wpAnyH_ready (rs := [8]) (by kernel_rfl) (by simp) ?_
    refine AllReadyH.cons rfl (fun K hK => ?_) AllReadyH.nil
    go_simp
    refine (heldQ (P1.out _) hS).mono ?_
    rintro e w8 ⟨rfl, hS8⟩
    refine hK.out _ _ hS8 (fun _ => ?_)
    clear hK K hS
    have hS := hS8
    clear hS8
    try simp only [Act.put, List.setIfInBounds_toArray, List.set_cons_zero, List.set_cons_succ]
    refine wpAnyH_ready (rs := [12]) (by kernel_rfl) (by simp) ?_
    refine AllReadyH.cons rfl (fun K hK => ?_) AllReadyH.nil
    go_simp
    refine (heldU (P2.out _) hS).mono ?_
    rintro e w12 ⟨rfl, hS12⟩
    refine hK.out _ _ hS12 (fun _ => ?_)
    clear hK K hS
    have hS := hS12
    clear hS12
    try simp only [Act.put, List.setIfInBounds_toArray, List.set_cons_zero, List.set_cons_succ]
    refine H.tk (i := 13) (v := (.string a2)) (fun w _ => rfl) hS ?_
    try simp only [Act.put, List.setIfInBounds_toArray, List.set_cons_zero, List.set_cons_succ]
    refine wpAnyH_done (by kernel_rfl) ?_ _
    go_upto_region 2 with fail
    refine wp_region_held_drew (S := fun X => SU w X w.heap.size (w.heap.size + 1) c v ⟨1, fl, plen, om, iv, seq, met, hav, yb, sa, sl, sc⟩) (by kernel_rfl) hS.drew (fun hS => ?_)
    generalize World.drew _ = X1 at *
    refine H.tk (i := 0) (v := .string a2) ?h0b1 hS ?_
    case h0b1 => exact (fun w hw => by go_simp)
    try simp only [Act.put, List.setIfInBounds_toArray, List.set_cons_zero, List.set_cons_succ]
    refine H.tk (i := 1) (v := ?v1b1) ?h1b1 hS ?_
    case h1b1 => (intro w hw; go_simp; first | done | (with_reducible rfl))
    try simp only [Act.put, List.setIfInBounds_toArray, List.set_cons_zero, List.set_cons_succ]
    refine H.tk (i := 2) (v := .string yb) ?h2b1 hS ?_
    case h2b1 => exact (fun w hw => by have c := hw.u.cell 8 (.string yb) rfl; go_simp)
    try simp only [Act.put, List.setIfInBounds_toArray, List.set_cons_zero, List.set_cons_succ]
    refine H.tk (i := 3) (v := .string z) ?h3b1 hS ?_
    case h3b1 => exact (fun w hw => by go_simp)
    try simp only [Act.put, List.setIfInBounds_toArray, List.set_cons_zero, List.set_cons_succ]
    refine H.tk (i := 4) (v := ?v4b1) ?h4b1 hS ?_
    case h4b1 => (intro w hw; go_simp; first | done | (with_reducible rfl))
    try simp only [Act.put, List.setIfInBounds_toArray, List.set_cons_zero, List.set_cons_succ]
    refine H.tk (i := 5) (v := .int .i64 1) ?h5b1 hS ?_
    case h5b1 => exact (fun w hw => by have c := hw.u.cell 0 (.int .i64 1) rfl; go_simp)
    try simp only [Act.put, List.setIfInBounds_toArray, List.set_cons_zero, List.set_cons_succ]
    refine H.tk (i := 6) (v := .pointer (some ⟨1, 1, none⟩)) ?h6b1 hS ?_
    case h6b1 => exact (fun w hw => by go_simp)
    try simp only [Act.put, List.setIfInBounds_toArray, List.set_cons_zero, List.set_cons_succ]
    refine H.tk (i := 7) (v := .int .i64 4) ?h7b1 hS ?_
    case h7b1 => exact (fun w hw => by have c := hw.tab.z1; go_simp)
    try simp only [Act.put, List.setIfInBounds_toArray, List.set_cons_zero, List.set_cons_succ]
    refine wpAnyH_ready (rs := [8]) (by kernel_rfl) (by simp) ?_
    refine AllReadyH.cons rfl (fun K hK => ?_) AllReadyH.nil
    go_simp
    refine (heldU (P3.out _) hS).mono ?_
    rintro e w8 ⟨rfl, hS8⟩
    refine hK.out _ _ hS8 (fun _ => ?_)
    clear hK K hS
    have hS := hS8
    clear hS8
    try simp only [Act.put, List.setIfInBounds_toArray, List.set_cons_zero, List.set_cons_succ]
    refine H.tk (i := 9) (v := (.string a3)) (fun w _ => rfl) hS ?_
    try simp only [Act.put, List.setIfInBounds_toArray, List.set_cons_zero, List.set_cons_succ]
    refine wpAnyH_done (by kernel_rfl) ?_ _
    go_upto_region 3 with fail
    refine wp_region_held_drew (S := fun X => SU w X w.heap.size (w.heap.size + 1) c v ⟨1, fl, plen, om, iv, seq, met, hav, yb, sa, sl, sc⟩) (by kernel_rfl) hS.drew (fun hS => ?_)
    generalize World.drew _ = X2 at *
    refine H.tk (i := 0) (v := ?v0c1) ?h0c1 hS ?_
    case h0c1 => (intro w hw; go_simp; first | done | (with_reducible rfl))
    try simp only [Act.put, List.setIfInBounds_toArray, List.set_cons_zero, List.set_cons_succ]
    refine H.tk (i := 1) (v := .int .i64 1) ?h1c1 hS ?_
    case h1c1 => exact (fun w hw => by have c := hw.u.cell 0 (.int .i64 1) rfl; go_simp)
    try simp only [Act.put, List.setIfInBounds_toArray, List.set_cons_zero, List.set_cons_succ]
    refine H.tk (i := 2) (v := .string a3) ?h2c1 hS ?_
    case h2c1 => exact (fun w hw => by go_simp)
    try simp only [Act.put, List.setIfInBounds_toArray, List.set_cons_zero, List.set_cons_succ]
    refine H.tk (i := 4) (v := ?v4c1) ?h4c1 hS ?_
    case h4c1 => (intro w hw; go_simp; first | done | (with_reducible rfl))
    try simp only [Act.put, List.setIfInBounds_toArray, List.set_cons_zero, List.set_cons_succ]
    refine H.tk (i := 5) (v := .int .i64 plen) ?h5c1 hS ?_
    case h5c1 => exact (fun w hw => by have c := hw.u.cell 2 (.int .i64 plen) rfl; go_simp)
    try simp only [Act.put, List.setIfInBounds_toArray, List.set_cons_zero, List.set_cons_succ]
    refine wpAnyH_ready (rs := [3]) (by kernel_rfl) (by simp) ?_
    refine AllReadyH.cons rfl (fun K hK => ?_) AllReadyH.nil
    go_simp
    refine (heldQ (P4.out _) hS).mono ?_
    rintro e w3 ⟨rfl, hS3⟩
    refine hK.out _ _ hS3 (fun _ => ?_)
    clear hK K hS
    have hS := hS3
    clear hS3
    try simp only [Act.put, List.setIfInBounds_toArray, List.set_cons_zero, List.set_cons_succ]
    refine wpAnyH_ready (rs := [6]) (by kernel_rfl) (by simp) ?_
    refine AllReadyH.cons rfl (fun K hK => ?_) AllReadyH.nil
    go_simp
    refine (heldU (P5.out _) hS).mono ?_
    rintro e w6 ⟨rfl, hS6⟩
    refine hK.out _ _ hS6 (fun _ => ?_)
    clear hK K hS
    have hS := hS6
    clear hS6
    try simp only [Act.put, List.setIfInBounds_toArray, List.set_cons_zero, List.set_cons_succ]
    refine H.tk (i := 7) (v := (.string y)) (fun w _ => rfl) hS ?_
    try simp only [Act.put, List.setIfInBounds_toArray, List.set_cons_zero, List.set_cons_succ]
    refine wpAnyH_done (by kernel_rfl) ?_ _
    go_wp2
    go_ret
    exact ⟨rfl, hS.bel⟩
  · clear h0 h3
    have P1 := Lib.hid (show ∀ V, Calls Tryz.prog 105 #[.int .i64 2, .string c.p2] V fun e w' => e = .returned (.string a1) ∧ V = w' from P1.out)
    have P3 := Lib.hid (show ∀ V, Calls Tryz.prog 80 #[.string z, .int .i64 16] V fun e w' => e = .returned (.string a3) ∧ Below V.heap.size V w' from P3.out)
    go_enter Tryz.func96, Tryz.ntmps96
    go_upto_region 1 with fail
    change Code.wp _ _ _ _ ((w.alloc (.cells (stC c v) 81)).alloc (.cells (Up.cells ⟨2, fl, plen, om, iv, seq, met, hav, yb, sa, sl, sc⟩) 119))
    generalize (w.alloc (.cells (stC c v) 81)).alloc (.cells (Up.cells ⟨2, fl, plen, om, iv, seq, met, hav, yb, sa, sl, sc⟩) 119) = W at *
    refine wp_region_held_drew (S := fun X => SU w X w.heap.size (w.heap.size + 1) c v ⟨2, fl, plen, om, iv, seq, met, hav, yb, sa, sl, sc⟩) (by kernel_rfl) HU.out.drew (fun hS => ?_)
    clear HU
    generalize W.drew = X0 at *
    refine H.tk (i := 0) (v := ?v0a2) ?h0a2 hS ?_
    case h0a2 => (intro w hw; go_simp; first | done | (with_reducible rfl))
    try simp only [Act.put, List.setIfInBounds_toArray, List.set_cons_zero, List.set_cons_succ]
    refine H.tk (i := 1) (v := .int .i64 2) ?h1a2 hS ?_
    case h1a2 => exact (fun w hw => by have c := hw.u.cell 0 (.int .i64 2) rfl; go_simp)
    try simp only [Act.put, List.setIfInBounds_toArray, List.set_cons_zero, List.set_cons_succ]
    refine H.tk (i := 2) (v := ?v2a2) ?h2a2 hS ?_
    case h2a2 => (intro w hw; go_simp; first | done | (with_reducible rfl))
    try simp only [Act.put, List.setIfInBounds_toArray, List.set_cons_zero, List.set_cons_succ]
    refine H.tk (i := 3) (v := .int .i64 2) ?h3a2 hS ?_
    case h3a2 => exact (fun w hw => by have c := hw.u.cell 0 (.int .i64 2) rfl; go_simp)
    try simp only [Act.put, List.setIfInBounds_toArray, List.set_cons_zero, List.set_cons_succ]
    refine H.tk (i := 4) (v := ?v4a2) ?h4a2 hS ?_
    case h4a2 => (intro w hw; go_simp; first | done | (with_reducible rfl))
    try simp only [Act.put, List.setIfInBounds_toArray, List.set_cons_zero, List.set_cons_succ]
    refine H.tk (i := 5) (v := ?v5a2) ?h5a2 hS ?_
    case h5a2 => (intro w hw; go_simp; first | done | (with_reducible rfl))
    try simp only [Act.put, List.setIfInBounds_toArray, List.set_cons_zero, List.set_cons_succ]
    refine H.tk (i := 6) (v := .pointer (some ⟨w.heap.size, 2, none⟩)) ?h6a2 hS ?_
    case h6a2 => exact (fun w hw => by go_simp)
    try simp only [Act.put, List.setIfInBounds_toArray, List.set_cons_zero, List.set_cons_succ]
    refine H.tk (i := 7) (v := .string c.p2) ?h7a2 hS ?_
    case h7a2 => exact (fun w hw => by have c := hw.s.cell 2 (.string c.p2) rfl; go_simp)
    try simp only [Act.put, List.setIfInBounds_toArray, List.set_cons_zero, List.set_cons_succ]
    refine H.tk (i := 9) (v := ?v9a2) ?h9a2 hS ?_
    case h9a2 => (intro w hw; go_simp; first | done | (with_reducible rfl))
    try simp only [Act.put, List.setIfInBounds_toArray, List.set_cons_zero, List.set_cons_succ]
    refine H.tk (i := 10) (v := .int .i64 om) ?h10a2 hS ?_
    case h10a2 => exact (fun w hw => by have c := hw.u.cell 3 (.int .i64 om) rfl; go_simp)
    try simp only [Act.put, List.setIfInBounds_toArray, List.set_cons_zero, List.set_cons_succ]
    refine H.tk (i := 11) (v := .int .i64 (8 * om)) ?h11a2 hS ?_
    case h11a2 => exact (fun w hw => by go_simp)
    try simp only [Act.put, List.setIfInBounds_toArray, List.set_cons_zero, List.set_cons_succ]
    refine wpAnyH_ready (rs := [8]) (by kernel_rfl) (by simp) ?_
    refine AllReadyH.cons rfl (fun K hK => ?_) AllReadyH.nil
    go_simp
    refine (heldQ (P1.out _) hS).mono ?_
    rintro e w8 ⟨rfl, hS8⟩
    refine hK.out _ _ hS8 (fun _ => ?_)
    clear hK K hS
    have hS := hS8
    clear hS8
    try simp only [Act.put, List.setIfInBounds_toArray, List.set_cons_zero, List.set_cons_succ]
    refine wpAnyH_ready (rs := [12]) (by kernel_rfl) (by simp) ?_
    refine AllReadyH.cons rfl (fun K hK => ?_) AllReadyH.nil
    go_simp
    refine (heldU (P2.out _) hS).mono ?_
    rintro e w12 ⟨rfl, hS12⟩
    refine hK.out _ _ hS12 (fun _ => ?_)
    clear hK K hS
    have hS := hS12
    clear hS12
    try simp only [Act.put, List.setIfInBounds_toArray, List.set_cons_zero, List.set_cons_succ]
    refine H.tk (i := 13) (v := (.string a2)) (fun w _ => rfl) hS ?_
    try simp only [Act.put, List.setIfInBounds_toArray, List.set_cons_zero, List.set_cons_succ]
    refine wpAnyH_done (by kernel_rfl) ?_ _
    go_upto_region 2 with fail
    refine wp_region_held_drew (S := fun X => SU w X w.heap.size (w.heap.size + 1) c v ⟨2, fl, plen, om, iv, seq, met, hav, yb, sa, sl, sc⟩) (by kernel_rfl) hS.drew (fun hS => ?_)
    generalize World.drew _ = X1 at *
    refine H.tk (i := 0) (v := .string a2) ?h0b2 hS ?_
    case h0b2 => exact (fun w hw => by go_simp)
    try simp only [Act.put, List.setIfInBounds_toArray, List.set_cons_zero, List.set_cons_succ]
    refine H.tk (i := 1) (v := ?v1b2) ?h1b2 hS ?_
    case h1b2 => (intro w hw; go_simp; first | done | (with_reducible rfl))
    try simp only [Act.put, List.setIfInBounds_toArray, List.set_cons_zero, List.set_cons_succ]
    refine H.tk (i := 2) (v := .string yb) ?h2b2 hS ?_
    case h2b2 => exact (fun w hw => by have c := hw.u.cell 8 (.string yb) rfl; go_simp)
    try simp only [Act.put, List.setIfInBounds_toArray, List.set_cons_zero, List.set_cons_succ]
    refine H.tk (i := 3) (v := .string z) ?h3b2 hS ?_
    case h3b2 => exact (fun w hw => by go_simp)
    try simp only [Act.put, List.setIfInBounds_toArray, List.set_cons_zero, List.set_cons_succ]
    refine H.tk (i := 4) (v := ?v4b2) ?h4b2 hS ?_
    case h4b2 => (intro w hw; go_simp; first | done | (with_reducible rfl))
    try simp only [Act.put, List.setIfInBounds_toArray, List.set_cons_zero, List.set_cons_succ]
    refine H.tk (i := 5) (v := .int .i64 2) ?h5b2 hS ?_
    case h5b2 => exact (fun w hw => by have c := hw.u.cell 0 (.int .i64 2) rfl; go_simp)
    try simp only [Act.put, List.setIfInBounds_toArray, List.set_cons_zero, List.set_cons_succ]
    refine H.tk (i := 6) (v := .pointer (some ⟨1, 2, none⟩)) ?h6b2 hS ?_
    case h6b2 => exact (fun w hw => by go_simp)
    try simp only [Act.put, List.setIfInBounds_toArray, List.set_cons_zero, List.set_cons_succ]
    refine H.tk (i := 7) (v := .int .i64 16) ?h7b2 hS ?_
    case h7b2 => exact (fun w hw => by have c := hw.tab.z2; go_simp)
    try simp only [Act.put, List.setIfInBounds_toArray, List.set_cons_zero, List.set_cons_succ]
    refine wpAnyH_ready (rs := [8]) (by kernel_rfl) (by simp) ?_
    refine AllReadyH.cons rfl (fun K hK => ?_) AllReadyH.nil
    go_simp
    refine (heldU (P3.out _) hS).mono ?_
    rintro e w8 ⟨rfl, hS8⟩
    refine hK.out _ _ hS8 (fun _ => ?_)
    clear hK K hS
    have hS := hS8
    clear hS8
    try simp only [Act.put, List.setIfInBounds_toArray, List.set_cons_zero, List.set_cons_succ]
    refine H.tk (i := 9) (v := (.string a3)) (fun w _ => rfl) hS ?_
    try simp only [Act.put, List.setIfInBounds_toArray, List.set_cons_zero, List.set_cons_succ]
    refine wpAnyH_done (by kernel_rfl) ?_ _
    go_upto_region 3 with fail
    refine wp_region_held_drew (S := fun X => SU w X w.heap.size (w.heap.size + 1) c v ⟨2, fl, plen, om, iv, seq, met, hav, yb, sa, sl, sc⟩) (by kernel_rfl) hS.drew (fun hS => ?_)
    generalize World.drew _ = X2 at *
    refine H.tk (i := 0) (v := ?v0c2) ?h0c2 hS ?_
    case h0c2 => (intro w hw; go_simp; first | done | (with_reducible rfl))
    try simp only [Act.put, List.setIfInBounds_toArray, List.set_cons_zero, List.set_cons_succ]
    refine H.tk (i := 1) (v := .int .i64 2) ?h1c2 hS ?_
    case h1c2 => exact (fun w hw => by have c := hw.u.cell 0 (.int .i64 2) rfl; go_simp)
    try simp only [Act.put, List.setIfInBounds_toArray, List.set_cons_zero, List.set_cons_succ]
    refine H.tk (i := 2) (v := .string a3) ?h2c2 hS ?_
    case h2c2 => exact (fun w hw => by go_simp)
    try simp only [Act.put, List.setIfInBounds_toArray, List.set_cons_zero, List.set_cons_succ]
    refine H.tk (i := 4) (v := ?v4c2) ?h4c2 hS ?_
    case h4c2 => (intro w hw; go_simp; first | done | (with_reducible rfl))
    try simp only [Act.put, List.setIfInBounds_toArray, List.set_cons_zero, List.set_cons_succ]
    refine H.tk (i := 5) (v := .int .i64 plen) ?h5c2 hS ?_
    case h5c2 => exact (fun w hw => by have c := hw.u.cell 2 (.int .i64 plen) rfl; go_simp)
    try simp only [Act.put, List.setIfInBounds_toArray, List.set_cons_zero, List.set_cons_succ]
    refine wpAnyH_ready (rs := [3]) (by kernel_rfl) (by simp) ?_
    refine AllReadyH.cons rfl (fun K hK => ?_) AllReadyH.nil
    go_simp
    refine (heldQ (P4.out _) hS).mono ?_
    rintro e w3 ⟨rfl, hS3⟩
    refine hK.out _ _ hS3 (fun _ => ?_)
    clear hK K hS
    have hS := hS3
    clear hS3
    try simp only [Act.put, List.setIfInBounds_toArray, List.set_cons_zero, List.set_cons_succ]
    refine wpAnyH_ready (rs := [6]) (by kernel_rfl) (by simp) ?_
    refine AllReadyH.cons rfl (fun K hK => ?_) AllReadyH.nil
    go_simp
    refine (heldU (P5.out _) hS).mono ?_
    rintro e w6 ⟨rfl, hS6⟩
    refine hK.out _ _ hS6 (fun _ => ?_)
    clear hK K hS
    have hS := hS6
    clear hS6
    try simp only [Act.put, List.setIfInBounds_toArray, List.set_cons_zero, List.set_cons_succ]
    refine H.tk (i := 7) (v := (.string y)) (fun w _ => rfl) hS ?_
    try simp only [Act.put, List.setIfInBounds_toArray, List.set_cons_zero, List.set_cons_succ]
    refine wpAnyH_done (by kernel_rfl) ?_ _
    go_wp2
    go_ret
    exact ⟨rfl, hS.bel⟩
  · clear h0 h3
    have P1 := Lib.hid (show ∀ V, Calls Tryz.prog 105 #[.int .i64 3, .string c.p3] V fun e w' => e = .returned (.string a1) ∧ V = w' from P1.out)
    have P3 := Lib.hid (show ∀ V, Calls Tryz.prog 80 #[.string z, .int .i64 8] V fun e w' => e = .returned (.string a3) ∧ Below V.heap.size V w' from P3.out)
    go_enter Tryz.func96, Tryz.ntmps96
    go_upto_region 1 with fail
    change Code.wp _ _ _ _ ((w.alloc (.cells (stC c v) 81)).alloc (.cells (Up.cells ⟨3, fl, plen, om, iv, seq, met, hav, yb, sa, sl, sc⟩) 119))
    generalize (w.alloc (.cells (stC c v) 81)).alloc (.cells (Up.cells ⟨3, fl, plen, om, iv, seq, met, hav, yb, sa, sl, sc⟩) 119) = W at *
    refine wp_region_held_drew (S := fun X => SU w X w.heap.size (w.heap.size + 1) c v ⟨3, fl, plen, om, iv, seq, met, hav, yb, sa, sl, sc⟩) (by kernel_rfl) HU.out.drew (fun hS => ?_)
    clear HU
    generalize W.drew = X0 at *
    refine H.tk (i := 0) (v := ?v0a3) ?h0a3 hS ?_
    case h0a3 => (intro w hw; go_simp; first | done | (with_reducible rfl))
    try simp only [Act.put, List.setIfInBounds_toArray, List.set_cons_zero, List.set_cons_succ]
    refine H.tk (i := 1) (v := .int .i64 3) ?h1a3 hS ?_
    case h1a3 => exact (fun w hw => by have c := hw.u.cell 0 (.int .i64 3) rfl; go_simp)
    try simp only [Act.put, List.setIfInBounds_toArray, List.set_cons_zero, List.set_cons_succ]
    refine H.tk (i := 2) (v := ?v2a3) ?h2a3 hS ?_
    case h2a3 => (intro w hw; go_simp; first | done | (with_reducible rfl))
    try simp only [Act.put, List.setIfInBounds_toArray, List.set_cons_zero, List.set_cons_succ]
    refine H.tk (i := 3) (v := .int .i64 3) ?h3a3 hS ?_
    case h3a3 => exact (fun w hw => by have c := hw.u.cell 0 (.int .i64 3) rfl; go_simp)
    try simp only [Act.put, List.setIfInBounds_toArray, List.set_cons_zero, List.set_cons_succ]
    refine H.tk (i := 4) (v := ?v4a3) ?h4a3 hS ?_
    case h4a3 => (intro w hw; go_simp; first | done | (with_reducible rfl))
    try simp only [Act.put, List.setIfInBounds_toArray, List.set_cons_zero, List.set_cons_succ]
    refine H.tk (i := 5) (v := ?v5a3) ?h5a3 hS ?_
    case h5a3 => (intro w hw; go_simp; first | done | (with_reducible rfl))
    try simp only [Act.put, List.setIfInBounds_toArray, List.set_cons_zero, List.set_cons_succ]
    refine H.tk (i := 6) (v := .pointer (some ⟨w.heap.size, 3, none⟩)) ?h6a3 hS ?_
    case h6a3 => exact (fun w hw => by go_simp)
    try simp only [Act.put, List.setIfInBounds_toArray, List.set_cons_zero, List.set_cons_succ]
    refine H.tk (i := 7) (v := .string c.p3) ?h7a3 hS ?_
    case h7a3 => exact (fun w hw => by have c := hw.s.cell 3 (.string c.p3) rfl; go_simp)
    try simp only [Act.put, List.setIfInBounds_toArray, List.set_cons_zero, List.set_cons_succ]
    refine H.tk (i := 9) (v := ?v9a3) ?h9a3 hS ?_
    case h9a3 => (intro w hw; go_simp; first | done | (with_reducible rfl))
    try simp only [Act.put, List.setIfInBounds_toArray, List.set_cons_zero, List.set_cons_succ]
    refine H.tk (i := 10) (v := .int .i64 om) ?h10a3 hS ?_
    case h10a3 => exact (fun w hw => by have c := hw.u.cell 3 (.int .i64 om) rfl; go_simp)
    try simp only [Act.put, List.setIfInBounds_toArray, List.set_cons_zero, List.set_cons_succ]
    refine H.tk (i := 11) (v := .int .i64 (8 * om)) ?h11a3 hS ?_
    case h11a3 => exact (fun w hw => by go_simp)
    try simp only [Act.put, List.setIfInBounds_toArray, List.set_cons_zero, List.set_cons_succ]
    refine wpAnyH_ready (rs := [8]) (by kernel_rfl) (by simp) ?_
    refine AllReadyH.cons rfl (fun K hK => ?_) AllReadyH.nil
    go_simp
    refine (heldQ (P1.out _) hS).mono ?_
    rintro e w8 ⟨rfl, hS8⟩
    refine hK.out _ _ hS8 (fun _ => ?_)
    clear hK K hS
    have hS := hS8
    clear hS8
    try simp only [Act.put, List.setIfInBounds_toArray, List.set_cons_zero, List.set_cons_succ]
    refine wpAnyH_ready (rs := [12]) (by kernel_rfl) (by simp) ?_
    refine AllReadyH.cons rfl (fun K hK => ?_) AllReadyH.nil
    go_simp
    refine (heldU (P2.out _) hS).mono ?_
    rintro e w12 ⟨rfl, hS12⟩
    refine hK.out _ _ hS12 (fun _ => ?_)
    clear hK K hS
    have hS := hS12
    clear hS12
    try simp only [Act.put, List.setIfInBounds_toArray, List.set_cons_zero, List.set_cons_succ]
    refine H.tk (i := 13) (v := (.string a2)) (fun w _ => rfl) hS ?_
    try simp only [Act.put, List.setIfInBounds_toArray, List.set_cons_zero, List.set_cons_succ]
    refine wpAnyH_done (by kernel_rfl) ?_ _
    go_upto_region 2 with fail
    refine wp_region_held_drew (S := fun X => SU w X w.heap.size (w.heap.size + 1) c v ⟨3, fl, plen, om, iv, seq, met, hav, yb, sa, sl, sc⟩) (by kernel_rfl) hS.drew (fun hS => ?_)
    generalize World.drew _ = X1 at *
    refine H.tk (i := 0) (v := .string a2) ?h0b3 hS ?_
    case h0b3 => exact (fun w hw => by go_simp)
    try simp only [Act.put, List.setIfInBounds_toArray, List.set_cons_zero, List.set_cons_succ]
    refine H.tk (i := 1) (v := ?v1b3) ?h1b3 hS ?_
    case h1b3 => (intro w hw; go_simp; first | done | (with_reducible rfl))
    try simp only [Act.put, List.setIfInBounds_toArray, List.set_cons_zero, List.set_cons_succ]
    refine H.tk (i := 2) (v := .string yb) ?h2b3 hS ?_
    case h2b3 => exact (fun w hw => by have c := hw.u.cell 8 (.string yb) rfl; go_simp)
    try simp only [Act.put, List.setIfInBounds_toArray, List.set_cons_zero, List.set_cons_succ]
    refine H.tk (i := 3) (v := .string z) ?h3b3 hS ?_
    case h3b3 => exact (fun w hw => by go_simp)
    try simp only [Act.put, List.setIfInBounds_toArray, List.set_cons_zero, List.set_cons_succ]
    refine H.tk (i := 4) (v := ?v4b3) ?h4b3 hS ?_
    case h4b3 => (intro w hw; go_simp; first | done | (with_reducible rfl))
    try simp only [Act.put, List.setIfInBounds_toArray, List.set_cons_zero, List.set_cons_succ]
    refine H.tk (i := 5) (v := .int .i64 3) ?h5b3 hS ?_
    case h5b3 => exact (fun w hw => by have c := hw.u.cell 0 (.int .i64 3) rfl; go_simp)
    try simp only [Act.put, List.setIfInBounds_toArray, List.set_cons_zero, List.set_cons_succ]
    refine H.tk (i := 6) (v := .pointer (some ⟨1, 3, none⟩)) ?h6b3 hS ?_
    case h6b3 => exact (fun w hw => by go_simp)
    try simp only [Act.put, List.setIfInBounds_toArray, List.set_cons_zero, List.set_cons_succ]
    refine H.tk (i := 7) (v := .int .i64 8) ?h7b3 hS ?_
    case h7b3 => exact (fun w hw => by have c := hw.tab.z3; go_simp)
    try simp only [Act.put, List.setIfInBounds_toArray, List.set_cons_zero, List.set_cons_succ]
    refine wpAnyH_ready (rs := [8]) (by kernel_rfl) (by simp) ?_
    refine AllReadyH.cons rfl (fun K hK => ?_) AllReadyH.nil
    go_simp
    refine (heldU (P3.out _) hS).mono ?_
    rintro e w8 ⟨rfl, hS8⟩
    refine hK.out _ _ hS8 (fun _ => ?_)
    clear hK K hS
    have hS := hS8
    clear hS8
    try simp only [Act.put, List.setIfInBounds_toArray, List.set_cons_zero, List.set_cons_succ]
    refine H.tk (i := 9) (v := (.string a3)) (fun w _ => rfl) hS ?_
    try simp only [Act.put, List.setIfInBounds_toArray, List.set_cons_zero, List.set_cons_succ]
    refine wpAnyH_done (by kernel_rfl) ?_ _
    go_upto_region 3 with fail
    refine wp_region_held_drew (S := fun X => SU w X w.heap.size (w.heap.size + 1) c v ⟨3, fl, plen, om, iv, seq, met, hav, yb, sa, sl, sc⟩) (by kernel_rfl) hS.drew (fun hS => ?_)
    generalize World.drew _ = X2 at *
    refine H.tk (i := 0) (v := ?v0c3) ?h0c3 hS ?_
    case h0c3 => (intro w hw; go_simp; first | done | (with_reducible rfl))
    try simp only [Act.put, List.setIfInBounds_toArray, List.set_cons_zero, List.set_cons_succ]
    refine H.tk (i := 1) (v := .int .i64 3) ?h1c3 hS ?_
    case h1c3 => exact (fun w hw => by have c := hw.u.cell 0 (.int .i64 3) rfl; go_simp)
    try simp only [Act.put, List.setIfInBounds_toArray, List.set_cons_zero, List.set_cons_succ]
    refine H.tk (i := 2) (v := .string a3) ?h2c3 hS ?_
    case h2c3 => exact (fun w hw => by go_simp)
    try simp only [Act.put, List.setIfInBounds_toArray, List.set_cons_zero, List.set_cons_succ]
    refine H.tk (i := 4) (v := ?v4c3) ?h4c3 hS ?_
    case h4c3 => (intro w hw; go_simp; first | done | (with_reducible rfl))
    try simp only [Act.put, List.setIfInBounds_toArray, List.set_cons_zero, List.set_cons_succ]
    refine H.tk (i := 5) (v := .int .i64 plen) ?h5c3 hS ?_
    case h5c3 => exact (fun w hw => by have c := hw.u.cell 2 (.int .i64 plen) rfl; go_simp)
    try simp only [Act.put, List.setIfInBounds_toArray, List.set_cons_zero, List.set_cons_succ]
    refine wpAnyH_ready (rs := [3]) (by kernel_rfl) (by simp) ?_
    refine AllReadyH.cons rfl (fun K hK => ?_) AllReadyH.nil
    go_simp
    refine (heldQ (P4.out _) hS).mono ?_
    rintro e w3 ⟨rfl, hS3⟩
    refine hK.out _ _ hS3 (fun _ => ?_)
    clear hK K hS
    have hS := hS3
    clear hS3
    try simp only [Act.put, List.setIfInBounds_toArray, List.set_cons_zero, List.set_cons_succ]
    refine wpAnyH_ready (rs := [6]) (by kernel_rfl) (by simp) ?_
    refine AllReadyH.cons rfl (fun K hK => ?_) AllReadyH.nil
    go_simp
    refine (heldU (P5.out _) hS).mono ?_
    rintro e w6 ⟨rfl, hS6⟩
    refine hK.out _ _ hS6 (fun _ => ?_)
    clear hK K hS
    have hS := hS6
    clear hS6
    try simp only [Act.put, List.setIfInBounds_toArray, List.set_cons_zero, List.set_cons_succ]
    refine H.tk (i := 7) (v := (.string y)) (fun w _ => rfl) hS ?_
    try simp only [Act.put, List.setIfInBounds_toArray, List.set_cons_zero, List.set_cons_succ]
    refine wpAnyH_done (by kernel_rfl) ?_ _
    go_wp2
    go_ret
    exact ⟨rfl, hS.bel⟩
end Go.Proofs.YtpkmpinbpfblfaaGreatDoor.K3
namespace Go.Proofs.YtpkmpinbpfblfaaGreatDoor.K4
open Go.ChangeShapes Go.WideShapes Go.ChangeAt Go.RowKit
open Go.Proofs.YtpkmpinbpfblfaaGreatDoor.Ms
open Go.Proofs.YtpkmpinbpfblfaaGreatDoor.Box
open Go.Proofs.YtpkmpinbpfblfaaGreatDoor.S1
open Go.Proofs.YtpkmpinbpfblfaaGreatDoor.J1
open Go.Proofs.YtpkmpinbpfblfaaGreatDoor.J2 (nil_eq nil_em size_eq)
open Go.Proofs.YtpkmpinbpfblfaaGreatDoor.J4 (shU wpList_loadU wpList_storeU)
open Go.Proofs.YtpkmpinbpfblfaaGreatDoor.An
open Go.Proofs.YtpkmpinbpfblfaaGreatDoor.Tc
open Go.Proofs.YtpkmpinbpfblfaaGreatDoor.K1
open Go.Proofs.YtpkmpinbpfblfaaGreatDoor.Kb
open Go.Proofs.YtpkmpinbpfblfaaGreatDoor.K2
open Go.Proofs.YtpkmpinbpfblfaaGreatDoor.K3
open Go.Proofs.YtpkmpinbpfblfaaGreatDoor.Bk (Bk Sh alloc_size wpList_loadK wpList_storeK run_loadK results_one loadVarK wpList_builtK)
open Go.Proofs.YtpkmpinbpfblfaaGreatDoor.Or (st_yes)
set_option linter.unusedVariables false
set_option maxRecDepth 100000
set_option maxRecDepth 100000
theorem and_128 (f : Int) (h0 : 0 ≤ f) (h1 : f < 256) : bits BinOp.and IntKind.i64 f 128 = if 128 ≤ f then 128 else 0 := by
  obtain ⟨n, rfl⟩ := Int.eq_ofNat_of_zero_le h0
  have h : ∀ n : Nat, n < 256 → bits BinOp.and IntKind.i64 (n : Int) 128 = if (128 : Int) ≤ (n : Int) then 128 else 0 := by decide +kernel
  exact h n (by omega)
theorem and_64 (f : Int) (h0 : 0 ≤ f) (h1 : f < 256) : bits BinOp.and IntKind.i64 f 64 = if f / 64 % 2 = 1 then 64 else 0 := by
  obtain ⟨n, rfl⟩ := Int.eq_ofNat_of_zero_le h0
  have h : ∀ n : Nat, n < 256 → bits BinOp.and IntKind.i64 (n : Int) 64 = if (n : Int) / 64 % 2 = 1 then 64 else 0 := by decide +kernel
  exact h n (by omega)
/-- An element of a block's array of texts: its address. -/
theorem indexAt4 (b k : Nat) (hk : k < 4) (W : World) : (Instr.indexAt 32 (.pointer (some ⟨b, 0, none⟩)) (.int .i64 (k : Int))).run Tryz.prog W = .ok (.pointer (some ⟨b, k, none⟩)) W := by
  rcases (show k = 0 ∨ k = 1 ∨ k = 2 ∨ k = 3 by omega) with rfl | rfl | rfl | rfl <;> kernel_rfl
theorem indexAt2 (b k : Nat) (hk : k < 2) (W : World) : (Instr.indexAt 33 (.pointer (some ⟨b, 4, none⟩)) (.int .i64 (k : Int))).run Tryz.prog W = .ok (.pointer (some ⟨b, 4 + k, none⟩)) W := by
  rcases (show k = 0 ∨ k = 1 by omega) with rfl | rfl <;> kernel_rfl
theorem ex_indexAt {P : Program} {o : Oper} {ρ : Operand → Value} {T : TypeId} {x y : Operand} {vx vy r : Value} {w : World} (ho : o.op = .indexAddr T x y) (hx : ρ x = vx) (hy : ρ y = vy) (h : (Instr.indexAt T vx vy).run P w = .ok r w) :
    (execOp ρ o).run P w = .ok (.value r) w := by
  unfold execOp
  simp only [ho, hx, hy, Sem.run_bind, h, Result.andThen_ok, Sem.run_pure]
abbrev nilV : Value := .slice none 0 0
set_option maxHeartbeats 12800000 in
theorem flagged_any (c : Kx) (d : ByteArray) (u : Up) (a : ByteArray) (w : World) (g : Cnt d u) (ha : a.size ≤ 1000) :
    Calls Tryz.prog 97 #[.agg (stC c nilV), .agg u.cells, .string a] w fun e w' => e = .returned (.agg (stC (flagC c u a) nilV)) ∧ Below w.heap.size w w' := by
  have PI := Lib.hid (fun V => idOf_any a V ha)
  have hA := and_128 u.flags g.fl0 g.fl1
  have hB := and_64 u.flags g.fl0 g.fl1
  obtain ⟨k, hk⟩ : ∃ k : Nat, u.ae = k := ⟨u.ae.toNat, by have := g.ae0; omega⟩
  have hk4 : k < 4 := by have := g.ae3; omega
  have S0 := Lib.hid (((Bk.Bk.new 81 w (stC c nilV)).old (.cells u.cells 119)).old (.cells (stC Kx.zero nilV) 81))
  have U0 := Bk.Bk.new 119 (w.alloc (.cells (stC c nilV) 81)) u.cells
  rw [alloc_size] at U0
  have U0 := Lib.hid (U0.old (.cells (stC Kx.zero nilV) 81))
  have R0 := Bk.Bk.new 81 ((w.alloc (.cells (stC c nilV) 81)).alloc (.cells u.cells 119)) (stC Kx.zero nilV)
  rw [alloc_size, alloc_size] at R0
  have R0 := Lib.hid R0
  have HB := Lib.hid (balloc (balloc (balloc (Below.refl _ w) (.cells (stC c nilV) 81)) (.cells u.cells 119)) (.cells (stC Kx.zero nilV) 81))
  clear g ha
  by_cases h0 : k = 0
  · subst h0
    have HK := Lib.hid (show flagC c u a = c by unfold flagC; rw [if_pos (show u.ae = 0 from hk)])
    go_enter Tryz.func97, Tryz.ntmps97
    go_upto_region 1 with fail
    change Code.wp _ _ _ _ (((w.alloc (.cells (stC c nilV) 81)).alloc (.cells u.cells 119)).alloc (.cells (stC Kx.zero nilV) 81))
    generalize ((w.alloc (.cells (stC c nilV) 81)).alloc (.cells u.cells 119)).alloc (.cells (stC Kx.zero nilV) 81) = W at *
    have c0 := U0.out.cell 0 (.int .i64 u.ae) rfl
    have c1 := U0.out.cell 1 (.int .i64 u.flags) rfl
    rw [hk] at c0
    clear hA hB hk
    go_wp2_with (first | (refine wpList_loadS (b := w.heap.size) (c := c) (v := nilV) rfl _ rfl rfl S0.out ?_) | (refine wpList_storeS (b := w.heap.size + 1 + 1) (c := Kx.zero) (c' := c) (v := nilV) (q := none) (n := 0) (k := 0) rfl _ _ rfl rfl rfl R0.out ?_))
    exact bodyPost_ret (v := .agg (stC (c) nilV)) (results_one rfl _ _ (w.heap.size + 1 + 1) _ rfl shS (R0.out.put (stC (c) nilV)) rfl) rfl ⟨by rw [HK.out], Box.below_setRow HB.out (by omega) _⟩
  have h02 : ((k : Int) == 0) = false := by simpa using h0
  have hae : ¬ u.ae = 0 := by omega
  by_cases g2 : u.flags / 64 % 2 = 1
  · by_cases g1 : 128 ≤ u.flags
    · have HK := Lib.hid (show flagC c u a = { (c.setP k a) with id := idA a } from by
        unfold flagC
        rw [if_neg hae, if_pos g2, if_pos g1, hk])
      rw [if_pos g1] at hA
      rw [if_pos g2] at hB
      go_enter Tryz.func97, Tryz.ntmps97
      go_upto_region 1 with fail
      change Code.wp _ _ _ _ (((w.alloc (.cells (stC c nilV) 81)).alloc (.cells u.cells 119)).alloc (.cells (stC Kx.zero nilV) 81))
      generalize ((w.alloc (.cells (stC c nilV) 81)).alloc (.cells u.cells 119)).alloc (.cells (stC Kx.zero nilV) 81) = W at *
      have c0 := U0.out.cell 0 (.int .i64 u.ae) rfl
      have c1 := U0.out.cell 1 (.int .i64 u.flags) rfl
      rw [hk] at c0
      clear g1 g2 h0 hae
      have d := pf_cell S0.out hk4
      have fd := S0.out.frozen k
      go_upto_region 5 with (first | (refine st_yes (v := .pointer (some ⟨w.heap.size, k, none⟩)) (by rfl) rfl (ex_indexAt rfl rfl rfl (indexAt4 w.heap.size k hk4 _)) ?_))
      have XS := S0.out.set (i := k) (v := .string a) (cs' := stC (c.setP k a) nilV) (setP_cells c a nilV hk4)
      have XU := U0.out.off (p := ⟨w.heap.size, k, none⟩) (by show w.heap.size + 1 ≠ w.heap.size; omega) (.string a)
      have XR := R0.out.off (p := ⟨w.heap.size, k, none⟩) (by show w.heap.size + 1 + 1 ≠ w.heap.size; omega) (.string a)
      have XB := HB.out.setCell (p := ⟨w.heap.size, k, none⟩) (by show w.heap.size ≤ w.heap.size; omega) (.string a)
      have S0 := Lib.hid XS
      have U0 := Lib.hid XU
      have R0 := Lib.hid XR
      have HB := Lib.hid XB
      clear XS XU XR XB d fd c0 c1
      generalize W.setCell ⟨w.heap.size, k, none⟩ (.string a) = W at *
      have c0 := U0.out.cell 0 (.int .i64 u.ae) rfl
      have c1 := U0.out.cell 1 (.int .i64 u.flags) rfl
      rw [hk] at c0
      go_wp2_with fail
      refine (PI.out _).mono ?_
      rintro e w1 ⟨rfl, hb⟩
      have S0 := Lib.hid (S0.out.below hb)
      have U0 := Lib.hid (U0.out.below hb)
      have R0 := Lib.hid (R0.out.below hb)
      have HB := Lib.hid (bcall HB.out hb)
      clear hb c0 c1 PI
      have d := S0.out.cell 6 _ rfl
      have fd := S0.out.frozen 6
      go_upto_region 7 with fail
      have XS := S0.out.set (i := 6) (v := .string (idA a)) (cs' := stC ({ (c.setP k a) with id := idA a }) nilV) rfl
      have XU := U0.out.off (p := ⟨w.heap.size, 6, none⟩) (by show w.heap.size + 1 ≠ w.heap.size; omega) (.string (idA a))
      have XR := R0.out.off (p := ⟨w.heap.size, 6, none⟩) (by show w.heap.size + 1 + 1 ≠ w.heap.size; omega) (.string (idA a))
      have XB := HB.out.setCell (p := ⟨w.heap.size, 6, none⟩) (by show w.heap.size ≤ w.heap.size; omega) (.string (idA a))
      have S0 := Lib.hid XS
      have U0 := Lib.hid XU
      have R0 := Lib.hid XR
      have HB := Lib.hid XB
      clear XS XU XR XB d fd
      generalize w1.setCell ⟨w.heap.size, 6, none⟩ (.string (idA a)) = W2 at *
      clear hA hB hk h02
      go_wp2_with (first | (refine wpList_loadS (b := w.heap.size) (c := ({ (c.setP k a) with id := idA a })) (v := nilV) rfl _ rfl rfl S0.out ?_) | (refine wpList_storeS (b := w.heap.size + 1 + 1) (c := Kx.zero) (c' := ({ (c.setP k a) with id := idA a })) (v := nilV) (q := none) (n := 0) (k := 0) rfl _ _ rfl rfl rfl R0.out ?_))
      exact bodyPost_ret (v := .agg (stC (({ (c.setP k a) with id := idA a })) nilV)) (results_one rfl _ _ (w.heap.size + 1 + 1) _ rfl shS (R0.out.put (stC (({ (c.setP k a) with id := idA a })) nilV)) rfl) rfl ⟨by rw [HK.out], Box.below_setRow HB.out (by omega) _⟩
    · have HK := Lib.hid (show flagC c u a = { c with id := idA a } from by
        unfold flagC
        rw [if_neg hae, if_pos g2, if_neg g1])
      rw [if_neg g1] at hA
      rw [if_pos g2] at hB
      go_enter Tryz.func97, Tryz.ntmps97
      go_upto_region 1 with fail
      change Code.wp _ _ _ _ (((w.alloc (.cells (stC c nilV) 81)).alloc (.cells u.cells 119)).alloc (.cells (stC Kx.zero nilV) 81))
      generalize ((w.alloc (.cells (stC c nilV) 81)).alloc (.cells u.cells 119)).alloc (.cells (stC Kx.zero nilV) 81) = W at *
      have c0 := U0.out.cell 0 (.int .i64 u.ae) rfl
      have c1 := U0.out.cell 1 (.int .i64 u.flags) rfl
      rw [hk] at c0
      clear g1 g2 h0 hae
      go_wp2_with fail
      refine (PI.out _).mono ?_
      rintro e w1 ⟨rfl, hb⟩
      have S0 := Lib.hid (S0.out.below hb)
      have U0 := Lib.hid (U0.out.below hb)
      have R0 := Lib.hid (R0.out.below hb)
      have HB := Lib.hid (bcall HB.out hb)
      clear hb c0 c1 PI
      have d := S0.out.cell 6 _ rfl
      have fd := S0.out.frozen 6
      go_upto_region 7 with fail
      have XS := S0.out.set (i := 6) (v := .string (idA a)) (cs' := stC ({ c with id := idA a }) nilV) rfl
      have XU := U0.out.off (p := ⟨w.heap.size, 6, none⟩) (by show w.heap.size + 1 ≠ w.heap.size; omega) (.string (idA a))
      have XR := R0.out.off (p := ⟨w.heap.size, 6, none⟩) (by show w.heap.size + 1 + 1 ≠ w.heap.size; omega) (.string (idA a))
      have XB := HB.out.setCell (p := ⟨w.heap.size, 6, none⟩) (by show w.heap.size ≤ w.heap.size; omega) (.string (idA a))
      have S0 := Lib.hid XS
      have U0 := Lib.hid XU
      have R0 := Lib.hid XR
      have HB := Lib.hid XB
      clear XS XU XR XB d fd
      generalize w1.setCell ⟨w.heap.size, 6, none⟩ (.string (idA a)) = W2 at *
      clear hA hB hk h02
      go_wp2_with (first | (refine wpList_loadS (b := w.heap.size) (c := ({ c with id := idA a })) (v := nilV) rfl _ rfl rfl S0.out ?_) | (refine wpList_storeS (b := w.heap.size + 1 + 1) (c := Kx.zero) (c' := ({ c with id := idA a })) (v := nilV) (q := none) (n := 0) (k := 0) rfl _ _ rfl rfl rfl R0.out ?_))
      exact bodyPost_ret (v := .agg (stC (({ c with id := idA a })) nilV)) (results_one rfl _ _ (w.heap.size + 1 + 1) _ rfl shS (R0.out.put (stC (({ c with id := idA a })) nilV)) rfl) rfl ⟨by rw [HK.out], Box.below_setRow HB.out (by omega) _⟩
  · by_cases g1 : 128 ≤ u.flags
    · have HK := Lib.hid (show flagC c u a = c.setP k a from by
        unfold flagC
        rw [if_neg hae, if_neg g2, if_pos g1, hk])
      rw [if_pos g1] at hA
      rw [if_neg g2] at hB
      go_enter Tryz.func97, Tryz.ntmps97
      go_upto_region 1 with fail
      change Code.wp _ _ _ _ (((w.alloc (.cells (stC c nilV) 81)).alloc (.cells u.cells 119)).alloc (.cells (stC Kx.zero nilV) 81))
      generalize ((w.alloc (.cells (stC c nilV) 81)).alloc (.cells u.cells 119)).alloc (.cells (stC Kx.zero nilV) 81) = W at *
      have c0 := U0.out.cell 0 (.int .i64 u.ae) rfl
      have c1 := U0.out.cell 1 (.int .i64 u.flags) rfl
      rw [hk] at c0
      clear g1 g2 h0 hae
      have d := pf_cell S0.out hk4
      have fd := S0.out.frozen k
      go_upto_region 5 with (first | (refine st_yes (v := .pointer (some ⟨w.heap.size, k, none⟩)) (by rfl) rfl (ex_indexAt rfl rfl rfl (indexAt4 w.heap.size k hk4 _)) ?_))
      have XS := S0.out.set (i := k) (v := .string a) (cs' := stC (c.setP k a) nilV) (setP_cells c a nilV hk4)
      have XU := U0.out.off (p := ⟨w.heap.size, k, none⟩) (by show w.heap.size + 1 ≠ w.heap.size; omega) (.string a)
      have XR := R0.out.off (p := ⟨w.heap.size, k, none⟩) (by show w.heap.size + 1 + 1 ≠ w.heap.size; omega) (.string a)
      have XB := HB.out.setCell (p := ⟨w.heap.size, k, none⟩) (by show w.heap.size ≤ w.heap.size; omega) (.string a)
      have S0 := Lib.hid XS
      have U0 := Lib.hid XU
      have R0 := Lib.hid XR
      have HB := Lib.hid XB
      clear XS XU XR XB d fd c0 c1
      generalize W.setCell ⟨w.heap.size, k, none⟩ (.string a) = W at *
      have c0 := U0.out.cell 0 (.int .i64 u.ae) rfl
      have c1 := U0.out.cell 1 (.int .i64 u.flags) rfl
      rw [hk] at c0
      clear PI
      go_wp2_with (first | (refine wpList_loadS (b := w.heap.size) (c := (c.setP k a)) (v := nilV) rfl _ rfl rfl S0.out ?_) | (refine wpList_storeS (b := w.heap.size + 1 + 1) (c := Kx.zero) (c' := (c.setP k a)) (v := nilV) (q := none) (n := 0) (k := 0) rfl _ _ rfl rfl rfl R0.out ?_))
      exact bodyPost_ret (v := .agg (stC ((c.setP k a)) nilV)) (results_one rfl _ _ (w.heap.size + 1 + 1) _ rfl shS (R0.out.put (stC ((c.setP k a)) nilV)) rfl) rfl ⟨by rw [HK.out], Box.below_setRow HB.out (by omega) _⟩
    · have HK := Lib.hid (show flagC c u a = c from by
        unfold flagC
        rw [if_neg hae, if_neg g2, if_neg g1])
      rw [if_neg g1] at hA
      rw [if_neg g2] at hB
      go_enter Tryz.func97, Tryz.ntmps97
      go_upto_region 1 with fail
      change Code.wp _ _ _ _ (((w.alloc (.cells (stC c nilV) 81)).alloc (.cells u.cells 119)).alloc (.cells (stC Kx.zero nilV) 81))
      generalize ((w.alloc (.cells (stC c nilV) 81)).alloc (.cells u.cells 119)).alloc (.cells (stC Kx.zero nilV) 81) = W at *
      have c0 := U0.out.cell 0 (.int .i64 u.ae) rfl
      have c1 := U0.out.cell 1 (.int .i64 u.flags) rfl
      rw [hk] at c0
      clear g1 g2 h0 hae
      clear PI
      go_wp2_with (first | (refine wpList_loadS (b := w.heap.size) (c := c) (v := nilV) rfl _ rfl rfl S0.out ?_) | (refine wpList_storeS (b := w.heap.size + 1 + 1) (c := Kx.zero) (c' := c) (v := nilV) (q := none) (n := 0) (k := 0) rfl _ _ rfl rfl rfl R0.out ?_))
      exact bodyPost_ret (v := .agg (stC (c) nilV)) (results_one rfl _ _ (w.heap.size + 1 + 1) _ rfl shS (R0.out.put (stC (c) nilV)) rfl) rfl ⟨by rw [HK.out], Box.below_setRow HB.out (by omega) _⟩
theorem tell_is (c : Kx) (u : Up) : tellB c u = (!decide (u.hav = 0) && (decide (u.metric = 65535) || (!decide (u.ae = 0) && !decide (c.id.size = 0)))) := rfl
set_option maxHeartbeats 6400000 in
theorem tells_any (c : Kx) (u : Up) (w : World) :
    Calls Tryz.prog 98 #[.agg (stC c nilV), .agg u.cells] w fun e w' => e = .returned (.bool (tellB c u)) ∧ Below w.heap.size w w' := by
  have HK := Lib.hid (tell_is c u)
  have n1 := nil_eq c.id
  have n2 := nil_em c.id
  have S0 := (Bk.Bk.new 81 w (stC c nilV)).old (.cells u.cells 119)
  have U0 := Bk.Bk.new 119 (w.alloc (.cells (stC c nilV) 81)) u.cells
  rw [alloc_size] at U0
  have HB := Lib.hid (balloc (balloc (Below.refl _ w) (.cells (stC c nilV) 81)) (.cells u.cells 119))
  have s6 := S0.cell 6 (.string c.id) rfl
  have c0 := U0.cell 0 (.int .i64 u.ae) rfl
  have c6 := U0.cell 6 (.int .i64 u.metric) rfl
  have c7 := U0.cell 7 (.int .i64 u.hav) rfl
  clear S0 U0
  generalize tellB c u = y at *
  generalize decide (c.id.size = 0) = z at *
  by_cases h7 : u.hav = 0
  · rw [decide_eq_true h7] at HK
    rw [h7] at c7
    clear h7
    go_enter Tryz.func98, Tryz.ntmps98
    go_upto_region 1 with fail
    change Code.wp _ _ _ _ ((w.alloc (.cells (stC c nilV) 81)).alloc (.cells u.cells 119))
    generalize (w.alloc (.cells (stC c nilV) 81)).alloc (.cells u.cells 119) = W at *
    go_wp2
    go_ret
    exact ⟨bool_eq HK.out.symm, HB.out⟩
  have e7 : (u.hav == 0) = false := by simpa using h7
  rw [decide_eq_false h7] at HK
  clear h7
  by_cases h6 : u.metric = 65535
  · rw [decide_eq_true h6] at HK
    rw [h6] at c6
    clear h6
    go_enter Tryz.func98, Tryz.ntmps98
    go_upto_region 1 with fail
    change Code.wp _ _ _ _ ((w.alloc (.cells (stC c nilV) 81)).alloc (.cells u.cells 119))
    generalize (w.alloc (.cells (stC c nilV) 81)).alloc (.cells u.cells 119) = W at *
    go_wp2
    go_ret
    exact ⟨bool_eq HK.out.symm, HB.out⟩
  have e6 : (u.metric == 65535) = false := by simpa using h6
  rw [decide_eq_false h6] at HK
  clear h6
  by_cases h0 : u.ae = 0
  · rw [decide_eq_true h0] at HK
    rw [h0] at c0
    clear h0
    go_enter Tryz.func98, Tryz.ntmps98
    go_upto_region 1 with fail
    change Code.wp _ _ _ _ ((w.alloc (.cells (stC c nilV) 81)).alloc (.cells u.cells 119))
    generalize (w.alloc (.cells (stC c nilV) 81)).alloc (.cells u.cells 119) = W at *
    go_wp2
    go_ret
    exact ⟨bool_eq HK.out.symm, HB.out⟩
  have e0 : (u.ae == 0) = false := by simpa using h0
  have f0 : (u.ae != 0) = true := by rw [bne, e0]; rfl
  rw [decide_eq_false h0] at HK
  clear h0
  cases z
  · go_enter Tryz.func98, Tryz.ntmps98
    go_upto_region 1 with fail
    change Code.wp _ _ _ _ ((w.alloc (.cells (stC c nilV) 81)).alloc (.cells u.cells 119))
    generalize (w.alloc (.cells (stC c nilV) 81)).alloc (.cells u.cells 119) = W at *
    go_wp2
    go_ret
    exact ⟨bool_eq HK.out.symm, HB.out⟩
  go_enter Tryz.func98, Tryz.ntmps98
  go_upto_region 1 with fail
  change Code.wp _ _ _ _ ((w.alloc (.cells (stC c nilV) 81)).alloc (.cells u.cells 119))
  generalize (w.alloc (.cells (stC c nilV) 81)).alloc (.cells u.cells 119) = W at *
  go_wp2
  go_ret
  exact ⟨bool_eq HK.out.symm, HB.out⟩
theorem shM' : Sh Tryz.prog 43 25 := ⟨_, Tryz.underlying43, by kernel_rfl⟩
set_option maxHeartbeats 12800000 in
theorem message_any (c : Kx) (d : ByteArray) (u : Up) (a : ByteArray) (w : World) (g : Cnt d u) (ht : u.metric = 65535 ∨ ¬ u.ae = 0) :
    Calls Tryz.prog 99 #[.agg (stC c nilV), .agg u.cells, .string a] w fun e w' => e = .returned (.agg (M.cells { updM c u a with sa := u.sa, sc := u.sc })) ∧ Below w.heap.size w w' := by
  have S0 := Lib.hid (((Bk.Bk.new 81 w (stC c nilV)).old (.cells u.cells 119)).old (.cells M.zero.cells 43))
  have U0 := Bk.Bk.new 119 (w.alloc (.cells (stC c nilV) 81)) u.cells
  rw [alloc_size] at U0
  have U0 := Lib.hid (U0.old (.cells M.zero.cells 43))
  have R0 := Bx.new ((w.alloc (.cells (stC c nilV) 81)).alloc (.cells u.cells 119)) M.zero
  rw [alloc_size, alloc_size] at R0
  have R0 := Lib.hid R0
  have HB := Lib.hid (balloc (balloc (balloc (Below.refl _ w) (.cells (stC c nilV) 81)) (.cells u.cells 119)) (.cells M.zero.cells 43))
  have PF := Lib.hid (fun V => fam_any u.ae V)
  obtain ⟨m0, hm0⟩ : ∃ m : M, m = { M.zero with kind := 11, ae := u.ae, pfx := a, plen := u.plen, interval := u.iv, seq := u.seq, metric := u.metric, sa := u.sa, sl := u.sl, sc := u.sc } := ⟨_, rfl⟩
  by_cases hm : u.metric = 65535
  · have HK := Lib.hid (show ({ updM c u a with sa := u.sa, sc := u.sc } : M) = m0 from by
      rw [hm0]
      unfold updM
      rw [if_pos hm, if_pos hm]
      rfl)
    have HM0 := Lib.hid hm0
    have HMM := Lib.hid hm
    clear hm0 ht g hm
    go_enter Tryz.func99, Tryz.ntmps99
    go_upto_region 1 with fail
    change Code.wp _ _ _ _ (((w.alloc (.cells (stC c nilV) 81)).alloc (.cells u.cells 119)).alloc (.cells M.zero.cells 43))
    generalize ((w.alloc (.cells (stC c nilV) 81)).alloc (.cells u.cells 119)).alloc (.cells M.zero.cells 43) = W at *
    have c0 := U0.out.cell 0 (.int .i64 u.ae) rfl
    have c2 := U0.out.cell 2 (.int .i64 u.plen) rfl
    have c4 := U0.out.cell 4 (.int .i64 u.iv) rfl
    have c5 := U0.out.cell 5 (.int .i64 u.seq) rfl
    have c6 := U0.out.cell 6 (.int .i64 u.metric) rfl
    have c9 := U0.out.cell 9 (.slice u.sa u.sl.length u.sc) rfl
    have hlt := R0.out.lt
    go_upto_region 2 with (first | (refine wpList_builtK rfl 43 _ rfl (M.cells { M.zero with kind := 11, ae := u.ae, pfx := a, plen := u.plen, interval := u.iv, seq := u.seq, metric := u.metric, sa := u.sa, sl := u.sl, sc := u.sc }) (by kernel_rfl) ?_) | (refine wpList_storeM (b := W.heap.size) (m := M.zero) (m' := { M.zero with kind := 11, ae := u.ae, pfx := a, plen := u.plen, interval := u.iv, seq := u.seq, metric := u.metric, sa := u.sa, sl := u.sl, sc := u.sc }) rfl _ _ rfl rfl rfl (Bx.new W M.zero) ?_))
    change Code.wp _ _ _ _ ((W.alloc (.cells M.zero.cells 43)).setRow W.heap.size (M.cells { M.zero with kind := 11, ae := u.ae, pfx := a, plen := u.plen, interval := u.iv, seq := u.seq, metric := u.metric, sa := u.sa, sl := u.sl, sc := u.sc }))
    rw [World.setRow_alloc_new, ← HM0.out]
    have bel := balloc (Below.refl W.heap.size W) (.cells m0.cells 43)
    have S0 := Lib.hid (S0.out.below bel)
    have U0 := Lib.hid (U0.out.below bel)
    have R0 := Lib.hid (R0.out.below bel)
    have HB := Lib.hid (bcall HB.out bel)
    have X0 := Lib.hid (Bx.new W m0)
    clear bel c0 c2 c4 c5 c6 c9
    generalize W.alloc (.cells m0.cells 43) = Y at *
    generalize W.heap.size = gx at *
    have c6 := U0.out.cell 6 (.int .i64 u.metric) rfl
    rw [HMM.out] at c6
    go_wp2_with (first | (refine wpList_loadM (b := gx) (m := m0) rfl _ rfl rfl X0.out ?_) | (refine wpList_storeM (b := w.heap.size + 1 + 1) (m := M.zero) (m' := m0) rfl _ _ rfl rfl rfl R0.out ?_))
    exact bodyPost_ret (v := .agg (M.cells (m0))) (results_one rfl _ _ (w.heap.size + 1 + 1) _ rfl shM' (R0.out.put (m' := m0)) rfl) rfl ⟨by rw [HK.out], Box.below_setRow HB.out (by omega) _⟩
  have hm2 : (u.metric == 65535) = false := by simpa using hm
  have hm3 : (u.metric != 65535) = true := by rw [bne, hm2]; rfl
  obtain ⟨f, hf, hf2⟩ : ∃ f : Nat, fam u.ae = f ∧ f < 2 := by
    have h0 := g.ae0
    have h3 := g.ae3
    have h4 := ht.resolve_left hm
    rcases (show u.ae = 1 ∨ u.ae = 2 ∨ u.ae = 3 by omega) with e | e | e <;> rw [e]
    · exact ⟨0, rfl, by decide⟩
    · exact ⟨1, rfl, by decide⟩
    · exact ⟨1, rfl, by decide⟩
  have HK := Lib.hid (show ({ updM c u a with sa := u.sa, sc := u.sc } : M) = { m0 with id := c.id, next := c.nx f } from by
    rw [hm0]
    unfold updM
    rw [if_neg hm, if_neg hm, hf])
  rw [hf] at PF
  have HM0 := Lib.hid hm0
  clear hm0 ht g hf
  go_enter Tryz.func99, Tryz.ntmps99
  go_upto_region 1 with fail
  change Code.wp _ _ _ _ (((w.alloc (.cells (stC c nilV) 81)).alloc (.cells u.cells 119)).alloc (.cells M.zero.cells 43))
  generalize ((w.alloc (.cells (stC c nilV) 81)).alloc (.cells u.cells 119)).alloc (.cells M.zero.cells 43) = W at *
  have c0 := U0.out.cell 0 (.int .i64 u.ae) rfl
  have c2 := U0.out.cell 2 (.int .i64 u.plen) rfl
  have c4 := U0.out.cell 4 (.int .i64 u.iv) rfl
  have c5 := U0.out.cell 5 (.int .i64 u.seq) rfl
  have c6 := U0.out.cell 6 (.int .i64 u.metric) rfl
  have c9 := U0.out.cell 9 (.slice u.sa u.sl.length u.sc) rfl
  have hlt := R0.out.lt
  go_upto_region 2 with (first | (refine wpList_builtK rfl 43 _ rfl (M.cells { M.zero with kind := 11, ae := u.ae, pfx := a, plen := u.plen, interval := u.iv, seq := u.seq, metric := u.metric, sa := u.sa, sl := u.sl, sc := u.sc }) (by kernel_rfl) ?_) | (refine wpList_storeM (b := W.heap.size) (m := M.zero) (m' := { M.zero with kind := 11, ae := u.ae, pfx := a, plen := u.plen, interval := u.iv, seq := u.seq, metric := u.metric, sa := u.sa, sl := u.sl, sc := u.sc }) rfl _ _ rfl rfl rfl (Bx.new W M.zero) ?_))
  change Code.wp _ _ _ _ ((W.alloc (.cells M.zero.cells 43)).setRow W.heap.size (M.cells { M.zero with kind := 11, ae := u.ae, pfx := a, plen := u.plen, interval := u.iv, seq := u.seq, metric := u.metric, sa := u.sa, sl := u.sl, sc := u.sc }))
  rw [World.setRow_alloc_new, ← HM0.out]
  have bel := balloc (Below.refl W.heap.size W) (.cells m0.cells 43)
  have S0 := Lib.hid (S0.out.below bel)
  have U0 := Lib.hid (U0.out.below bel)
  have R0 := Lib.hid (R0.out.below bel)
  have HB := Lib.hid (bcall HB.out bel)
  have X0 := Lib.hid (Bx.new W m0)
  clear bel c0 c2 c4 c5 c6 c9
  generalize W.alloc (.cells m0.cells 43) = Y at *
  generalize W.heap.size = gx at *
  have c6 := U0.out.cell 6 (.int .i64 u.metric) rfl
  have s6 := S0.out.cell 6 (.string c.id) rfl
  have d := X0.out.cs.c11
  have fd := X0.out.frozen 11
  go_upto_region 4 with fail
  clear c6 s6 hm hm2 hm3
  have X0 := Lib.hid (X0.out.set (i := 11) (v := .string c.id) (m' := { m0 with id := c.id }) rfl)
  have S0 := Lib.hid (S0.out.off (p := ⟨gx, 11, none⟩) (by show w.heap.size ≠ gx; omega) (.string c.id))
  have U0 := Lib.hid (U0.out.off (p := ⟨gx, 11, none⟩) (by show w.heap.size + 1 ≠ gx; omega) (.string c.id))
  have R0 := Lib.hid (R0.out.off (p := ⟨gx, 11, none⟩) (by show w.heap.size + 1 + 1 ≠ gx; omega) (.string c.id))
  have HB := Lib.hid (HB.out.setCell (p := ⟨gx, 11, none⟩) (by show w.heap.size ≤ gx; omega) (.string c.id))
  clear d fd
  generalize Y.setCell ⟨gx, 11, none⟩ (.string c.id) = Y1 at *
  have c0 := U0.out.cell 0 (.int .i64 u.ae) rfl
  go_wp2_with fail
  refine (PF.out _).mono ?_
  rintro e w' ⟨rfl, rfl⟩
  have s4 := nx_cell S0.out hf2
  have d := X0.out.cs.c9
  have fd := X0.out.frozen 9
  go_upto_region 5 with (first | (refine st_yes (v := .pointer (some ⟨w.heap.size, 4 + f, none⟩)) (by rfl) rfl (ex_indexAt rfl rfl rfl (indexAt2 w.heap.size f hf2 _)) ?_))
  clear c0 s4
  have X0 := Lib.hid (X0.out.set (i := 9) (v := .string (c.nx f)) (m' := { m0 with id := c.id, next := c.nx f }) rfl)
  have S0 := Lib.hid (S0.out.off (p := ⟨gx, 9, none⟩) (by show w.heap.size ≠ gx; omega) (.string (c.nx f)))
  have U0 := Lib.hid (U0.out.off (p := ⟨gx, 9, none⟩) (by show w.heap.size + 1 ≠ gx; omega) (.string (c.nx f)))
  have R0 := Lib.hid (R0.out.off (p := ⟨gx, 9, none⟩) (by show w.heap.size + 1 + 1 ≠ gx; omega) (.string (c.nx f)))
  have HB := Lib.hid (HB.out.setCell (p := ⟨gx, 9, none⟩) (by show w.heap.size ≤ gx; omega) (.string (c.nx f)))
  clear d fd
  generalize Y1.setCell ⟨gx, 9, none⟩ (.string (c.nx f)) = Y2 at *
  go_wp2_with (first | (refine wpList_loadM (b := gx) (m := { m0 with id := c.id, next := c.nx f }) rfl _ rfl rfl X0.out ?_) | (refine wpList_storeM (b := w.heap.size + 1 + 1) (m := M.zero) (m' := { m0 with id := c.id, next := c.nx f }) rfl _ _ rfl rfl rfl R0.out ?_))
  exact bodyPost_ret (v := .agg (M.cells ({ m0 with id := c.id, next := c.nx f }))) (results_one rfl _ _ (w.heap.size + 1 + 1) _ rfl shM' (R0.out.put (m' := { m0 with id := c.id, next := c.nx f })) rfl) rfl ⟨by rw [HK.out], Box.below_setRow HB.out (by omega) _⟩
end Go.Proofs.YtpkmpinbpfblfaaGreatDoor.K4
