/-
  Whether a message may be, and the TLV of one that is no Update: the program's Right and alone. Conditions: the message's lists stand in the world, and aren't long; the variables have what they are laid with.
-/
import Derived.Test.YtjhfpobjbijcpaaGreatDoorE25
import Derived.Test.YtjhfpobjbijcpaaGreatDoorE29
import Derived.Test.YtjhfpobjbijcpaaGreatDoorE31
namespace Go.Proofs.YtjhfpobjbijcpaaGreatDoor.L5
open Go.ChangeShapes Go.WideShapes Go.ChangeAt Go.RowKit
open Go.Proofs.YtjhfpobjbijcpaaGreatDoor.Ms
open Go.Proofs.YtjhfpobjbijcpaaGreatDoor.Box
open Go.Proofs.YtjhfpobjbijcpaaGreatDoor.An
open Go.Proofs.YtjhfpobjbijcpaaGreatDoor.Tc
open Go.Proofs.YtjhfpobjbijcpaaGreatDoor.Nu (text_eq)
open Go.Proofs.YtjhfpobjbijcpaaGreatDoor.G1 (okF putF)
open Go.Proofs.YtjhfpobjbijcpaaGreatDoor.J1 (okJ putJ bare)
open Go.Proofs.YtjhfpobjbijcpaaGreatDoor.K1 (okU)
open Go.Proofs.YtjhfpobjbijcpaaGreatDoor.Oct (fitsB fitsB_iff)
open Go.Proofs.YtjhfpobjbijcpaaGreatDoor.L1
open Go.Proofs.YtjhfpobjbijcpaaGreatDoor.L2
open Go.Proofs.YtjhfpobjbijcpaaGreatDoor.L4
open Go.Proofs.YtjhfpobjbijcpaaGreatDoor.F1 (enc1 ok1 put_ok putO)
open Go.Proofs.YtjhfpobjbijcpaaGreatDoor.F6 (PutIs)
set_option linter.unusedVariables false
set_option maxRecDepth 100000
set_option maxRecDepth 100000
theorem no_F {m : M} (h : ¬ (7 ≤ m.kind ∧ m.kind ≤ 10)) : okF m = false := by
  cases k : okF m
  · rfl
  · exact absurd (kind_F k) h
theorem no_J {m : M} (h : ¬ (m.kind = 12 ∨ m.kind = 13)) : okJ m = false := by
  cases k : okJ m
  · rfl
  · exact absurd (kind_J k) h
theorem no_U {m : M} (h : ¬ m.kind = 11) : okU m = false := by
  cases k : okU m
  · rfl
  · exact absurd ((oku_iff m).1 k).kind h
theorem no_O {m : M} (h : ¬ m.kind = 14) : okO m = false := by
  cases k : okO m
  · rfl
  · exact absurd (o_parts k).1 h
theorem okL_f {m : M} (h : m.kind = 7 ∨ m.kind = 8 ∨ m.kind = 9 ∨ m.kind = 10) : okL m = okF m := by
  unfold okL; rw [no_J (by omega), no_U (by omega), no_O (by omega)]; simp
theorem okL_u {m : M} (h : m.kind = 11) : okL m = okU m := by
  unfold okL; rw [no_F (by omega), no_J (by omega), no_O (by omega)]; simp
theorem okL_j {m : M} (h : m.kind = 12 ∨ m.kind = 13) : okL m = okJ m := by
  unfold okL; rw [no_F (by omega), no_U (by omega), no_O (by omega)]; simp
theorem okL_o {m : M} (h : m.kind = 14) : okL m = okO m := by
  unfold okL; rw [no_F (by omega), no_J (by omega), no_U (by omega)]; simp
theorem okL_no {m : M} (h : ¬ (7 ≤ m.kind ∧ m.kind ≤ 14)) : okL m = false := by
  unfold okL; rw [no_F (by omega), no_J (by omega), no_U (by omega), no_O (by omega)]; simp
theorem fits1 (v : Int) : fitsB v 1 = true ↔ 0 ≤ v ∧ v ≤ 255 := by
  have := fitsB_iff v 1
  have h : ((Oct.pw (Int.toNat 1) : Nat) : Int) = 256 := rfl
  rw [this, h]
  omega
theorem okO_is {m : M} (h : m.kind = 14) : okO m = (bare m && (decide (11 ≤ m.typ) && (fitsB m.typ 1 && fitsB (m.data.size : Int) 1))) := by
  unfold okO
  rw [decide_eq_true h, Bool.true_and, Bool.eq_iff_iff]
  simp only [Bool.and_eq_true, decide_eq_true_eq, fits1]
  constructor <;> (rintro ⟨h1, h2⟩; exact ⟨h1, by omega⟩)
theorem mbare_any (m : M) (w : World) (hm : m.In w) : Calls Tryz.prog 75 #[.agg m.cells] w fun e w' => e = .returned (.bool (bare m)) ∧ Below w.heap.size w w' := Bare.bare_any m w hm
set_option maxHeartbeats 6400000 in
set_option maxRecDepth 100000 in
theorem right_any (m : M) (w : World) (hm : m.In w) (lb : ∀ x ∈ m.sl, x.1.size ≤ 1099511627776) (hp : m.pfx.size ≤ maxLen) (ht : Tab w) : Calls Tryz.prog 49 #[.agg m.cells] w fun e w' => e = .returned (.bool (okL m)) ∧ Below w.heap.size w w' := by
  have HF := Lib.hid (Fs.new w m hm)
  have HM := Lib.hid (ht.below (balloc (Below.refl _ w) (.cells m.cells 38)))
  have P1 := Lib.hid (fun V (h : m.In V) (y : Tab V) => G2.right_any m V h lb y)
  have P2 := Lib.hid (fun V (h : m.In V) (y : Tab V) => K2.right_any m V h lb hp y)
  have P3 := Lib.hid (fun V (h : m.In V) (y : Tab V) => Jr.right_any m V h lb hp y)
  have P4 := Lib.hid (fun V (h : m.In V) => mbare_any m V h)
  clear lb hm ht hp
  by_cases k : m.kind = 7
  · have HK := Lib.hid (okL_f (.inl k))
    generalize okF m = y at *
    generalize okL m = z at *
    go_enter Tryz.func49, Tryz.ntmps49
    go_upto_region 1 with fail
    generalize w.alloc (.cells m.cells 38) = V at *
    have c0 := HF.out.m.cs.c0
    rw [k] at c0
    clear k
    go_wp2_with (first | (refine wpList_loadM (b := w.heap.size) (m := m) rfl _ rfl rfl HF.out.m ?_))
    refine (P1.out _ HF.out.i HM.out).mono ?_
    rintro r w' ⟨rfl, hb⟩
    have HF := Lib.hid (HF.out.call hb)
    clear hb c0
    go_wp2
    go_ret
    exact ⟨bool_eq HK.out.symm, HF.out.bel⟩
  have n7 : (m.kind == 7) = false := by simpa using k
  have m7 := k
  clear k
  by_cases k : m.kind = 8
  · have HK := Lib.hid (okL_f (.inr (.inl k)))
    generalize okF m = y at *
    generalize okL m = z at *
    go_enter Tryz.func49, Tryz.ntmps49
    go_upto_region 1 with fail
    generalize w.alloc (.cells m.cells 38) = V at *
    have c0 := HF.out.m.cs.c0
    rw [k] at c0
    clear k
    go_wp2_with (first | (refine wpList_loadM (b := w.heap.size) (m := m) rfl _ rfl rfl HF.out.m ?_))
    refine (P1.out _ HF.out.i HM.out).mono ?_
    rintro r w' ⟨rfl, hb⟩
    have HF := Lib.hid (HF.out.call hb)
    clear hb c0
    go_wp2
    go_ret
    exact ⟨bool_eq HK.out.symm, HF.out.bel⟩
  have n8 : (m.kind == 8) = false := by simpa using k
  have m8 := k
  clear k
  by_cases k : m.kind = 9
  · have HK := Lib.hid (okL_f (.inr (.inr (.inl k))))
    generalize okF m = y at *
    generalize okL m = z at *
    go_enter Tryz.func49, Tryz.ntmps49
    go_upto_region 1 with fail
    generalize w.alloc (.cells m.cells 38) = V at *
    have c0 := HF.out.m.cs.c0
    rw [k] at c0
    clear k
    go_wp2_with (first | (refine wpList_loadM (b := w.heap.size) (m := m) rfl _ rfl rfl HF.out.m ?_))
    refine (P1.out _ HF.out.i HM.out).mono ?_
    rintro r w' ⟨rfl, hb⟩
    have HF := Lib.hid (HF.out.call hb)
    clear hb c0
    go_wp2
    go_ret
    exact ⟨bool_eq HK.out.symm, HF.out.bel⟩
  have n9 : (m.kind == 9) = false := by simpa using k
  have m9 := k
  clear k
  by_cases k : m.kind = 10
  · have HK := Lib.hid (okL_f (.inr (.inr (.inr k))))
    generalize okF m = y at *
    generalize okL m = z at *
    go_enter Tryz.func49, Tryz.ntmps49
    go_upto_region 1 with fail
    generalize w.alloc (.cells m.cells 38) = V at *
    have c0 := HF.out.m.cs.c0
    rw [k] at c0
    clear k
    go_wp2_with (first | (refine wpList_loadM (b := w.heap.size) (m := m) rfl _ rfl rfl HF.out.m ?_))
    refine (P1.out _ HF.out.i HM.out).mono ?_
    rintro r w' ⟨rfl, hb⟩
    have HF := Lib.hid (HF.out.call hb)
    clear hb c0
    go_wp2
    go_ret
    exact ⟨bool_eq HK.out.symm, HF.out.bel⟩
  have n10 : (m.kind == 10) = false := by simpa using k
  have m10 := k
  clear k
  by_cases k : m.kind = 11
  · have HK := Lib.hid (okL_u k)
    generalize okU m = y at *
    generalize okL m = z at *
    go_enter Tryz.func49, Tryz.ntmps49
    go_upto_region 1 with fail
    generalize w.alloc (.cells m.cells 38) = V at *
    have c0 := HF.out.m.cs.c0
    rw [k] at c0
    clear k
    go_wp2_with (first | (refine wpList_loadM (b := w.heap.size) (m := m) rfl _ rfl rfl HF.out.m ?_))
    refine (P2.out _ HF.out.i HM.out).mono ?_
    rintro r w' ⟨rfl, hb⟩
    have HF := Lib.hid (HF.out.call hb)
    clear hb c0
    go_wp2
    go_ret
    exact ⟨bool_eq HK.out.symm, HF.out.bel⟩
  have n11 : (m.kind == 11) = false := by simpa using k
  have m11 := k
  clear k
  by_cases k : m.kind = 12
  · have HK := Lib.hid (okL_j (.inl k))
    generalize okJ m = y at *
    generalize okL m = z at *
    go_enter Tryz.func49, Tryz.ntmps49
    go_upto_region 1 with fail
    generalize w.alloc (.cells m.cells 38) = V at *
    have c0 := HF.out.m.cs.c0
    rw [k] at c0
    clear k
    go_wp2_with (first | (refine wpList_loadM (b := w.heap.size) (m := m) rfl _ rfl rfl HF.out.m ?_))
    refine (P3.out _ HF.out.i HM.out).mono ?_
    rintro r w' ⟨rfl, hb⟩
    have HF := Lib.hid (HF.out.call hb)
    clear hb c0
    go_wp2
    go_ret
    exact ⟨bool_eq HK.out.symm, HF.out.bel⟩
  have n12 : (m.kind == 12) = false := by simpa using k
  have m12 := k
  clear k
  by_cases k : m.kind = 13
  · have HK := Lib.hid (okL_j (.inr k))
    generalize okJ m = y at *
    generalize okL m = z at *
    go_enter Tryz.func49, Tryz.ntmps49
    go_upto_region 1 with fail
    generalize w.alloc (.cells m.cells 38) = V at *
    have c0 := HF.out.m.cs.c0
    rw [k] at c0
    clear k
    go_wp2_with (first | (refine wpList_loadM (b := w.heap.size) (m := m) rfl _ rfl rfl HF.out.m ?_))
    refine (P3.out _ HF.out.i HM.out).mono ?_
    rintro r w' ⟨rfl, hb⟩
    have HF := Lib.hid (HF.out.call hb)
    clear hb c0
    go_wp2
    go_ret
    exact ⟨bool_eq HK.out.symm, HF.out.bel⟩
  have n13 : (m.kind == 13) = false := by simpa using k
  have m13 := k
  clear k
  by_cases k : m.kind = 14
  rotate_left
  · have n14 : (m.kind == 14) = false := by simpa using k
    have HK := Lib.hid (show okL m = false from okL_no (by omega))
    generalize okL m = z at *
    clear k m7 m8 m9 m10 m11 m12 m13
    go_enter Tryz.func49, Tryz.ntmps49
    go_upto_region 1 with fail
    generalize w.alloc (.cells m.cells 38) = V at *
    have c0 := HF.out.m.cs.c0
    go_wp2
    go_ret
    exact ⟨bool_eq HK.out.symm, HF.out.bel⟩
  have HK := Lib.hid ((okL_o k).trans (okO_is k))
  have Q1 := Lib.hid (fun V => Oct.fits_any m.typ 1 V)
  have Q2 := Lib.hid (fun V => Oct.fits_any (m.data.size : Int) 1 V)
  generalize bare m = x1 at *
  generalize fitsB m.typ 1 = x3 at *
  generalize fitsB (m.data.size : Int) 1 = x4 at *
  generalize okL m = z at *
  clear n7 n8 n9 n10 n11 n12 n13 m7 m8 m9 m10 m11 m12 m13
  cases x1
  · go_enter Tryz.func49, Tryz.ntmps49
    go_upto_region 1 with fail
    generalize w.alloc (.cells m.cells 38) = V at *
    have c0 := HF.out.m.cs.c0
    rw [k] at c0
    clear k
    go_wp2_with (first | (refine wpList_loadM (b := w.heap.size) (m := m) rfl _ rfl rfl HF.out.m ?_))
    refine (P4.out _ HF.out.i).mono ?_
    rintro r w' ⟨rfl, hb⟩
    have HF := Lib.hid (HF.out.call hb)
    clear hb c0
    have c22 := HF.out.m.cs.c22
    have c23 := HF.out.m.cs.c23
    go_wp2
    go_ret
    exact ⟨bool_eq HK.out.symm, HF.out.bel⟩
  by_cases h11 : 11 ≤ m.typ
  rotate_left
  · rw [decide_eq_false h11] at HK
    go_enter Tryz.func49, Tryz.ntmps49
    go_upto_region 1 with fail
    generalize w.alloc (.cells m.cells 38) = V at *
    have c0 := HF.out.m.cs.c0
    rw [k] at c0
    clear k
    go_wp2_with (first | (refine wpList_loadM (b := w.heap.size) (m := m) rfl _ rfl rfl HF.out.m ?_))
    refine (P4.out _ HF.out.i).mono ?_
    rintro r w' ⟨rfl, hb⟩
    have HF := Lib.hid (HF.out.call hb)
    clear hb c0
    have c22 := HF.out.m.cs.c22
    have c23 := HF.out.m.cs.c23
    go_wp2
    go_ret
    exact ⟨bool_eq HK.out.symm, HF.out.bel⟩
  rw [decide_eq_true h11] at HK
  cases x3
  · go_enter Tryz.func49, Tryz.ntmps49
    go_upto_region 1 with fail
    generalize w.alloc (.cells m.cells 38) = V at *
    have c0 := HF.out.m.cs.c0
    rw [k] at c0
    clear k
    go_wp2_with (first | (refine wpList_loadM (b := w.heap.size) (m := m) rfl _ rfl rfl HF.out.m ?_))
    refine (P4.out _ HF.out.i).mono ?_
    rintro r w' ⟨rfl, hb⟩
    have HF := Lib.hid (HF.out.call hb)
    clear hb c0
    have c22 := HF.out.m.cs.c22
    have c23 := HF.out.m.cs.c23
    go_wp2_with fail
    refine (Q1.out _).mono ?_
    rintro r w' ⟨rfl, rfl⟩
    go_wp2
    go_ret
    exact ⟨bool_eq HK.out.symm, HF.out.bel⟩
  go_enter Tryz.func49, Tryz.ntmps49
  go_upto_region 1 with fail
  generalize w.alloc (.cells m.cells 38) = V at *
  have c0 := HF.out.m.cs.c0
  rw [k] at c0
  clear k
  go_wp2_with (first | (refine wpList_loadM (b := w.heap.size) (m := m) rfl _ rfl rfl HF.out.m ?_))
  refine (P4.out _ HF.out.i).mono ?_
  rintro r w' ⟨rfl, hb⟩
  have HF := Lib.hid (HF.out.call hb)
  clear hb c0
  have c22 := HF.out.m.cs.c22
  have c23 := HF.out.m.cs.c23
  go_wp2_with fail
  refine (Q1.out _).mono ?_
  rintro r w' ⟨rfl, rfl⟩
  go_wp2_with fail
  refine (Q2.out _).mono ?_
  rintro r w' ⟨rfl, rfl⟩
  go_wp2
  go_ret
  exact ⟨bool_eq HK.out.symm, HF.out.bel⟩
set_option maxHeartbeats 6400000 in
set_option maxRecDepth 100000 in
theorem alone_any (m : M) (w : World) (hm : m.In w) (ln : m.sl.length ≤ 2000) (lb : ∀ x ∈ m.sl, x.1.size ≤ 1099511627776) (hp : m.pfx.size ≤ maxLen) (ht : Tab w) (ho : okL m = true) (h11 : ¬ m.kind = 11) : Calls Tryz.prog 77 #[.agg m.cells] w fun e w' => e = .returned (.string ⟨(enc1 (othE m)).toArray⟩) ∧ Below w.heap.size w w' := by
  have HF := Lib.hid (Fs.new w m hm)
  have HM := Lib.hid (ht.below (balloc (Below.refl _ w) (.cells m.cells 38)))
  rcases ok_not ho h11 with hF | ⟨nF, hJ⟩ | ⟨nF, nJ, hO⟩
  · have hk := kind_F hF
    have HK := Lib.hid (show (⟨(enc1 (othE m)).toArray⟩ : ByteArray) = putF m by unfold othE; rw [if_pos hF]; exact text_eq (G1.putF_ok hF).1.symm)
    have P1 := Lib.hid (fun V (h : m.In V) (y : Tab V) => G3.put_any m V h ln lb y)
    have n12 : (m.kind == 12) = false := by simp; omega
    have n13 : (m.kind == 13) = false := by simp; omega
    have n14 : (m.kind == 14) = false := by simp; omega
    clear hF hk ho h11 ln lb hp ht hm
    generalize (⟨(enc1 (othE m)).toArray⟩ : ByteArray) = z at *
    generalize putF m = u at *
    generalize okF m = y at *
    go_enter Tryz.func77, Tryz.ntmps77
    go_upto_region 2 with fail
    generalize w.alloc (.cells m.cells 38) = V at *
    have c0 := HF.out.m.cs.c0
    go_wp2_with (first | (refine wpList_loadM (b := w.heap.size) (m := m) rfl _ rfl rfl HF.out.m ?_))
    refine (P1.out _ HF.out.i HM.out).mono ?_
    rintro r w' ⟨rfl, hb⟩
    have HF := Lib.hid (HF.out.call hb)
    clear hb c0
    go_wp2
    go_ret
    exact ⟨str_eq HK.out.symm, HF.out.bel⟩
  · have HK := Lib.hid (show (⟨(enc1 (othE m)).toArray⟩ : ByteArray) = putJ m by unfold othE; rw [if_neg (by rw [nF]; decide), if_pos hJ]; exact text_eq (J1.putJ_ok hJ).1.symm)
    have P1 := Lib.hid (fun V (h : m.In V) (y : Tab V) => J3.put_any m V h ln lb hp y)
    have hk := kind_J hJ
    clear hJ nF ho h11 ln lb hp ht hm
    generalize (⟨(enc1 (othE m)).toArray⟩ : ByteArray) = z at *
    generalize putJ m = u at *
    generalize okJ m = y at *
    rcases hk with k | k
    · go_enter Tryz.func77, Tryz.ntmps77
      go_upto_region 2 with fail
      generalize w.alloc (.cells m.cells 38) = V at *
      have c0 := HF.out.m.cs.c0
      rw [k] at c0
      clear k
      go_wp2_with (first | (refine wpList_loadM (b := w.heap.size) (m := m) rfl _ rfl rfl HF.out.m ?_))
      refine (P1.out _ HF.out.i HM.out).mono ?_
      rintro r w' ⟨rfl, hb⟩
      have HF := Lib.hid (HF.out.call hb)
      clear hb c0
      go_wp2
      go_ret
      exact ⟨str_eq HK.out.symm, HF.out.bel⟩
    · go_enter Tryz.func77, Tryz.ntmps77
      go_upto_region 2 with fail
      generalize w.alloc (.cells m.cells 38) = V at *
      have c0 := HF.out.m.cs.c0
      rw [k] at c0
      clear k
      go_wp2_with (first | (refine wpList_loadM (b := w.heap.size) (m := m) rfl _ rfl rfl HF.out.m ?_))
      refine (P1.out _ HF.out.i HM.out).mono ?_
      rintro r w' ⟨rfl, hb⟩
      have HF := Lib.hid (HF.out.call hb)
      clear hb c0
      go_wp2
      go_ret
      exact ⟨str_eq HK.out.symm, HF.out.bel⟩
  · obtain ⟨k, _, o3, o4, o5⟩ := o_parts hO
    have ho1 : ok1 (m.data, m.typ) := ⟨by show 0 ≤ m.typ; omega, o4, o5, fun h0 => absurd h0 (by show ¬ m.typ = 0; omega)⟩
    have hpu := (put_ok ho1 (by show ¬ m.typ = 0; omega)).2
    have HK := Lib.hid (show (⟨(enc1 (othE m)).toArray⟩ : ByteArray) = putO m.typ m.data by unfold othE; rw [if_neg (by rw [nF]; decide), if_neg (by rw [nJ]; decide)]; exact hpu.symm)
    have P1 := Lib.hid (fun V => F6.put_any m.typ m.data V (by omega))
    unfold PutIs at P1
    clear hO nF nJ ho h11 ln lb hp ht hm ho1 hpu o3 o4 o5
    generalize (⟨(enc1 (othE m)).toArray⟩ : ByteArray) = z at *
    generalize putO m.typ m.data = u at *
    generalize F1.putB m.typ m.data = y at *
    go_enter Tryz.func77, Tryz.ntmps77
    go_upto_region 2 with fail
    generalize w.alloc (.cells m.cells 38) = V at *
    have c0 := HF.out.m.cs.c0
    have c22 := HF.out.m.cs.c22
    have c23 := HF.out.m.cs.c23
    rw [k] at c0
    clear k
    go_wp2_with fail
    refine (P1.out _).mono ?_
    rintro r w' ⟨rfl, hb⟩
    have HF := Lib.hid (HF.out.call hb)
    clear hb c0 c22 c23
    go_wp2
    go_ret
    exact ⟨str_eq HK.out.symm, HF.out.bel⟩
end Go.Proofs.YtjhfpobjbijcpaaGreatDoor.L5
