/-
  The document's fields and Put: the bytes of a message. Conditions: the message's lists stand in the world, and aren't long.
-/
import Derived.Test.YtjhfpobjbijcpaaGreatDoorE24
import Derived.Test.YtjhfpobjbijcpaaGreatDoorE28
import Derived.Test.YtjhfpobjbijcpaaGreatDoorE37
namespace Go.Proofs.YtjhfpobjbijcpaaGreatDoor.G7
open Go.ChangeShapes Go.WideShapes Go.ChangeAt Go.RowKit
open Go.Proofs.YtjhfpobjbijcpaaGreatDoor.Ms
open Go.Proofs.YtjhfpobjbijcpaaGreatDoor.Box
open Go.Proofs.YtjhfpobjbijcpaaGreatDoor.S1
open Go.Proofs.YtjhfpobjbijcpaaGreatDoor.Lk
open Go.Proofs.YtjhfpobjbijcpaaGreatDoor.Nu
open Go.Proofs.YtjhfpobjbijcpaaGreatDoor.G1
open Go.Proofs.YtjhfpobjbijcpaaGreatDoor.G2
open Go.Proofs.YtjhfpobjbijcpaaGreatDoor.An
open Go.Proofs.YtjhfpobjbijcpaaGreatDoor.F6 (cat_is)
open Go.Proofs.YtjhfpobjbijcpaaGreatDoor.Hs
open Go.Proofs.YtjhfpobjbijcpaaGreatDoor.Or (st_yes)
set_option linter.unusedVariables false
set_option maxRecDepth 100000
set_option maxRecDepth 100000
theorem pairI {a c : Int} {s t : ByteArray} (h : a = c) (k : s = t) : Ending.returned (.tuple #[.int .i64 a, .string s]) = .returned (.tuple #[.int .i64 c, .string t]) := by rw [h, k]
theorem lay_size (v : Int) (n : Nat) : (⟨(layN v n).toArray⟩ : ByteArray).size ≤ n := by
  have := layN_len v n
  show (layN v n).toArray.size ≤ n
  simpa using this
theorem enc7 (m : M) : (⟨#[0, 0]⟩ : ByteArray) ++ ⟨(layN m.nonce 2).toArray⟩ ++ ⟨(layN m.interval 2).toArray⟩ = ⟨(fld7 m).toArray⟩ := text_eq (by simp [fld7, ByteArray.data_append])
theorem enc9 (m : M) : (⟨(layN (m.flags * 32768) 2).toArray⟩ : ByteArray) ++ ⟨(layN m.seq 2).toArray⟩ ++ ⟨(layN m.interval 2).toArray⟩ = ⟨(fld9 m).toArray⟩ := text_eq (by simp [fld9, ByteArray.data_append])
theorem enc10 (m : M) : (⟨(layN m.ae 1).toArray⟩ : ByteArray) ++ ⟨#[0]⟩ ++ ⟨(layN m.cost 2).toArray⟩ ++ ⟨(layN m.interval 2).toArray⟩ ++ shT m.ae m.addr = ⟨(fld10 m).toArray⟩ := text_eq (by simp [fld10, ByteArray.data_append])
set_option maxHeartbeats 6400000 in
theorem rfields_any (m : M) (w : World) (hm : m.In w) (hk : kindB m = true) : Calls Tryz.prog 83 #[.agg m.cells] w fun e w' => e = .returned (.tuple #[.int .i64 (typF m), .string ⟨(fldF m).toArray⟩]) ∧ Below w.heap.size w w' := by
  have HF := Lib.hid (Fs.new w m hm)
  have OI := Lib.hid (fun V => of_any m.interval 2 2 rfl (by omega) (by omega) V)
  have zi := lay_size m.interval 2
  rcases kind_cases hk with k1 | k1 | ⟨k1, f0, f1⟩ | ⟨k1, ha⟩
  · rw [(f_7 k1).1, (f_7 k1).2]
    have Otn := Lib.hid (fun V => of_any m.nonce 2 2 rfl (by omega) (by omega) V)
    have ztn := lay_size m.nonce 2
    have HE := Lib.hid (enc7 m)
    generalize (⟨(fld7 m).toArray⟩ : ByteArray) = R at *
    generalize (⟨(layN m.nonce 2).toArray⟩ : ByteArray) = tn at *
    generalize (⟨(layN m.interval 2).toArray⟩ : ByteArray) = ti at *
    have cat1 := cat_is (⟨#[0, 0]⟩ : ByteArray) tn _ (by decide) (by omega) rfl
    have y1 : ((⟨#[0, 0]⟩ : ByteArray) ++ tn).size ≤ 4 := by rw [ByteArray.size_append]; show 2 + tn.size ≤ 4; omega
    generalize (⟨#[0, 0]⟩ : ByteArray) ++ tn = u1 at *
    have cat2 := cat_is u1 ti _ (by omega) (by omega) rfl
    clear hm hk zi ztn y1
    go_enter Tryz.func83, Tryz.ntmps83
    go_upto_region 1 with fail
    generalize w.alloc (.cells m.cells 38) = V at *
    have c14 := HF.out.m.cs.c14
    go_wp2_with fail
    refine (OI.out _).mono ?_
    rintro e V1 ⟨rfl, hb⟩
    have HF := Lib.hid (HF.out.call hb)
    clear hb c14 OI
    have c0 := HF.out.m.cs.c0
    rw [k1] at c0
    have c17 := HF.out.m.cs.c17
    go_wp2_with fail
    refine (Otn.out _).mono ?_
    rintro e V2 ⟨rfl, hb⟩
    have HF := Lib.hid (HF.out.call hb)
    clear hb c17 c0
    go_wp2
    go_ret2
    exact ⟨pairI rfl HE.out, HF.out.bel⟩
  · rw [(f_8 k1).1, (f_8 k1).2]
    have Otn := Lib.hid (fun V => of_any m.nonce 2 2 rfl (by omega) (by omega) V)
    generalize (⟨(layN m.nonce 2).toArray⟩ : ByteArray) = tn at *
    generalize (⟨(layN m.interval 2).toArray⟩ : ByteArray) = ti at *
    clear hm hk zi
    go_enter Tryz.func83, Tryz.ntmps83
    go_upto_region 1 with fail
    generalize w.alloc (.cells m.cells 38) = V at *
    have c14 := HF.out.m.cs.c14
    go_wp2_with fail
    refine (OI.out _).mono ?_
    rintro e V1 ⟨rfl, hb⟩
    have HF := Lib.hid (HF.out.call hb)
    clear hb c14 OI
    have c0 := HF.out.m.cs.c0
    rw [k1] at c0
    have c17 := HF.out.m.cs.c17
    go_wp2_with fail
    refine (Otn.out _).mono ?_
    rintro e V2 ⟨rfl, hb⟩
    have HF := Lib.hid (HF.out.call hb)
    clear hb c17 c0
    go_wp2
    go_ret2
    exact ⟨pairI rfl rfl, HF.out.bel⟩
  · rw [(f_9 k1).1, (f_9 k1).2]
    have Otf := Lib.hid (fun V => of_any (m.flags * 32768) 2 2 rfl (by omega) (by omega) V)
    have Ots := Lib.hid (fun V => of_any m.seq 2 2 rfl (by omega) (by omega) V)
    have ztf := lay_size (m.flags * 32768) 2
    have zts := lay_size m.seq 2
    have HE := Lib.hid (enc9 m)
    have HW : Hid (IntKind.i64.wrap (32768 * m.flags) = m.flags * 32768) := Lib.hid (by rw [Int.mul_comm]; exact IntWalk.i64_in _ (by omega))
    generalize (⟨(fld9 m).toArray⟩ : ByteArray) = R at *
    generalize (⟨(layN (m.flags * 32768) 2).toArray⟩ : ByteArray) = tf at *
    generalize (⟨(layN m.seq 2).toArray⟩ : ByteArray) = ts at *
    generalize (⟨(layN m.interval 2).toArray⟩ : ByteArray) = ti at *
    have cat1 := cat_is tf ts _ (by omega) (by omega) rfl
    have y1 : (tf ++ ts).size ≤ 4 := by rw [ByteArray.size_append]; omega
    generalize tf ++ ts = u1 at *
    have cat2 := cat_is u1 ti _ (by omega) (by omega) rfl
    clear hm hk zi ztf zts y1 f0 f1
    go_enter Tryz.func83, Tryz.ntmps83
    go_upto_region 1 with fail
    generalize w.alloc (.cells m.cells 38) = V at *
    have c14 := HF.out.m.cs.c14
    go_wp2_with fail
    refine (OI.out _).mono ?_
    rintro e V1 ⟨rfl, hb⟩
    have HF := Lib.hid (HF.out.call hb)
    clear hb c14 OI
    have c0 := HF.out.m.cs.c0
    rw [k1] at c0
    go_upto_region 8 with fail
    refine wp_region_held_drew (S := fun W => Fs w W w.heap.size m) (by kernel_rfl) HF.out.drew (fun hS => ?_)
    clear HF c0
    generalize World.drew _ = X0 at *
    refine H.tk (i := 0) (v := ?v0) ?h0 hS ?_
    case h0 => (intro w hw; go_simp; first | done | (with_reducible rfl))
    try simp only [Act.put, List.setIfInBounds_toArray, List.set_cons_zero, List.set_cons_succ]
    refine H.tk (i := 1) (v := ?v1) ?h1 hS ?_
    case h1 => (intro w hw; have c := (hw.m).cs.c15; go_simp; first | done | (with_reducible rfl))
    try simp only [Act.put, List.setIfInBounds_toArray, List.set_cons_zero, List.set_cons_succ]
    refine H.tk (i := 2) (v := .int .i64 (m.flags * 32768)) ?h2 hS ?_
    case h2 => exact (fun w hw => by go_simp; rw [HW.out])
    try simp only [Act.put, List.setIfInBounds_toArray, List.set_cons_zero, List.set_cons_succ]
    refine H.tk (i := 4) (v := ?v4) ?h4 hS ?_
    case h4 => (intro w hw; go_simp; first | done | (with_reducible rfl))
    try simp only [Act.put, List.setIfInBounds_toArray, List.set_cons_zero, List.set_cons_succ]
    refine H.tk (i := 5) (v := ?v5) ?h5 hS ?_
    case h5 => (intro w hw; have c := (hw.m).cs.c12; go_simp; first | done | (with_reducible rfl))
    try simp only [Act.put, List.setIfInBounds_toArray, List.set_cons_zero, List.set_cons_succ]
    refine H.tk (i := 8) (v := ?v8) ?h8 hS ?_
    case h8 => (intro w hw; go_simp; first | done | (with_reducible rfl))
    try simp only [Act.put, List.setIfInBounds_toArray, List.set_cons_zero, List.set_cons_succ]
    refine wpAnyH_ready (rs := [3]) (by kernel_rfl) (by simp) ?_
    refine AllReadyH.cons rfl (fun K hK => ?_) AllReadyH.nil
    go_simp
    refine (heldF (Otf.out _) hS).mono ?_
    rintro e w3 ⟨rfl, hS3⟩
    refine hK.out _ _ hS3 (fun _ => ?_)
    clear hK K hS
    have hS := hS3
    clear hS3
    try simp only [Act.put, List.setIfInBounds_toArray, List.set_cons_zero, List.set_cons_succ]
    refine wpAnyH_ready (rs := [6]) (by kernel_rfl) (by simp) ?_
    refine AllReadyH.cons rfl (fun K hK => ?_) AllReadyH.nil
    go_simp
    refine (heldF (Ots.out _) hS).mono ?_
    rintro e w6 ⟨rfl, hS6⟩
    refine hK.out _ _ hS6 (fun _ => ?_)
    clear hK K hS
    have hS := hS6
    clear hS6
    try simp only [Act.put, List.setIfInBounds_toArray, List.set_cons_zero, List.set_cons_succ]
    refine H.tk (i := 7) (v := ?v7) ?h7 hS ?_
    case h7 => (intro w hw; go_simp; first | done | (with_reducible rfl))
    try simp only [Act.put, List.setIfInBounds_toArray, List.set_cons_zero, List.set_cons_succ]
    refine H.tk (i := 9) (v := ?v9) ?h9 hS ?_
    case h9 => (intro w hw; go_simp; first | done | (with_reducible rfl))
    try simp only [Act.put, List.setIfInBounds_toArray, List.set_cons_zero, List.set_cons_succ]
    refine H.tk (i := 10) (v := .int .i64 4) ?h10 hS ?_
    case h10 => exact (fun w hw => rfl)
    try simp only [Act.put, List.setIfInBounds_toArray, List.set_cons_zero, List.set_cons_succ]
    refine H.tk (i := 11) (v := ?v11) ?h11 hS ?_
    case h11 => (intro w hw; go_simp; first | done | (with_reducible rfl))
    try simp only [Act.put, List.setIfInBounds_toArray, List.set_cons_zero, List.set_cons_succ]
    refine wpAnyH_done (by kernel_rfl) ?_ _
    go_wp2
    go_ret2
    exact ⟨pairI rfl HE.out, hS.bel⟩
  · rw [(f_10 k1).1, (f_10 k1).2]
    have Ota := Lib.hid (fun V => of_any m.ae 1 1 rfl (by omega) (by omega) V)
    have Otc := Lib.hid (fun V => of_any m.cost 2 2 rfl (by omega) (by omega) V)
    have zta := lay_size m.ae 1
    have ztc := lay_size m.cost 2
    have HE := Lib.hid (enc10 m)
    have HA := Lib.hid (show shT m.ae m.addr = if m.ae = 3 then shA m.addr else m.addr by unfold shT; rw [ha]; rfl)
    have zs : (shT m.ae m.addr).size ≤ 16 := by have := (sh_facts ha).2.2.1; have := sizeA_le m.ae; omega
    have PS := Lib.hid (fun V => rshort_any m.addr V)
    generalize (⟨(fld10 m).toArray⟩ : ByteArray) = R at *
    generalize shT m.ae m.addr = sa at *
    generalize (⟨(layN m.ae 1).toArray⟩ : ByteArray) = ta at *
    generalize (⟨(layN m.cost 2).toArray⟩ : ByteArray) = tc at *
    generalize (⟨(layN m.interval 2).toArray⟩ : ByteArray) = ti at *
    have cat1 := cat_is ta (⟨#[0]⟩ : ByteArray) _ (by omega) (by decide) rfl
    have y1 : (ta ++ (⟨#[0]⟩ : ByteArray)).size ≤ 2 := by rw [ByteArray.size_append]; show ta.size + 1 ≤ 2; omega
    generalize ta ++ (⟨#[0]⟩ : ByteArray) = u1 at *
    have cat2 := cat_is u1 tc _ (by omega) (by omega) rfl
    have y2 : (u1 ++ tc).size ≤ 4 := by rw [ByteArray.size_append]; omega
    generalize u1 ++ tc = u2 at *
    have cat3 := cat_is u2 ti _ (by omega) (by omega) rfl
    have y3 : (u2 ++ ti).size ≤ 6 := by rw [ByteArray.size_append]; omega
    generalize u2 ++ ti = u3 at *
    have cat4 := cat_is u3 sa _ (by omega) (by omega) rfl
    clear hm hk zi zta ztc y1 y2 y3 zs ha
    by_cases h3 : m.ae = 3
    · rw [if_pos h3] at HA
      rw [← HA.out] at PS
      clear HA
      go_enter Tryz.func83, Tryz.ntmps83
      go_upto_region 1 with fail
      generalize w.alloc (.cells m.cells 38) = V at *
      have c14 := HF.out.m.cs.c14
      go_wp2_with fail
      refine (OI.out _).mono ?_
      rintro e V1 ⟨rfl, hb⟩
      have HF := Lib.hid (HF.out.call hb)
      clear hb c14 OI
      have c0 := HF.out.m.cs.c0
      rw [k1] at c0
      have c5 := HF.out.m.cs.c5
      have c19 := HF.out.m.cs.c19
      rw [h3] at c5
      go_wp2_with fail
      refine (PS.out _).mono ?_
      rintro e V9 ⟨rfl, hb⟩
      have HF := Lib.hid (HF.out.call hb)
      clear hb c0 c5 c19 h3
      go_upto_region 12 with fail
      refine wp_region_held_drew (S := fun W => Fs w W w.heap.size m) (by kernel_rfl) HF.out.drew (fun hS => ?_)
      clear HF
      generalize World.drew _ = X0 at *
      refine H.tk (i := 0) (v := ?v0a) ?h0a hS ?_
      case h0a => (intro w hw; go_simp; first | done | (with_reducible rfl))
      try simp only [Act.put, List.setIfInBounds_toArray, List.set_cons_zero, List.set_cons_succ]
      refine H.tk (i := 1) (v := ?v1a) ?h1a hS ?_
      case h1a => (intro w hw; have c := (hw.m).cs.c5; go_simp; first | done | (with_reducible rfl))
      try simp only [Act.put, List.setIfInBounds_toArray, List.set_cons_zero, List.set_cons_succ]
      refine H.tk (i := 4) (v := ?v4a) ?h4a hS ?_
      case h4a => (intro w hw; go_simp; first | done | (with_reducible rfl))
      try simp only [Act.put, List.setIfInBounds_toArray, List.set_cons_zero, List.set_cons_succ]
      refine H.tk (i := 5) (v := ?v5a) ?h5a hS ?_
      case h5a => (intro w hw; have c := (hw.m).cs.c18; go_simp; first | done | (with_reducible rfl))
      try simp only [Act.put, List.setIfInBounds_toArray, List.set_cons_zero, List.set_cons_succ]
      refine H.tk (i := 8) (v := ?v8a) ?h8a hS ?_
      case h8a => (intro w hw; go_simp; first | done | (with_reducible rfl))
      try simp only [Act.put, List.setIfInBounds_toArray, List.set_cons_zero, List.set_cons_succ]
      refine H.tk (i := 10) (v := ?v10a) ?h10a hS ?_
      case h10a => (intro w hw; go_simp; first | done | (with_reducible rfl))
      try simp only [Act.put, List.setIfInBounds_toArray, List.set_cons_zero, List.set_cons_succ]
      refine wpAnyH_ready (rs := [2]) (by kernel_rfl) (by simp) ?_
      refine AllReadyH.cons rfl (fun K hK => ?_) AllReadyH.nil
      go_simp
      refine (heldF (Ota.out _) hS).mono ?_
      rintro e w2 ⟨rfl, hS2⟩
      refine hK.out _ _ hS2 (fun _ => ?_)
      clear hK K hS
      have hS := hS2
      clear hS2
      try simp only [Act.put, List.setIfInBounds_toArray, List.set_cons_zero, List.set_cons_succ]
      refine H.tk (i := 3) (v := ?v3a) ?h3a hS ?_
      case h3a => (intro w hw; go_simp; first | done | (with_reducible rfl))
      try simp only [Act.put, List.setIfInBounds_toArray, List.set_cons_zero, List.set_cons_succ]
      refine wpAnyH_ready (rs := [6]) (by kernel_rfl) (by simp) ?_
      refine AllReadyH.cons rfl (fun K hK => ?_) AllReadyH.nil
      go_simp
      refine (heldF (Otc.out _) hS).mono ?_
      rintro e w6 ⟨rfl, hS6⟩
      refine hK.out _ _ hS6 (fun _ => ?_)
      clear hK K hS
      have hS := hS6
      clear hS6
      try simp only [Act.put, List.setIfInBounds_toArray, List.set_cons_zero, List.set_cons_succ]
      refine H.tk (i := 7) (v := ?v7a) ?h7a hS ?_
      case h7a => (intro w hw; go_simp; first | done | (with_reducible rfl))
      try simp only [Act.put, List.setIfInBounds_toArray, List.set_cons_zero, List.set_cons_succ]
      refine H.tk (i := 9) (v := ?v9a) ?h9a hS ?_
      case h9a => (intro w hw; go_simp; first | done | (with_reducible rfl))
      try simp only [Act.put, List.setIfInBounds_toArray, List.set_cons_zero, List.set_cons_succ]
      refine H.tk (i := 11) (v := ?v11a) ?h11a hS ?_
      case h11a => (intro w hw; go_simp; first | done | (with_reducible rfl))
      try simp only [Act.put, List.setIfInBounds_toArray, List.set_cons_zero, List.set_cons_succ]
      refine H.tk (i := 12) (v := .int .i64 5) ?h12a hS ?_
      case h12a => exact (fun w hw => rfl)
      try simp only [Act.put, List.setIfInBounds_toArray, List.set_cons_zero, List.set_cons_succ]
      refine H.tk (i := 13) (v := ?v13a) ?h13a hS ?_
      case h13a => (intro w hw; go_simp; first | done | (with_reducible rfl))
      try simp only [Act.put, List.setIfInBounds_toArray, List.set_cons_zero, List.set_cons_succ]
      refine wpAnyH_done (by kernel_rfl) ?_ _
      go_wp2
      go_ret2
      exact ⟨pairI rfl HE.out, hS.bel⟩
    rw [if_neg h3] at HA
    obtain rfl := HA.out
    have e3 : (m.ae == 3) = false := by simpa using h3
    go_enter Tryz.func83, Tryz.ntmps83
    go_upto_region 1 with fail
    generalize w.alloc (.cells m.cells 38) = V at *
    have c14 := HF.out.m.cs.c14
    go_wp2_with fail
    refine (OI.out _).mono ?_
    rintro e V1 ⟨rfl, hb⟩
    have HF := Lib.hid (HF.out.call hb)
    clear hb c14 OI
    have c0 := HF.out.m.cs.c0
    rw [k1] at c0
    have c5 := HF.out.m.cs.c5
    have c19 := HF.out.m.cs.c19
    go_upto_region 12 with fail
    refine wp_region_held_drew (S := fun W => Fs w W w.heap.size m) (by kernel_rfl) HF.out.drew (fun hS => ?_)
    clear HF c0 c5 c19
    generalize World.drew _ = X0 at *
    refine H.tk (i := 0) (v := ?v0b) ?h0b hS ?_
    case h0b => (intro w hw; go_simp; first | done | (with_reducible rfl))
    try simp only [Act.put, List.setIfInBounds_toArray, List.set_cons_zero, List.set_cons_succ]
    refine H.tk (i := 1) (v := ?v1b) ?h1b hS ?_
    case h1b => (intro w hw; have c := (hw.m).cs.c5; go_simp; first | done | (with_reducible rfl))
    try simp only [Act.put, List.setIfInBounds_toArray, List.set_cons_zero, List.set_cons_succ]
    refine H.tk (i := 4) (v := ?v4b) ?h4b hS ?_
    case h4b => (intro w hw; go_simp; first | done | (with_reducible rfl))
    try simp only [Act.put, List.setIfInBounds_toArray, List.set_cons_zero, List.set_cons_succ]
    refine H.tk (i := 5) (v := ?v5b) ?h5b hS ?_
    case h5b => (intro w hw; have c := (hw.m).cs.c18; go_simp; first | done | (with_reducible rfl))
    try simp only [Act.put, List.setIfInBounds_toArray, List.set_cons_zero, List.set_cons_succ]
    refine H.tk (i := 8) (v := ?v8b) ?h8b hS ?_
    case h8b => (intro w hw; go_simp; first | done | (with_reducible rfl))
    try simp only [Act.put, List.setIfInBounds_toArray, List.set_cons_zero, List.set_cons_succ]
    refine H.tk (i := 10) (v := ?v10b) ?h10b hS ?_
    case h10b => (intro w hw; go_simp; first | done | (with_reducible rfl))
    try simp only [Act.put, List.setIfInBounds_toArray, List.set_cons_zero, List.set_cons_succ]
    refine wpAnyH_ready (rs := [2]) (by kernel_rfl) (by simp) ?_
    refine AllReadyH.cons rfl (fun K hK => ?_) AllReadyH.nil
    go_simp
    refine (heldF (Ota.out _) hS).mono ?_
    rintro e w2 ⟨rfl, hS2⟩
    refine hK.out _ _ hS2 (fun _ => ?_)
    clear hK K hS
    have hS := hS2
    clear hS2
    try simp only [Act.put, List.setIfInBounds_toArray, List.set_cons_zero, List.set_cons_succ]
    refine H.tk (i := 3) (v := ?v3b) ?h3b hS ?_
    case h3b => (intro w hw; go_simp; first | done | (with_reducible rfl))
    try simp only [Act.put, List.setIfInBounds_toArray, List.set_cons_zero, List.set_cons_succ]
    refine wpAnyH_ready (rs := [6]) (by kernel_rfl) (by simp) ?_
    refine AllReadyH.cons rfl (fun K hK => ?_) AllReadyH.nil
    go_simp
    refine (heldF (Otc.out _) hS).mono ?_
    rintro e w6 ⟨rfl, hS6⟩
    refine hK.out _ _ hS6 (fun _ => ?_)
    clear hK K hS
    have hS := hS6
    clear hS6
    try simp only [Act.put, List.setIfInBounds_toArray, List.set_cons_zero, List.set_cons_succ]
    refine H.tk (i := 7) (v := ?v7b) ?h7b hS ?_
    case h7b => (intro w hw; go_simp; first | done | (with_reducible rfl))
    try simp only [Act.put, List.setIfInBounds_toArray, List.set_cons_zero, List.set_cons_succ]
    refine H.tk (i := 9) (v := ?v9b) ?h9b hS ?_
    case h9b => (intro w hw; go_simp; first | done | (with_reducible rfl))
    try simp only [Act.put, List.setIfInBounds_toArray, List.set_cons_zero, List.set_cons_succ]
    refine H.tk (i := 11) (v := ?v11b) ?h11b hS ?_
    case h11b => (intro w hw; go_simp; first | done | (with_reducible rfl))
    try simp only [Act.put, List.setIfInBounds_toArray, List.set_cons_zero, List.set_cons_succ]
    refine H.tk (i := 12) (v := .int .i64 5) ?h12b hS ?_
    case h12b => exact (fun w hw => rfl)
    try simp only [Act.put, List.setIfInBounds_toArray, List.set_cons_zero, List.set_cons_succ]
    refine H.tk (i := 13) (v := ?v13b) ?h13b hS ?_
    case h13b => (intro w hw; go_simp; first | done | (with_reducible rfl))
    try simp only [Act.put, List.setIfInBounds_toArray, List.set_cons_zero, List.set_cons_succ]
    refine wpAnyH_done (by kernel_rfl) ?_ _
    go_wp2
    go_ret2
    exact ⟨pairI rfl HE.out, hS.bel⟩
theorem dat_cat (m : M) : (⟨(fldF m).toArray⟩ : ByteArray) ++ putS m.sl = datF m := text_eq (by unfold datF; simp [ByteArray.data_append])
set_option maxHeartbeats 6400000 in
theorem rput_any (m : M) (w : World) (hm : m.In w) (ln : m.sl.length ≤ 2000) (lb : ∀ x ∈ m.sl, x.1.size ≤ 1099511627776) : Calls Tryz.prog 62 #[.agg m.cells] w fun e w' => e = .returned (.tuple #[.string (putF m), .bool (okF m)]) ∧ Below w.heap.size w w' := by
  have HF := Lib.hid (Fs.new w m hm)
  have P1 := Lib.hid (fun V (h : m.In V) => rright_any m V h lb)
  have P2 := Lib.hid (fun V (h : m.In V) => S4.rput_any m.sa m.sc m.sl V h.s ln lb)
  clear lb hm ln
  cases hok : okF m
  · have HK := Lib.hid (putF_no hok)
    rw [hok] at P1
    clear hok
    go_enter Tryz.func62, Tryz.ntmps62
    go_upto_region 1 with fail
    generalize w.alloc (.cells m.cells 38) = V at *
    go_wp2_with (first | (refine wpList_loadM (b := w.heap.size) (m := m) rfl _ rfl rfl HF.out.m ?_))
    refine (P1.out _ HF.out.i).mono ?_
    rintro r w1 ⟨rfl, hb⟩
    have HF := Lib.hid (HF.out.call hb)
    clear hb
    go_wp2
    go_ret2
    exact ⟨pair_eq HK.out.symm rfl, HF.out.bel⟩
  have HK := Lib.hid (putF_yes hok)
  have PF := Lib.hid (fun V (h : m.In V) => rfields_any m V h ((ok_iff m).1 hok).kind)
  have HS := Lib.hid ((ok_iff m).1 hok).subs
  have HY := Lib.hid (putB_yes hok)
  have HZ := Lib.hid (show (datF m).size ≤ 1048576 by have := dat_le hok; omega)
  have HC := Lib.hid (dat_cat m)
  have HC1 := Lib.hid (show (⟨(fldF m).toArray⟩ : ByteArray).size ≤ 2000000 by have := (fld_len hok).1; show (fldF m).toArray.size ≤ _; simp; omega)
  have HC2 := Lib.hid (show (putS m.sl).size ≤ 2000000 by have := putS_le m.sl; omega)
  rw [hok] at P1
  rw [HS.out] at P2
  clear hok
  have ct := fun W => F6.cat_is _ _ _ HC1.out HC2.out HC.out W
  have PP := Lib.hid (fun V => F6.rput_any (typF m) (datF m) V HZ.out)
  generalize (⟨(fldF m).toArray⟩ : ByteArray) = fa at *
  generalize putS m.sl = sb at *
  generalize datF m = da at *
  generalize typF m = ty at *
  go_enter Tryz.func62, Tryz.ntmps62
  go_upto_region 1 with fail
  generalize w.alloc (.cells m.cells 38) = V at *
  go_wp2_with (first | (refine wpList_loadM (b := w.heap.size) (m := m) rfl _ rfl rfl HF.out.m ?_))
  refine (P1.out _ HF.out.i).mono ?_
  rintro r w1 ⟨rfl, hb⟩
  have HF := Lib.hid (HF.out.call hb)
  clear hb P1
  go_wp2_with (first | (refine wpList_loadM (b := w.heap.size) (m := m) rfl _ rfl rfl HF.out.m ?_))
  refine (PF.out _ HF.out.i).mono ?_
  rintro r w2 ⟨rfl, hb⟩
  have HF := Lib.hid (HF.out.call hb)
  clear hb PF
  have c24 := HF.out.m.cs.c24
  go_wp2_with fail
  refine (P2.out _ HF.out.i).mono ?_
  rintro r w3 ⟨rfl, hb⟩
  have HF := Lib.hid (HF.out.call hb)
  clear hb c24 P2
  go_wp2_with fail
  refine (PP.out _).mono ?_
  rintro r w4 ⟨rfl, hb⟩
  have HF := Lib.hid (HF.out.call hb)
  clear hb
  go_wp2
  go_ret2
  exact ⟨pair_eq HK.out.symm HY.out, HF.out.bel⟩
end Go.Proofs.YtjhfpobjbijcpaaGreatDoor.G7
