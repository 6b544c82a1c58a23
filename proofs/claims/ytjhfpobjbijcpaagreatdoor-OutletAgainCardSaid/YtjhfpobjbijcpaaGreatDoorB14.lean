/-
  Babel's messages in as few bytes as what is known lets: their TLVs, and what these tell where it is known: definitions on values alone, and facts on them. No conditions.
  How many bytes two texts have alike: they are, and one more isn't. No conditions.
  Padding, parts of a body, a message that nobody knows put between: what Babel's fold makes of them: facts on values alone. No conditions.
-/
import Derived.Test.YtjhfpobjbijcpaaGreatDoorB10
import Derived.Test.YtjhfpobjbijcpaaGreatDoorB11
import Derived.Test.YtjhfpobjbijcpaaGreatDoorB13
namespace Go.Proofs.YtjhfpobjbijcpaaGreatDoor.L1
open Go.ChangeShapes Go.WideShapes Go.ChangeAt Go.RowKit
open Go.Proofs.YtjhfpobjbijcpaaGreatDoor.Ms
open Go.Proofs.YtjhfpobjbijcpaaGreatDoor.S1 (okS outS putS put_out putS_le outS_yes)
open Go.Proofs.YtjhfpobjbijcpaaGreatDoor.Lk
open Go.Proofs.YtjhfpobjbijcpaaGreatDoor.G1 (outF okF typF datF)
open Go.Proofs.YtjhfpobjbijcpaaGreatDoor.J1
open Go.Proofs.YtjhfpobjbijcpaaGreatDoor.K1
open Go.Proofs.YtjhfpobjbijcpaaGreatDoor.I1
open Go.Proofs.YtjhfpobjbijcpaaGreatDoor.Oct (fitsB)
open Go.Proofs.YtjhfpobjbijcpaaGreatDoor.Own (k11 k14 ownM isKind fieldsOf)
open Go.Proofs.YtjhfpobjbijcpaaGreatDoor.F1 (T okT okT_nil okT_snoc encT enc1 ok1 outT placed bt bt_nn bt_lt encT_append encT_cons encT_nil enc1_len okT_append)
open Go.Proofs.YtjhfpobjbijcpaaGreatDoor.Nu
set_option linter.unusedVariables false
set_option maxRecDepth 100000
set_option maxRecDepth 100000

/-- A message as it comes back. -/
def canM (m : M) : M := { ownM m with sa := none, sc := 0 }
theorem is_14 {m : M} (h : m.kind = 14) : isKind m = true ∧ ownM m = { k14 m with kind := m.kind } := by
  have hi : isKind m = true := by simp [isKind, h]
  exact ⟨hi, by simp [ownM, hi, fieldsOf, h]⟩
theorem can_11 {m : M} (h : m.kind = 11) : canM m = { M.zero with kind := 11, ae := m.ae, pfx := m.pfx, plen := m.plen, interval := m.interval, seq := m.seq, metric := m.metric, id := m.id, next := m.next, sl := m.sl } := by
  unfold canM; rw [(is_11 h).2, h]; rfl
theorem can_14 {m : M} (h : m.kind = 14) : canM m = opM m.typ m.data := by
  unfold canM; rw [(is_14 h).2, h]; rfl
/-- An Update, part by part. -/
structure Oku (m : M) : Prop where
  kind : m.kind = 11
  bare : bare m = true
  subs : okS m.sl = true
  pfx : inB m.ae m.pfx m.plen = true
  iv : fitsB m.interval 2 = true
  seq : fitsB m.seq 2 = true
  metric : fitsB m.metric 2 = true
  way : wayB m = true
theorem oku_iff (m : M) : okU m = true ↔ Oku m := by
  unfold okU
  simp only [Bool.and_eq_true, decide_eq_true_eq]
  exact ⟨fun h => ⟨h.1, h.2.1, h.2.2.1, h.2.2.2.1, h.2.2.2.2.1, h.2.2.2.2.2.1, h.2.2.2.2.2.2.1, h.2.2.2.2.2.2.2⟩, fun h => ⟨h.1, h.2, h.3, h.4, h.5, h.6, h.7, h.8⟩⟩
theorem empty_of {a : ByteArray} (h : a.size = 0) : a = ByteArray.empty := ByteArray.ext (Array.eq_empty_of_size_eq_zero h)
/-- What an Update's way says. -/
theorem way_far {m : M} (h : wayB m = true) (hm : m.metric = 65535) : m.id = ByteArray.empty ∧ m.next = ByteArray.empty := by
  unfold wayB at h
  rw [if_pos hm, Bool.and_eq_true, em_size, em_size] at h
  exact ⟨empty_of h.1, empty_of h.2⟩
theorem way_near {m : M} (h : wayB m = true) (hm : ¬ m.metric = 65535) : ¬ m.ae = 0 ∧ m.id.size = 8 ∧ (m.next.size = 0 ∨ famA m.next = fam m.ae) := by
  unfold wayB at h
  rw [if_neg hm] at h
  simp only [Bool.and_eq_true, Bool.or_eq_true, Bool.not_eq_true', decide_eq_false_iff_not, decide_eq_true_eq, em_size] at h
  exact h

/-- An Update's fields and prefix, but for its first n bytes. -/
def flB (m : M) : Int := if m.ae = 0 then 0 else 128
def updL (m : M) (n : Nat) : List UInt8 :=
  layN m.ae 1 ++ (layN (flB m) 1 ++ (layN m.plen 1 ++ (layN (n : Int) 1 ++ (layN m.interval 2 ++ (layN m.seq 2 ++ (layN m.metric 2 ++ ((cutP m.ae m.pfx m.plen).data.toList.drop n ++ (putS m.sl).data.toList)))))))
def updD (m : M) (n : Nat) : ByteArray := ⟨(updL m n).toArray⟩
theorem two_bytes {v : Int} (h : fitsB v 2 = true) : ∃ s0 s1, layN v 2 = [s0, s1] := by
  have := lay_len h
  match layN v 2, this with
  | [a, b], _ => exact ⟨a, b, rfl⟩
theorem upd_size {m : M} {n : Nat} (h : okU m = true) (hn : n ≤ countN m.ae m.plen) : (updD m n).size = 10 + (countN m.ae m.plen - n) + (putS m.sl).size ∧ (updD m n).size ≤ 226 := by
  have o := (oku_iff m).1 h
  obtain ⟨a0, a1, p0, p1⟩ := len_range (in_cases o.pfx).1
  have hc := count_le (in_cases o.pfx).1
  have hz := cut_size o.pfx
  have hs := putS_le m.sl
  have l1 := fun (v : Int) (h0 : 0 ≤ v) (h1 : v < 256) => lay_one h0 h1
  obtain ⟨ca, ha, _⟩ := l1 m.ae a0 (by omega)
  obtain ⟨cf, hf, _⟩ := l1 (flB m) (by unfold flB; split <;> omega) (by unfold flB; split <;> omega)
  obtain ⟨cp, hp, _⟩ := l1 m.plen p0 (by omega)
  obtain ⟨cn, hn1, _⟩ := l1 (n : Int) (by omega) (by omega)
  have e : (updD m n).size = 10 + (countN m.ae m.plen - n) + (putS m.sl).size := by
    show (updL m n).toArray.size = _
    unfold updL
    rw [ha, hf, hp, hn1, List.size_toArray]
    simp only [List.length_append, lay_len o.iv, lay_len o.seq, lay_len o.metric, List.length_drop, List.length_cons, List.length_nil, J1.size_list, hz]
    omega
  exact ⟨e, by rw [e]; omega⟩
/-- What Take tells of it. -/
def updU (m : M) (n : Nat) : Up := { Up.zero with ae := m.ae, flags := flB m, plen := m.plen, om := (n : Int), iv := m.interval, seq := m.seq, metric := m.metric, hav := 1, bytes := ⟨((cutP m.ae m.pfx m.plen).data.toList.drop n).toArray⟩, sl := m.sl }
theorem upd_out {m : M} {n : Nat} (h : okU m = true) (hn : n ≤ countN m.ae m.plen) : outK (updD m n) = (updU m n, true, 0) := by
  have o := (oku_iff m).1 h
  have hlen := (in_cases o.pfx).1
  obtain ⟨a0, a1, p0, p1⟩ := len_range hlen
  have hc := count_le hlen
  have hz := cut_size o.pfx
  have hsz := (upd_size h hn).1
  have hl : (updD m n).data.toList = updL m n := rfl
  obtain ⟨ca, ha, hca⟩ := lay_one (v := m.ae) a0 (by omega)
  obtain ⟨cf, hf, hcf⟩ := lay_one (v := flB m) (by unfold flB; split <;> omega) (by unfold flB; split <;> omega)
  obtain ⟨cp, hp, hcp⟩ := lay_one (v := m.plen) p0 (by omega)
  obtain ⟨cn, hn1, hcn⟩ := lay_one (v := (n : Int)) (by omega) (by omega)
  obtain ⟨i0, i1, hi⟩ := two_bytes o.iv
  obtain ⟨s0, s1, hs⟩ := two_bytes o.seq
  obtain ⟨m0, m1, hm⟩ := two_bytes o.metric
  have e : (updD m n).data.toList = ca :: cf :: cp :: cn :: i0 :: i1 :: s0 :: s1 :: m0 :: m1 :: ((cutP m.ae m.pfx m.plen).data.toList.drop n ++ (putS m.sl).data.toList) := by
    rw [hl]; unfold updL; rw [ha, hf, hp, hn1, hi, hs, hm]; rfl
  generalize updD m n = d at *
  have b0 : bt d 0 = m.ae := by rw [at_0 e]; exact hca
  have b1 : bt d 1 = flB m := by rw [at_1 e]; exact hcf
  have b2 : bt d 2 = m.plen := by rw [at_2 e]; exact hcp
  have b3 : bt d 3 = n := by rw [at_3 e]; exact hcn
  have n4 : num2 d 4 = m.interval := num2_of (by rw [e, hi]; rfl) o.iv
  have n6 : num2 d 6 = m.seq := num2_of (by rw [e, hs]; rfl) o.seq
  have n8 : num2 d 8 = m.metric := num2_of (by rw [e, hm]; rfl) o.metric
  have hr : restN 10 m.ae m.plen (n : Int) = 10 + (countN m.ae m.plen - n) := by unfold restN; rw [Int.toNat_natCast]
  have hdl : ((cutP m.ae m.pfx m.plen).data.toList.drop n).length = countN m.ae m.plen - n := by rw [List.length_drop, J1.size_list, hz]
  have e1 : d.extract (restN 10 m.ae m.plen (n : Int)) d.size = putS m.sl := text_eq (by
    rw [J1.ext_to, hr, e, ← List.drop_drop]
    show List.drop (countN m.ae m.plen - n) ((cutP m.ae m.pfx m.plen).data.toList.drop n ++ (putS m.sl).data.toList) = _
    rw [← hdl]
    exact List.drop_left ..)
  have e2 : d.extract 10 (restN 10 m.ae m.plen (n : Int)) = ⟨((cutP m.ae m.pfx m.plen).data.toList.drop n).toArray⟩ := text_eq (by
    rw [ext_list, hr, e, Nat.add_sub_cancel_left]
    show List.take (countN m.ae m.plen - n) ((cutP m.ae m.pfx m.plen).data.toList.drop n ++ (putS m.sl).data.toList) = _
    rw [← hdl]
    simp)
  have hend := end_yes (s := d) (z := 10) (ae := m.ae) (p := m.plen) (om := (n : Int)) (l := m.sl) (b := true) (by omega) (by omega) hlen (by omega) (by rw [hr]; omega) (by rw [e1]; exact put_out o.subs)
  rw [e2] at hend
  rw [outK_yes (x := ⟨⟨((cutP m.ae m.pfx m.plen).data.toList.drop n).toArray⟩, m.sl, true⟩) (by rw [b0, b2, b3]; exact hend)]
  unfold hdK updU
  rw [b0, b1, b2, b3, n4, n6, n8]
  rfl
/-- What is known behind an Update. -/
def knowP (c : Kx) (m : M) : Kx := if m.ae = 0 then c else c.setP m.ae m.pfx
/-- An Update's TLV tells it, where its way is known, and what stands ahead of its prefix is the default prefix's. -/
theorem upd_one {c : Kx} {m : M} {n : Nat} (h : okU m = true) (hn : n ≤ countN m.ae m.plen) (hd : ((c.pf m.ae).data.toList.drop (baseN m.ae)).take n = (cutP m.ae m.pfx m.plen).data.toList.take n) (h0 : 0 < n → ¬ (c.pf m.ae).size = 0)
    (hw : ¬ m.metric = 65535 → c.id = m.id ∧ c.nx (fam m.ae) = m.next) : one c 8 (updD m n) = (knowP c m, [canM m], 0) := by
  have o := (oku_iff m).1 h
  rw [one_c (by omega) (by omega), show outC c 8 (updD m n) = out8 c (updD m n) from rfl, out8_yes (upd_out h hn), stU_yes (fun x => h0 (by have := x.1; simp only [updU] at this; omega) x.2)]
  have ha : adrC c (updU m n) = m.pfx := by
    unfold adrC omL
    show wholeP m.ae ⟨((((c.pf m.ae).data.toList.drop (baseN m.ae)).take (n : Int).toNat) ++ ((cutP m.ae m.pfx m.plen).data.toList.drop n)).toArray⟩ m.plen = m.pfx
    rw [Int.toNat_natCast, hd, List.take_append_drop]
    exact whole_cut o.pfx
  have hf : flagC c (updU m n) m.pfx = knowP c m := by
    unfold flagC knowP
    show (if m.ae = 0 then c else if flB m / 64 % 2 = 1 then _ else if 128 ≤ flB m then c.setP m.ae m.pfx else c) = _
    by_cases h0 : m.ae = 0
    · rw [if_pos h0, if_pos h0]
    · rw [if_neg h0, if_neg h0, show flB m = 128 from if_neg h0, if_neg (by decide), if_pos (by decide)]
  have hid : (knowP c m).id = c.id ∧ (knowP c m).nx (fam m.ae) = c.nx (fam m.ae) := by
    unfold knowP
    split
    · exact ⟨rfl, rfl⟩
    · unfold Kx.setP Kx.nx
      constructor <;> (repeat' split) <;> rfl
  have ht : tellB (knowP c m) (updU m n) = true := by
    unfold tellB
    show (!decide ((1 : Int) = 0) && (decide (m.metric = 65535) || (!decide (m.ae = 0) && !emB (knowP c m).id))) = true
    by_cases hm : m.metric = 65535
    · rw [decide_eq_true hm]; rfl
    · obtain ⟨w1, w2, _⟩ := way_near o.way hm
      rw [decide_eq_false w1, show emB (knowP c m).id = false by rw [hid.1, (hw hm).1]; unfold emB; rw [decide_eq_false (by omega)]]
      simp
  rw [ha, hf, if_pos ht, can_11 o.kind]
  have hu : updM (knowP c m) (updU m n) m.pfx = { M.zero with kind := 11, ae := m.ae, pfx := m.pfx, plen := m.plen, interval := m.interval, seq := m.seq, metric := m.metric, id := m.id, next := m.next, sl := m.sl } := by
    unfold updM
    show ({ M.zero with kind := 11, ae := m.ae, pfx := m.pfx, plen := m.plen, interval := m.interval, seq := m.seq, metric := m.metric, sl := m.sl, id := if m.metric = 65535 then ByteArray.empty else (knowP c m).id, next := if m.metric = 65535 then ByteArray.empty else (knowP c m).nx (fam m.ae) } : M) = _
    by_cases hm : m.metric = 65535
    · obtain ⟨w1, w2⟩ := way_far o.way hm
      rw [if_pos hm, if_pos hm, w1, w2]
    · rw [if_neg hm, if_neg hm, hid.1, hid.2, (hw hm).1, (hw hm).2]
  rw [hu]

/-- A router-id's TLV. -/
def idD (a : ByteArray) : ByteArray := ⟨(0 :: 0 :: a.data.toList).toArray⟩
theorem no_subs : outS ⟨#[]⟩ = ([], true, 0) := by rw [outS_yes (l := []) okT_nil rfl (by decide)]; rfl
theorem id_one {c : Kx} {a : ByteArray} (h : a.size = 8) : one c 6 (idD a) = ({ c with id := a }, [], 0) := by
  have hz : (idD a).size = 10 := by show (0 :: 0 :: a.data.toList).toArray.size = 10; simp; omega
  rw [one_c (by omega) (by omega)]
  show out6 c (idD a) = _
  have hf : fixO (idD a) 10 = (true, 0) := by
    rw [fix_long (by omega)]
    have : (idD a).extract 10 (idD a).size = ⟨#[]⟩ := text_eq (by rw [J1.ext_to, List.drop_of_length_le (by rw [J1.size_list]; omega)])
    rw [this, no_subs]
  have he : (idD a).extract 2 10 = a := text_eq (by
    rw [ext_list]
    show List.take 8 a.data.toList = _
    exact List.take_of_length_le (by rw [J1.size_list]; omega))
  unfold out6
  rw [hf, if_pos ⟨rfl, rfl⟩, he]
/-- A next hop's TLV. -/
def hopE (a : ByteArray) : Int := if a.size = 4 then 1 else if link a = true then 3 else 2
def hopS (a : ByteArray) : ByteArray := if a.size = 4 then a else if link a = true then shA a else a
def hopD (a : ByteArray) : ByteArray := ⟨(layN (hopE a) 1 ++ (0 :: (hopS a).data.toList)).toArray⟩
theorem hop_cases {a : ByteArray} (h : a.size = 4 ∨ a.size = 16) : 1 ≤ hopE a ∧ hopE a ≤ 3 ∧ (hopS a).size = sizeA (hopE a) ∧ fam (hopE a) = famA a ∧ (if hopE a = 3 then lgA (hopS a) else hopS a) = a := by
  unfold hopE hopS
  by_cases h4 : a.size = 4
  · rw [if_pos h4, if_pos h4]
    exact ⟨by omega, by omega, by rw [h4]; rfl, by unfold famA; rw [if_pos h4]; rfl, by rw [if_neg (by decide)]⟩
  have h16 : a.size = 16 := by omega
  by_cases hl : link a = true
  · rw [if_neg h4, if_neg h4, if_pos hl, if_pos hl]
    exact ⟨by omega, by omega, by rw [sh_size hl]; rfl, by unfold famA; rw [if_neg h4, if_pos h16]; rfl, by rw [if_pos rfl]; exact lg_sh hl⟩
  · rw [if_neg h4, if_neg h4, if_neg hl, if_neg hl]
    exact ⟨by omega, by omega, by rw [h16]; rfl, by unfold famA; rw [if_neg h4, if_pos h16]; rfl, by rw [if_neg (by decide)]⟩
theorem hop_size {a : ByteArray} (h : a.size = 4 ∨ a.size = 16) : (hopD a).size = 2 + sizeA (hopE a) ∧ (hopD a).size ≤ 18 := by
  obtain ⟨h1, h3, hs, _, _⟩ := hop_cases h
  obtain ⟨ca, ha, _⟩ := lay_one (v := hopE a) (by omega) (by omega)
  have e : (hopD a).size = 2 + sizeA (hopE a) := by
    show (layN (hopE a) 1 ++ (0 :: (hopS a).data.toList)).toArray.size = _
    rw [ha]; simp; omega
  refine ⟨e, ?_⟩
  rw [e]; unfold sizeA; split <;> (try split) <;> (try split) <;> omega
theorem hop_one {c : Kx} {a : ByteArray} (h : a.size = 4 ∨ a.size = 16) : one c 7 (hopD a) = (c.setN (famA a) a, [], 0) := by
  obtain ⟨h1, h3, hs, hf, ha⟩ := hop_cases h
  have hz := (hop_size h).1
  obtain ⟨ca, hla, hca⟩ := lay_one (v := hopE a) (by omega) (by omega)
  have e : (hopD a).data.toList = ca :: 0 :: (hopS a).data.toList := by
    show layN (hopE a) 1 ++ (0 :: (hopS a).data.toList) = _
    rw [hla]; rfl
  rw [one_c (by omega) (by omega)]
  show out7 c (hopD a) = _
  have b0 : bt (hopD a) 0 = hopE a := by rw [at_0 e]; exact hca
  have hfx : fixO (hopD a) (2 + sizeA (hopE a)) = (true, 0) := by
    rw [fix_long (by omega)]
    have : (hopD a).extract (2 + sizeA (hopE a)) (hopD a).size = ⟨#[]⟩ := text_eq (by rw [J1.ext_to, List.drop_of_length_le (by rw [J1.size_list]; omega)])
    rw [this, no_subs]
  have he : (hopD a).extract 2 (2 + sizeA (hopE a)) = hopS a := text_eq (by
    rw [ext_list, e, Nat.add_sub_cancel_left]
    show List.take (sizeA (hopE a)) (hopS a).data.toList = _
    exact List.take_of_length_le (by rw [J1.size_list]; omega))
  unfold out7
  rw [b0, if_neg (by omega), if_neg (by omega), hfx, if_pos ⟨rfl, rfl⟩, hf]
  unfold hopA
  rw [he, ha]
end Go.Proofs.YtjhfpobjbijcpaaGreatDoor.L1
namespace Go.Proofs.YtjhfpobjbijcpaaGreatDoor.Ld
open Go.ChangeShapes Go.WideShapes Go.ChangeAt Go.RowKit
open Go.Proofs.YtjhfpobjbijcpaaGreatDoor.Bits
open Go.Proofs.YtjhfpobjbijcpaaGreatDoor.Pre
set_option linter.unusedVariables false
set_option maxRecDepth 100000
set_option maxRecDepth 100000
theorem lead_le (a b : ByteArray) : leadN a b ≤ a.size ∧ leadN a b ≤ b.size := by
  have h := alike_le a.data.toList b.data.toList
  rw [len_list, len_list] at h
  unfold leadN
  omega

/-- the bytes ahead are the same -/
theorem lead_same (a b : ByteArray) : a.extract 0 (leadN a b) = b.extract 0 (leadN a b) := by
  obtain ⟨h1, h2⟩ := lead_le a b
  apply bytes_inj
  rw [head_list, head_list]
  apply list_ext
  · rw [List.length_take, List.length_take, len_list, len_list]; omega
  · intro i hi
    rw [List.length_take, len_list] at hi
    have e : ∀ l : List UInt8, i / 8 < leadN a b → bitL (l.take (leadN a b)) i = bitL l i := by
      intro l h
      unfold bitL
      simp [List.getD, List.getElem?_take_of_lt h]
    rw [e _ (by omega), e _ (by omega)]
    exact alike_below _ _ i (by unfold leadN at hi; omega)

end Go.Proofs.YtjhfpobjbijcpaaGreatDoor.Ld
namespace Go.Proofs.YtjhfpobjbijcpaaGreatDoor.I2
open Go.ChangeShapes Go.WideShapes Go.ChangeAt Go.RowKit
open Go.Proofs.YtjhfpobjbijcpaaGreatDoor.Ms
open Go.Proofs.YtjhfpobjbijcpaaGreatDoor.K1
open Go.Proofs.YtjhfpobjbijcpaaGreatDoor.I1
open Go.Proofs.YtjhfpobjbijcpaaGreatDoor.F1
set_option linter.unusedVariables false
set_option maxRecDepth 100000
set_option maxRecDepth 100000

theorem placed_map : ∀ (l : List F1.El) (p : Int), (placed p l).map (·.2) = l
  | [], p => rfl
  | x :: l, p => by
      show x :: (placed _ l).map (·.2) = x :: l
      rw [placed_map l]
/-- What Split tells: few TLVs, of few bytes. -/
theorem split_few (p : Int) (s : ByteArray) : (outT p s).1.length ≤ s.size ∧ ∀ x ∈ (outT p s).1, 0 ≤ x.2.2 ∧ x.2.2 ≤ 255 ∧ x.2.1.size ≤ 255 := by
  refine ⟨out_size p s, fun x hx => ?_⟩
  rcases out_cases p s with ⟨l, ho, _, hl⟩ | ⟨l, r, _, _, _, _, hl⟩
  · rw [hl] at hx
    have h := ho x.2 (by rw [← placed_map l p]; exact List.mem_map_of_mem hx)
    exact ⟨h.1, h.2.1, h.2.2.1⟩
  · rw [hl] at hx; exact absurd hx (by simp)
theorem outB_two (b : ByteArray) : (∃ i e, ¬ e = 0 ∧ outB b = (⟨#[]⟩, i, e)) ∨ ∃ s, head b = none ∧ outB b = (s, 0, 0) ∧ s.size ≤ b.size := by
  unfold outB
  rcases hh : head b with _ | ⟨i, x⟩
  · exact .inr ⟨_, rfl, rfl, by simp; omega⟩
  · refine .inl ⟨i, x, ?_, rfl⟩
    intro h0
    subst h0
    unfold head at hh
    repeat' (split at hh)
    all_goals (first | (injection hh with hh; injection hh with _ hh; exact absurd hh (by omega)) | cases hh)
/-- A datagram that is told: its body's TLVs, whose fold has no error. -/
theorem outP_ok {b : ByteArray} (h : (outP b).2.2 = 0) : ∃ s l, head b = none ∧ outB b = (s, 0, 0) ∧ okT l ∧ s.data.toList = encT l ∧ outT 4 s = (placed 4 l, 0, 0) ∧ (outT (4 + (s.size : Int)) (trail b)).2.2 = 0 ∧ (outI (placed 4 l)).2.2.2 = 0 ∧ outP b = ((outI (placed 4 l)).1, (outI (placed 4 l)).2.2.1, 0) := by
  rcases outB_two b with ⟨i, e, he, h1⟩ | ⟨s, hh, h1, _⟩
  · exact absurd (by rw [outP_1 (by rw [h1]; exact he), h1] at h; exact h) he
  by_cases h2 : (outT 4 s).2.2 = 0
  rotate_left
  · exact absurd (by rw [outP_2 h1 h2] at h; exact h) h2
  by_cases h3 : (outT (4 + (s.size : Int)) (trail b)).2.2 = 0
  rotate_left
  · exact absurd (by rw [outP_3 h1 h2 h3] at h; exact h) h3
  have h4 := outP_4 h1 h2 h3
  rcases out_cases 4 s with ⟨l, ho, hs, hl⟩ | ⟨l, r, ho, hs, hr, hn, hl⟩
  · rw [hl] at h4
    rw [h4] at h
    exact ⟨s, l, hh, h1, ho, hs, hl, h3, h, by rw [h4, show (outI (placed 4 l)).2.2.2 = 0 from h]⟩
  · rw [hl] at h2; exact absurd h2 (by simp)
theorem outP_len (b : ByteArray) : (outP b).1.length ≤ b.size := by
  rcases outB_two b with ⟨i, e, he, h1⟩ | ⟨s, hh, h1, hz⟩
  · rw [outP_1 (by rw [h1]; exact he)]; exact Nat.zero_le _
  by_cases h2 : (outT 4 s).2.2 = 0
  rotate_left
  · rw [outP_2 h1 h2]; exact Nat.zero_le _
  by_cases h3 : (outT (4 + (s.size : Int)) (trail b)).2.2 = 0
  rotate_left
  · rw [outP_3 h1 h2 h3]; exact Nat.zero_le _
  rw [outP_4 h1 h2 h3]
  have hl := (split_few 4 s).1
  rcases I1.out_cases (outT 4 s).1 with ⟨r, c, h, _, h4, _⟩ | ⟨a, e, _, h⟩
  · rw [h]; show r.length ≤ b.size; omega
  · rw [h]; exact Nat.zero_le _
end Go.Proofs.YtjhfpobjbijcpaaGreatDoor.I2
