/-
  Blocks that repeat, each said once. No conditions.
-/
import Derived.Test.YtllhobicfclheaaGreatDoorRows
import Derived.WalkKit
import Derived.ProofKit
import Derived.OpenShut
import Derived.ShutString
import Derived.Below
import Derived.Lib.Hide
import Derived.WalkLawsBesides
import Derived.Outline
import Derived.RegionTactic
import Derived.Deep.RegionWith
import Derived.StillTailTactics
import Derived.Deep.RegionHeld3
import Derived.Deep.QuietTactic
import Derived.BigQuiet
import Derived.IntWalk
import Derived.Laws.StructEq
import Derived.Laws.Cells
import Derived.Laws.Rows
import Derived.Laws.Tables
import Derived.OwnWalk
import Derived.Deep.DeepCutAuto
import Derived.Deep.Cut
import Derived.Deep.WholeRow
import Derived.LoopTactic
import Derived.Laws.IdiomStrings
import Derived.Lib.Builder
import Derived.Lib.AppendStr
import Derived.Laws.CopyOwn
import Derived.Lib.BufferWrite
import Derived.Lib.MinMax
import Derived.Laws.AppendOwn
import Derived.Shelf.Strings.Builder1
import Derived.Shelf.Strings.Builder2
import Derived.Test.YtllhobicfclheaaGreatDoorProg
import Derived.Laws.OwnMore
import Derived.Deep.AppendLies
import Derived.Deep.Slices
import Derived.Deep.Fields
import Derived.ChangeSame
import Derived.Carry
import Derived.Lib.SmallJoins
import Derived.LaidLaws
import Derived.LaidMore
import Derived.Lib.LaidTab
import Derived.Stop.LaidErr
import Derived.Laws.AppendOwnNone
import Derived.Test.YtllhobicfclheaaGreatDoorCards
import Derived.Test.YtllhobicfclheaaGreatDoorTie
import Derived.Lay
import Derived.SevenTiedAt
import Derived.Stop.Joined
namespace Go.Proofs.YtllhobicfclheaaGreatDoor
open Go.ChangeShapes Go.WideShapes Go.ChangeAt Go.RowKit
set_option linter.unusedVariables false
/-- What is left open. -/
def U {G:Prop}(h:G):Prop:=True
theorem kE {G:Prop}(h:G)(y:U h):G:=h
variable {G:Prop}
theorem qz0 (h:G:=by
 try simp only[Act.put,List.setIfInBounds_toArray,List.set_cons_zero,List.set_cons_succ]
 all_goals(apply_rules (newGoals := .nonDependentOnly) (maxDepth:=1) only[kE];trivial)):G:=h
theorem qz1 (h:G:=by
 refine' qz0
 refine wpAnyH_done (by kernel_rfl) ?_ _
 all_goals(apply_rules (newGoals := .nonDependentOnly) (maxDepth:=1) only[kE];trivial)):G:=h
theorem qz2 (h:G:=by
 have c24:=HF.out.m.cs.c24
 all_goals(apply_rules (newGoals := .nonDependentOnly) (maxDepth:=1) only[kE];trivial)):G:=h
theorem qz3 (h:G:=by
 go_wp2_with (first|(refine p0a (v := .agg (M.cells m)) (by rfl) rfl (a0b (x := .tmp 1) rfl rfl HF.out.m) ?_))
 all_goals(apply_rules (newGoals := .nonDependentOnly) (maxDepth:=1) only[kE];trivial)):G:=h
theorem qz4 (h:G:=by
 refine' qz2;refine' qz3
 all_goals(apply_rules (newGoals := .nonDependentOnly) (maxDepth:=1) only[kE];trivial)):G:=h
theorem qz5 (h:G:=by
 refine' qz0
 refine H.one (i:=3) (by simp only[List.getElem?_toArray,List.getElem?_cons_succ,List.getElem?_cons_zero];rfl) (by kernel_rfl) (by kernel_rfl) (fun K hK=>?_)
 all_goals(apply_rules (newGoals := .nonDependentOnly) (maxDepth:=1) only[kE];trivial)):G:=h
theorem qz6 (h:G:=by
 have HB:=Lib.hid (bcall HB.out hb)
 all_goals(apply_rules (newGoals := .nonDependentOnly) (maxDepth:=1) only[kE];trivial)):G:=h
theorem qz7 (h:G:=by
 have HL:=Lib.hid (HL.out.below hb)
 all_goals(apply_rules (newGoals := .nonDependentOnly) (maxDepth:=1) only[kE];trivial)):G:=h
theorem qz8 (h:G:=by
 refine' qz7;refine' qz6
 all_goals(apply_rules (newGoals := .nonDependentOnly) (maxDepth:=1) only[kE];trivial)):G:=h
theorem qz9 (h:G:=by
 have S0:=Lib.hid (S0.out.below hb);have U0:=Lib.hid (U0.out.below hb)
 all_goals(apply_rules (newGoals := .nonDependentOnly) (maxDepth:=1) only[kE];trivial)):G:=h
theorem qza (h:G:=by
 have R0:=Lib.hid (R0.out.below hb);have HT:=Lib.hid (HT.out.below hb)
 all_goals(apply_rules (newGoals := .nonDependentOnly) (maxDepth:=1) only[kE];trivial)):G:=h
theorem qzb (h:G:=by
 have R0:=Lib.hid (R0.out.below bel)
 all_goals(apply_rules (newGoals := .nonDependentOnly) (maxDepth:=1) only[kE];trivial)):G:=h
theorem qzc (h:G:=by
 have HB:=Lib.hid (bcall HB.out bel)
 all_goals(apply_rules (newGoals := .nonDependentOnly) (maxDepth:=1) only[kE];trivial)):G:=h
theorem qzd (h:G:=by
 refine' qzb;refine' qzc
 all_goals(apply_rules (newGoals := .nonDependentOnly) (maxDepth:=1) only[kE];trivial)):G:=h
theorem qze (h:G:=by
 clear hb P4
 cases htb:tellB cf v with
 | false=>
  rw[htb]at HY
  have HY:=Lib.hid (show out8 c d=(cf,[],0)from HY.out)
  clear htb P5 HTE
  go_wp2_with (first|(refine n0b (b:=w.heap.size) (c:=cf) (v:=nilV) rfl _ rfl rfl S0.out ?_)|(refine f0b (b:=w.heap.size+1+1) (c:=Kx.zero) (c':=cf) (v:=nilV) (q:=none) (n:=0) (k:=0) rfl _ _ rfl rfl rfl R0.out ?_))
  exact bodyPost_ret (v := .tuple #[.agg (stC cf nilV),.int .i64 0]) (m0a rfl _ _ (w.heap.size+1+1) _ rfl (loadVarK shS (R0.out.put (stC cf nilV)) rfl) (.int .i64 0) rfl) rfl (AnsSt.no HY.out (Box.below_setRow HB.out (by omega) _))
 | true=>
  have HY:=Lib.hid (show out8 c d=(cf,[updM cf v ad],0) by rw[HY.out,htb];rfl)
  have hm:v.metric=65535∨¬v.ae=0:=by
   have:=HTE.out;rw[htb]at this;by_cases h:v.metric=65535
   · exact .inl h
   · refine .inr (fun h0=>?_)
     rw[decide_eq_false h,decide_eq_true h0]at this;simp at this
  have P5:=Lib.hid (fun V=>P5.out V hm)
  clear htb HTE hm
  go_wp2_with (first|(refine n0b (b:=w.heap.size) (c:=cf) (v:=nilV) rfl _ rfl rfl S0.out ?_)|(refine u0c (b:=g1) (m:=v) rfl _ rfl rfl U0.out ?_))
  refine(P5.out _).mono ?_;rintro e w6 ⟨rfl,hb⟩;refine' qz9;refine' qza;refine' qz8;clear hb P5
  obtain⟨nm,hnm⟩:∃ m:M,m={ updM cf v ad with sa:=v.sa,sc:=v.sc}:=⟨_,rfl⟩
  have hll:nm.ll = []:=by rw[hnm];rfl
  have HP:=Lib.hid (show Pl nm (updM cf v ad) by rw[hnm];rfl)
  have HO:=Lib.hid (a0p (n:=nm) hll (show Sx.Lst B1 w6 (.slice nm.sa nm.sl.length nm.sc) nm.sl by rw[hnm];exact HL.out) (by have:=R0.out.lt;have:=U0.out.lt;omega))
  have bel:=balloc (Below.refl w6.heap.size w6) (.cells nm.cells 29);have S7:=S0.out.below bel;have d7:=S7.cell 7 _ rfl;have fd:=S7.frozen 7;rw[←hnm];clear hnm hll
  go_upto_region 10 with(first|(refine Ap.j0c (m:=nm) rfl _ rfl rfl ?_))
  have S0:=Lib.hid (S0.out.below bel);refine' qzd
  have HO:=Lib.hid (MOwn.cell HO.out (p:=⟨w.heap.size,7,none⟩) (by show w.heap.size<B1;omega) (.slice (some ⟨w6.heap.size,0,none⟩) 1 1))
  have S0:=Lib.hid (S0.out.set (i:=7) (v := .slice (some ⟨w6.heap.size,0,none⟩) 1 1) (cs':=stC cf (.slice (some ⟨w6.heap.size,0,none⟩) 1 1)) rfl)
  have R0:=Lib.hid (R0.out.off (p:=⟨w.heap.size,7,none⟩) (by show w.heap.size+1+1≠w.heap.size;omega) (.slice (some ⟨w6.heap.size,0,none⟩) 1 1))
  have HB:=Lib.hid (HB.out.setCell (p:=⟨w.heap.size,7,none⟩) (by show w.heap.size≤w.heap.size;omega) (.slice (some ⟨w6.heap.size,0,none⟩) 1 1))
  clear d7 fd bel S7 U0 HT HL;generalize (w6.alloc (.cells nm.cells 29)).setCell ⟨w.heap.size,7,none⟩ (.slice (some ⟨w6.heap.size,0,none⟩) 1 1)=V7 at *;generalize w6.heap.size=g6 at *
  go_wp2_with (first|(refine n0b (b:=w.heap.size) (c:=cf) (v:=(.slice (some ⟨g6,0,none⟩) 1 1)) rfl _ rfl rfl S0.out ?_)|(refine f0b (b:=w.heap.size+1+1) (c:=Kx.zero) (c':=cf) (v:=nilV) (q:=some ⟨g6,0,none⟩) (n:=1) (k:=1) rfl _ _ rfl rfl rfl R0.out ?_))
  exact bodyPost_ret (v := .tuple #[.agg (stC cf (.slice (some ⟨g6,0,none⟩) 1 1)),.int .i64 0]) (m0a rfl _ _ (w.heap.size+1+1) _ rfl (loadVarK shS (R0.out.put (stC cf (.slice (some ⟨g6,0,none⟩) 1 1))) rfl) (.int .i64 0) rfl) rfl (AnsSt.one HY.out HP.out ((MOwn.under HO.out (by omega) _).mono hwB) (Box.below_setRow HB.out (by omega) _))
 all_goals(apply_rules (newGoals := .nonDependentOnly) (maxDepth:=1) only[kE];trivial)):G:=h
theorem qzf (h:G:=by
 refine' qz3;refine(P1.out _ HF.out.i).mono ?_
 all_goals(apply_rules (newGoals := .nonDependentOnly) (maxDepth:=1) only[kE];trivial)):G:=h
theorem qzg (h:G:=by
 go_wp2_with fail
 all_goals(apply_rules (newGoals := .nonDependentOnly) (maxDepth:=1) only[kE];trivial)):G:=h
theorem qzh (h:G:=by
 refine' qzg;refine(P1.out _).mono ?_
 all_goals(apply_rules (newGoals := .nonDependentOnly) (maxDepth:=1) only[kE];trivial)):G:=h
theorem qzi (h:G:=by
 go_in
 go_upto_region 1 with fail
 all_goals(apply_rules (newGoals := .nonDependentOnly) (maxDepth:=1) only[kE];trivial)):G:=h
theorem qzj (h:G:=by
 go_wp2;go_ret
 all_goals(apply_rules (newGoals := .nonDependentOnly) (maxDepth:=1) only[kE];trivial)):G:=h
theorem qzk (h:G:=by
 refine AllReadyH.cons rfl (fun K hK=>?_) AllReadyH.nil
 go_simp
 all_goals(apply_rules (newGoals := .nonDependentOnly) (maxDepth:=1) only[kE];trivial)):G:=h
theorem qzl (h:G:=by
 refine' qz0
 refine H.one (i:=5) (by simp only[List.getElem?_toArray,List.getElem?_cons_succ,List.getElem?_cons_zero];rfl) (by kernel_rfl) (by kernel_rfl) (fun K hK=>?_)
 all_goals(apply_rules (newGoals := .nonDependentOnly) (maxDepth:=1) only[kE];trivial)):G:=h
theorem qzm (h:G:=by
 change Code.wp _ _ _ _ ((w.alloc (.cells (stC c nilV) 211)).alloc (.cells (stC Kx.zero nilV) 211));have S0:=Lib.hid ((Bk.Bk.new 211 w (stC c nilV)).old (.cells (stC Kx.zero nilV) 211))
 all_goals(apply_rules (newGoals := .nonDependentOnly) (maxDepth:=1) only[kE];trivial)):G:=h
theorem qzn (h:G:=by
 have R0:=Lib.hid (Bx.new w M.zero);have bel:=Lib.hid (balloc (Below.refl _ w) (.cells M.zero.cells 29))
 all_goals(apply_rules (newGoals := .nonDependentOnly) (maxDepth:=1) only[kE];trivial)):G:=h
theorem qzo (h:G:=by
 refine' qzi;change Code.wp _ _ _ _ (w.alloc (.cells M.zero.cells 29))
 all_goals(apply_rules (newGoals := .nonDependentOnly) (maxDepth:=1) only[kE];trivial)):G:=h
theorem qzp (h:G:=by
 have hi:isKind m=true:=by simp[isKind,h]
 exact⟨hi,by simp[ownM,hi,fieldsOf,h]⟩
 all_goals(apply_rules (newGoals := .nonDependentOnly) (maxDepth:=1) only[kE];trivial)):G:=h
theorem qzq (h:G:=by
 have HF:=Lib.hid (HF.out.call hb)
 all_goals(apply_rules (newGoals := .nonDependentOnly) (maxDepth:=1) only[kE];trivial)):G:=h
theorem qzr (h:G:=by
 rintro r w' ⟨rfl,hb⟩;refine' qzq
 all_goals(apply_rules (newGoals := .nonDependentOnly) (maxDepth:=1) only[kE];trivial)):G:=h
theorem qzs (h:G:=by
 refine(P2.out _).mono ?_
 all_goals(apply_rules (newGoals := .nonDependentOnly) (maxDepth:=1) only[kE];trivial)):G:=h
theorem qzt (h:G:=by
 refine' qzg;refine' qzs
 all_goals(apply_rules (newGoals := .nonDependentOnly) (maxDepth:=1) only[kE];trivial)):G:=h
theorem qzu (h:G:=by
 refine' qz0
 refine wpAnyH_ready (rs:=[8]) (by kernel_rfl) (by simp) ?_
 all_goals(apply_rules (newGoals := .nonDependentOnly) (maxDepth:=1) only[kE];trivial)):G:=h
theorem qzv (h:G:=by
 refine' qzg
 exact bodyPost_ret (v := .tuple #[.agg (Kx.cells c),.slice qa l2.length qk,.int .i64 p.2.2]) (t0a rfl _ _ (w.heap.size+1+1) _ rfl (loadVarK shX (R0.out.put (Kx.cells c)) rfl) (.slice qa l2.length qk) rfl (.int .i64 p.2.2) rfl) rfl (by rw[HY.out];exact AnsC.told HN.out HC.out HQ.out (HM.out.under (by omega) _) (by omega) (Box.below_setRow HB.out (by omega) _))
 all_goals(apply_rules (newGoals := .nonDependentOnly) (maxDepth:=1) only[kE];trivial)):G:=h
theorem qzw (h:G:=by
 go_wp2_with (first|(refine n0b (b:=w.heap.size) (c:=c) (v:=nilV) rfl _ rfl rfl S0.out ?_)|(refine f0b (b:=w.heap.size+1) (c:=Kx.zero) (c':=c) (v:=nilV) (q:=none) (n:=0) (k:=0) rfl _ _ rfl rfl rfl R0.out ?_))
 all_goals(apply_rules (newGoals := .nonDependentOnly) (maxDepth:=1) only[kE];trivial)):G:=h
theorem qzx (h:G:=by
 refine' qzw
 exact bodyPost_ret (v := .tuple #[.agg (stC c nilV),.int .i64 2]) (m0a rfl _ _ (w.heap.size+1) _ rfl (loadVarK shS (R0.out.put (stC c nilV)) rfl) (.int .i64 2) rfl) rfl (AnsSt.no HY.out (Box.below_setRow HB.out (by omega) _))
 all_goals(apply_rules (newGoals := .nonDependentOnly) (maxDepth:=1) only[kE];trivial)):G:=h
theorem qzy (h:G:=by
 clear hK K;refine' qz0
 all_goals(apply_rules (newGoals := .nonDependentOnly) (maxDepth:=1) only[kE];trivial)):G:=h
theorem qzz (h:G:=by
 go_wp2_with (first|(refine k0d (m:=u) rfl _ rfl rfl HC.out ?_))
 refine P.out.mono ?_
 all_goals(apply_rules (newGoals := .nonDependentOnly) (maxDepth:=1) only[kE];trivial)):G:=h
theorem qz10 (h:G:=by
 rintro e w1 ⟨rfl,hb1⟩
 all_goals(apply_rules (newGoals := .nonDependentOnly) (maxDepth:=1) only[kE];trivial)):G:=h
theorem qz11 (h:G:=by
 generalize l[k]=u at *
 all_goals(apply_rules (newGoals := .nonDependentOnly) (maxDepth:=1) only[kE];trivial)):G:=h
theorem qz12 (h:G:=by
 obtain rfl:k=l.length:=by omega
 all_goals(apply_rules (newGoals := .nonDependentOnly) (maxDepth:=1) only[kE];trivial)):G:=h
theorem qz13 (h:G:=by
 go_wp2
 go_loopw [8] (fun i wr=>∃ k:Nat,k≤l.length∧i = .int .i64 k∧Hid (∀ i,i<k→ckW l i=0)∧Hid (Below w.heap.size w wr)) (fun i _=>l.length - (intOf i).toNat)
 case atStart=>exact⟨0,Nat.zero_le _,rfl,Lib.hid (fun i hi=>absurd hi (by omega)),Lib.hid (Below.refl _ _)⟩
 case round=>
  obtain⟨k,hk,rfl,HT,HB⟩:=hrel;by_cases hlt:k<l.length
  · obtain⟨p,rfl,_,hc,_,_⟩:=(hl.below HB.out) k hlt;have P:=Lib.hid (l0f l[k] wr (x0j (hl.below HB.out) hs hlt))
    have HI:=Lib.hid (fun(h:ckW l k≠0)=>h0h hlt HT.out h)
    have HJ:=Lib.hid (fun(h:ckW l k=0)=>show ∀ i,i<k+1→ckW l i=0 from fun i hi=>by
     by_cases hik:i<k
     ·
      exact HT.out i hik
     ·
      obtain rfl:i=k:=by omega
      exact h)
    have HR:=Lib.hid (show ckW l k=if rightB l[k]then 0 else 1 by unfold ckW;rw[m0d l k hlt])
    have HC:=Lib.hid hc;clear hl hc hs HT;refine' qz11;generalize rightB u=x at *;cases x
    · have HZ:=Lib.hid (HI.out (by rw[HR.out];decide))
      clear HI HJ HR;refine' qzz;refine' qz10;refine' qzj;exact⟨int_eq HZ.out.symm,bcall HB.out hb1⟩
    · have HZ:=Lib.hid (HJ.out HR.out);clear HI HJ HR;refine' qzz;refine' qz10;have HB1:=Lib.hid (bcall HB.out hb1);clear hb1;go_wp2;go_roundw
      case rel=>exact⟨k+1,hlt,by go_num,HZ,HB1⟩
      case measure=>simp[intOf];omega
  · refine' qz12;have HZ:=Lib.hid (v0j HT.out);refine' qzj;exact⟨int_eq HZ.out.symm,HB.out⟩
 all_goals(apply_rules (newGoals := .nonDependentOnly) (maxDepth:=1) only[kE];trivial)):G:=h
theorem qz14 (h:G:=by
 have hz:=b0a w (.cells M.zero.cells 29);generalize w.alloc (.cells M.zero.cells 29)=W at *
 all_goals(apply_rules (newGoals := .nonDependentOnly) (maxDepth:=1) only[kE];trivial)):G:=h
theorem qz15 (h:G:=by
 rw[h11]at c0;refine' qz3
 all_goals(apply_rules (newGoals := .nonDependentOnly) (maxDepth:=1) only[kE];trivial)):G:=h
theorem qz16 (h:G:=by
 go_in;refine' qzg
 all_goals(apply_rules (newGoals := .nonDependentOnly) (maxDepth:=1) only[kE];trivial)):G:=h
theorem qz17 (h:G:=by
 have R0:=Lib.hid (show Bk 74 V.drew (w.heap.size+1+1) Kx.zero.cells from R0.out)
 all_goals(apply_rules (newGoals := .nonDependentOnly) (maxDepth:=1) only[kE];trivial)):G:=h
theorem qz18 (h:G:=by
 refine' qz17
 have HB:=Lib.hid (show Below w.heap.size w V.drew from D.out.bel.drew)
 all_goals(apply_rules (newGoals := .nonDependentOnly) (maxDepth:=1) only[kE];trivial)):G:=h
theorem qz19 (h:G:=by
 have R0:=Lib.hid R0;have HB:=Lib.hid (balloc (balloc (Below.refl _ w) (.cells (stC c nilV) 211)) (.cells (stC Kx.zero nilV) 211))
 all_goals(apply_rules (newGoals := .nonDependentOnly) (maxDepth:=1) only[kE];trivial)):G:=h
theorem qz1a (h:G:=by
 clear hm;generalize ((w.alloc (.cells c.cells 74)).alloc (.cells m.cells 29)).alloc (.cells Kx.zero.cells 74)=V at *
 all_goals(apply_rules (newGoals := .nonDependentOnly) (maxDepth:=1) only[kE];trivial)):G:=h
theorem qz1b (h:G:=by
 have HU:=Lib.hid (HU.out.lay hlaid);obtain⟨rfl,hlaid⟩:=hlaid
 all_goals(apply_rules (newGoals := .nonDependentOnly) (maxDepth:=1) only[kE];trivial)):G:=h
theorem qz1c (h:G:=by
 refine' qz0
 refine H.one (i:=2) (by simp only[List.getElem?_toArray,List.getElem?_cons_succ,List.getElem?_cons_zero];rfl) (by kernel_rfl) (by kernel_rfl) (fun K hK=>?_)
 all_goals(apply_rules (newGoals := .nonDependentOnly) (maxDepth:=1) only[kE];trivial)):G:=h
theorem qz1d (h:G:=by
 refine' qzw
 exact bodyPost_ret (v := .tuple #[.agg (stC c nilV),.int .i64 er]) (m0a rfl _ _ (w.heap.size+1) _ rfl (loadVarK shS (R0.out.put (stC c nilV)) rfl) (.int .i64 er) rfl) rfl (AnsSt.no HY.out (Box.below_setRow HB.out (by omega) _))
 all_goals(apply_rules (newGoals := .nonDependentOnly) (maxDepth:=1) only[kE];trivial)):G:=h
theorem qz1e (h:G:=by
 have c5:=HF.out.m.cs.c5;have c6:=HF.out.m.cs.c6
 all_goals(apply_rules (newGoals := .nonDependentOnly) (maxDepth:=1) only[kE];trivial)):G:=h
theorem qz1f (h:G:=by
 go_wp2_with (first|(refine j0a (b:=w.heap.size+1) (m:={ mi with addr:=ta}) rfl _ rfl rfl hG.msg ?_)|(refine e0a (b:=w.heap.size) (m:=M.zero) (m':={ mi with addr:=ta}) rfl _ _ rfl rfl rfl hG.res ?_))
 exact bodyPost_ret (v := .tuple #[.agg (M.cells { mi with addr:=ta}),.bool true]) (m0a rfl _ _ w.heap.size _ rfl (loadVarK shM HE.out.1 rfl) _ rfl) rfl ⟨by rw[HR.out,HC.out],by rw[HQ.out];exact HE.out.2.1,HE.out.2.2⟩
 all_goals(apply_rules (newGoals := .nonDependentOnly) (maxDepth:=1) only[kE];trivial)):G:=h
theorem qz1g (h:G:=by
 refine H.tk (i:=0) (v:=?v0) ?h0 hS ?_
 case h0=>(intro w hw;go_simp;first|done|(with_reducible rfl))
 refine' qz0
 all_goals(apply_rules (newGoals := .nonDependentOnly) (maxDepth:=1) only[kE];trivial)):G:=h
theorem qz1h (h:G:=by
 refine⟨h.1,?_⟩
 rcases h.2 with h|⟨g,cap,cur,a,b,c,d⟩
 · exact .inl h
 · exact .inr ⟨g,cap,cur,a,b,(hb.block g (Array.getElem?_eq_some_iff.1 c).1).trans c,d⟩
 all_goals(apply_rules (newGoals := .nonDependentOnly) (maxDepth:=1) only[kE];trivial)):G:=h
theorem qz1i (h:G:=by
 go_wp2_with (first|(refine d0a rfl 29 _ rfl (M.cells M.zero) (by kernel_rfl) ?_)|(refine e0a (b:=w.heap.size+1) (m:=M.zero) (m':=M.zero) rfl _ _ rfl rfl rfl X0.out ?_))
 all_goals(apply_rules (newGoals := .nonDependentOnly) (maxDepth:=1) only[kE];trivial)):G:=h
theorem qz1j (h:G:=by
 refine' qz1i
 exact bodyPost_ret (v := .tuple #[.agg M.zero.cells,.bool false,.int .i64 0]) (ret3 rfl _ _ (w.heap.size+1) M.zero rfl (X0.out.put (m':=M.zero)) (.bool false) rfl (.int .i64 0) rfl) rfl (AnsB.no HY.out (Box.below_setRow HB.out (by omega) _))
 all_goals(apply_rules (newGoals := .nonDependentOnly) (maxDepth:=1) only[kE];trivial)):G:=h
theorem qz1k (h:G:=by
 intro a
 induction a with
 | nil=>intro b h _;cases b with
  | nil=>rfl
  | cons _ _=>simp at h
 | cons c a ih=>
  intro b h e
  cases b with
  | nil=>simp at h
  | cons d b=>
   have hl:a.length=b.length:=by simpa using h
   rw[f0i,f0i,hl]at e;have h1:=r0h a;have h2:=r0h b;rw[hl]at h1
   have hp:0<256 ^ b.length:=Nat.pow_pos (by decide)
   have hq:=congrArg (· / 256 ^ b.length) e;simp only[Nat.mul_comm _ (256 ^ b.length),Nat.mul_add_div hp,Nat.div_eq_of_lt h1,Nat.div_eq_of_lt h2,Nat.add_zero]at hq;have hc:c=d:=UInt8.toNat_inj.1 hq;subst hc
   rw[ih hl (by omega)]
 all_goals(apply_rules (newGoals := .nonDependentOnly) (maxDepth:=1) only[kE];trivial)):G:=h
theorem qz1l (h:G:=by
 refine H.tk (i:=0) (v := .agg c.cells) ?h0x1 hS ?_
 case h0x1=>exact(fun w hw=>o0a shX (x := .tmp 2) rfl rfl hw.1 rfl)
 refine' qz0
 all_goals(apply_rules (newGoals := .nonDependentOnly) (maxDepth:=1) only[kE];trivial)):G:=h
theorem qz1m (h:G:=by
 have R0:=Lib.hid (R0.out.below hb);refine' qz6
 all_goals(apply_rules (newGoals := .nonDependentOnly) (maxDepth:=1) only[kE];trivial)):G:=h
theorem qz1n (h:G:=by
 have R0:=Bk.Bk.new 211 (w.alloc (.cells (stC c nilV) 211)) (stC Kx.zero nilV);rw[b0a]at R0
 all_goals(apply_rules (newGoals := .nonDependentOnly) (maxDepth:=1) only[kE];trivial)):G:=h
theorem qz1o (h:G:=by
 refine' qzj;exact⟨g0a HZ.out.symm,bel⟩
 all_goals(apply_rules (newGoals := .nonDependentOnly) (maxDepth:=1) only[kE];trivial)):G:=h
theorem qz1p (h:G:=by
 go_wp2_with (first|(refine j0a (b:=w.heap.size) (m:=m) rfl _ rfl rfl HF.out.m ?_))
 all_goals(apply_rules (newGoals := .nonDependentOnly) (maxDepth:=1) only[kE];trivial)):G:=h
theorem qz1q (h:G:=by
 refine' qz1p;refine(P1.out _ HF.out.i HM.out).mono ?_
 all_goals(apply_rules (newGoals := .nonDependentOnly) (maxDepth:=1) only[kE];trivial)):G:=h
theorem qz1r (h:G:=by
 refine' qzj;exact⟨g0a HK.out.symm,HB.out⟩
 all_goals(apply_rules (newGoals := .nonDependentOnly) (maxDepth:=1) only[kE];trivial)):G:=h
theorem qz1s (h:G:=by
 refine' qz0
 refine wpAnyH_ready (rs:=[7]) (by kernel_rfl) (by simp) ?_
 all_goals(apply_rules (newGoals := .nonDependentOnly) (maxDepth:=1) only[kE];trivial)):G:=h
theorem qz1t (h:G:=by
 have HL:=Lib.hid (show Bel w.heap.size b w (w.alloc (.cells (cellsN En.zero none 0) 217))from Bel.of (balloc (Below.refl _ w) _))
 have R0:=Lib.hid (HR.out.old (.cells (cellsN En.zero none 0) 217))
 all_goals(apply_rules (newGoals := .nonDependentOnly) (maxDepth:=1) only[kE];trivial)):G:=h
theorem qz1u (h:G:=by
 refine wp_region_held_drew (S:=fun X=>Bk 74 X w.heap.size c.cells∧Bx X w1.heap.size n) (by kernel_rfl) ⟨D.out.s0,X0.out⟩ (fun hS=>?_)
 have R0:=Lib.hid (show Bk 74 V6.drew (w.heap.size+1+1) Kx.zero.cells from D.out.r0)
 all_goals(apply_rules (newGoals := .nonDependentOnly) (maxDepth:=1) only[kE];trivial)):G:=h
theorem qz1v (h:G:=by
 generalize (w.alloc (.cells (stC c nilV) 211)).alloc (.cells (stC Kx.zero nilV) 211)=W at *;refine' qzg
 all_goals(apply_rules (newGoals := .nonDependentOnly) (maxDepth:=1) only[kE];trivial)):G:=h
theorem qz1w (h:G:=by
 go_wp2_with (first|(refine p0a (v := .agg (M.cells m)) (by rfl) rfl (a0b (x := .tmp 1) rfl rfl B0.out) ?_))
 all_goals(apply_rules (newGoals := .nonDependentOnly) (maxDepth:=1) only[kE];trivial)):G:=h
theorem qz1x (h:G:=by
 refine' qz1w;refine P1.out.mono ?_
 all_goals(apply_rules (newGoals := .nonDependentOnly) (maxDepth:=1) only[kE];trivial)):G:=h
theorem qz1y (h:G:=by
 refine' qz0;refine H.tk (i:=6) (v:=?v6) ?h6 hS ?_
 case h6=>(intro w hw;go_simp;first|done|(with_reducible rfl))
 all_goals(apply_rules (newGoals := .nonDependentOnly) (maxDepth:=1) only[kE];trivial)):G:=h
theorem qz1z (h:G:=by
 refine H.tk (i:=1) (v:=?v1) ?h1 hS ?_
 case h1=>(intro w hw;go_simp;first|done|(with_reducible rfl))
 refine' qz0
 all_goals(apply_rules (newGoals := .nonDependentOnly) (maxDepth:=1) only[kE];trivial)):G:=h
theorem qz20 (h:G:=by
 refine' qz0;refine H.tk (i:=4) (v:=?v4) ?h4 hS ?_
 case h4=>(intro w hw;go_simp;first|done|(with_reducible rfl))
 all_goals(apply_rules (newGoals := .nonDependentOnly) (maxDepth:=1) only[kE];trivial)):G:=h
theorem qz21 (h:G:=by
 refine' qz0;refine H.tk (i:=5) (v:=?v5) ?h5 hS ?_
 case h5=>(intro w hw;go_simp;first|done|(with_reducible rfl))
 all_goals(apply_rules (newGoals := .nonDependentOnly) (maxDepth:=1) only[kE];trivial)):G:=h
theorem qz22 (h:G:=by
 rintro r w' ⟨rfl,hb⟩;have HM:=Lib.hid (HM.out.below hb);refine' qzq
 all_goals(apply_rules (newGoals := .nonDependentOnly) (maxDepth:=1) only[kE];trivial)):G:=h
theorem qz23 (h:G:=by
 go_upto_region 7 with(first|(refine p0a (v := .pointer (some ⟨w.heap.size,4+k,none⟩)) (by rfl) rfl (f0e rfl rfl rfl (c0j w.heap.size k hk2 _)) ?_))
 clear nm1 nm2 nc1 nc2 e10 c5 c10
 all_goals(apply_rules (newGoals := .nonDependentOnly) (maxDepth:=1) only[kE];trivial)):G:=h
theorem qz24 (h:G:=by
 change Code.wp _ _ _ _ (((w.alloc (.cells (stC c nilV) 211)).alloc (.cells u.cells 223)).alloc (.cells (stC Kx.zero nilV) 211));generalize ((w.alloc (.cells (stC c nilV) 211)).alloc (.cells u.cells 223)).alloc (.cells (stC Kx.zero nilV) 211)=W at *
 all_goals(apply_rules (newGoals := .nonDependentOnly) (maxDepth:=1) only[kE];trivial)):G:=h
theorem qz25 (h:G:=by
 refine' qzg;refine(P3.out _).mono ?_
 all_goals(apply_rules (newGoals := .nonDependentOnly) (maxDepth:=1) only[kE];trivial)):G:=h
theorem qz26 (h:G:=by
 refine' qz0;refine H.tk (i:=4) (v := .int .i64 p.2.2) ?h4x4 hS ?_
 case h4x4=>exact(fun w hw=>by go_simp)
 all_goals(apply_rules (newGoals := .nonDependentOnly) (maxDepth:=1) only[kE];trivial)):G:=h
theorem qz27 (h:G:=by
 refine wp_store_row 74 _ _ rfl (w.heap.size+1+1) (Kx.cells c) rfl rfl 74 Kx.zero.cells R0.out infoX rfl (oneX _) ?_
 refine hK.out _ _ (hS.row (by omega) _) ?_
 all_goals(apply_rules (newGoals := .nonDependentOnly) (maxDepth:=1) only[kE];trivial)):G:=h
theorem qz28 (h:G:=by
 refine' qz0;refine H.tk (i:=2) (v := .bool p.2.1) ?h2x3 hS ?_
 case h2x3=>exact(fun w hw=>by go_simp)
 all_goals(apply_rules (newGoals := .nonDependentOnly) (maxDepth:=1) only[kE];trivial)):G:=h
theorem qz29 (h:G:=by
 refine wp_store_row 74 _ _ rfl (w.heap.size+1+1) c.cells rfl rfl 74 Kx.zero.cells R0.out infoX rfl (oneX c) ?_
 refine hK.out _ _ ⟨hS.1.row (by omega) _,Bx.row hS.2 (by omega) _⟩ ?_
 all_goals(apply_rules (newGoals := .nonDependentOnly) (maxDepth:=1) only[kE];trivial)):G:=h
theorem qz2a (h:G:=by
 have D:=Lib.hid (D.out.call hb);have R0:=Lib.hid (R0.out.below hb)
 all_goals(apply_rules (newGoals := .nonDependentOnly) (maxDepth:=1) only[kE];trivial)):G:=h
theorem qz2b (h:G:=by
 go_upto_region 6 with(refine s0f (b:=w3.heap.size) rfl _ _ rfl rfl En.zero sa sc (m:=En.zero) (sa0:=none) (sc0:=0) rfl (Bk.Bk.new 217 w3 (cellsN En.zero none 0)) ?_)
 change Code.wp _ _ _ _ ((w3.alloc (.cells (cellsN En.zero none 0) 217)).setRow w3.heap.size (cellsN En.zero sa sc))
 all_goals(apply_rules (newGoals := .nonDependentOnly) (maxDepth:=1) only[kE];trivial)):G:=h
theorem qz2c (h:G:=by
 refine' qz0
 refine wpAnyH_ready (rs:=[3]) (by kernel_rfl) (by simp) ?_
 all_goals(apply_rules (newGoals := .nonDependentOnly) (maxDepth:=1) only[kE];trivial)):G:=h
theorem qz2d (h:G:=by
 go_wp2_with (first|(refine d0a rfl 29 _ rfl (M.cells M.zero) (by kernel_rfl) ?_)|(refine e0a (b:=w.heap.size) (m:=M.zero) (m':=M.zero) rfl _ _ rfl rfl rfl R0.out ?_))
 all_goals(apply_rules (newGoals := .nonDependentOnly) (maxDepth:=1) only[kE];trivial)):G:=h
theorem qz2e (h:G:=by
 refine' qz2d;exact bodyPost_ret (v := .tuple #[.agg (M.cells M.zero),.int .i64 1,.int .i64 5]) (ret3 rfl _ _ w.heap.size M.zero rfl (R0.out.put (m':=M.zero)) (.int .i64 1) rfl (.int .i64 5) rfl) rfl (AnsH.mk' HY.out (below_setRow bel.out (Nat.le_refl _) _))
 all_goals(apply_rules (newGoals := .nonDependentOnly) (maxDepth:=1) only[kE];trivial)):G:=h
theorem qz2f (h:G:=by
 go_in
 go_upto_region 1 with fail
 generalize w.alloc (.cells m.cells 29)=V at *
 all_goals(apply_rules (newGoals := .nonDependentOnly) (maxDepth:=1) only[kE];trivial)):G:=h
theorem qz2g (h:G:=by
 rintro r w' ⟨rfl,rfl⟩
 all_goals(apply_rules (newGoals := .nonDependentOnly) (maxDepth:=1) only[kE];trivial)):G:=h
theorem qz2h (h:G:=by
 refine' qzh;refine' qz2g
 all_goals(apply_rules (newGoals := .nonDependentOnly) (maxDepth:=1) only[kE];trivial)):G:=h
theorem qz2i (h:G:=by
 clear hS8;refine' qz0
 all_goals(apply_rules (newGoals := .nonDependentOnly) (maxDepth:=1) only[kE];trivial)):G:=h
theorem qz2j (h:G:=by
 go_wp2_with (first|(refine s0b (b:=w.heap.size+1+1) (m:=Kx.zero) (m':=q.1) rfl _ _ rfl rfl rfl D.out.r0 ?_))
 exact bodyPost_ret (v := .tuple #[.agg (Kx.cells q.1),.slice qa l.length qk,.int .i64 q.2.2]) (t0a rfl _ _ (w.heap.size+1+1) _ rfl (loadVarK shX (D.out.r0.put (Kx.cells q.1)) rfl) (.slice qa l.length qk) rfl (.int .i64 q.2.2) rfl) rfl (AnsC.on hp hm D.out.bel (by omega) (by omega))
 all_goals(apply_rules (newGoals := .nonDependentOnly) (maxDepth:=1) only[kE];trivial)):G:=h
theorem qz2k (h:G:=by
 rintro e w' ⟨rfl,rfl⟩
 all_goals(apply_rules (newGoals := .nonDependentOnly) (maxDepth:=1) only[kE];trivial)):G:=h
theorem qz2l (h:G:=by
 refine(PA.out _).mono ?_;refine' qz2k
 all_goals(apply_rules (newGoals := .nonDependentOnly) (maxDepth:=1) only[kE];trivial)):G:=h
theorem qz2m (h:G:=by
 refine' qz2f;have c0:=HF.out.m.cs.c0
 all_goals(apply_rules (newGoals := .nonDependentOnly) (maxDepth:=1) only[kE];trivial)):G:=h
theorem qz2n (h:G:=by
 refine H.tk (i:=2) (v:=?v2) ?h2 hS ?_
 case h2=>(intro w hw;go_simp;first|done|(with_reducible rfl))
 refine' qz0
 all_goals(apply_rules (newGoals := .nonDependentOnly) (maxDepth:=1) only[kE];trivial)):G:=h
theorem qz2o (h:G:=by
 go_wp2_with (first|(refine f0b (b:=w.heap.size+1+1) (c:=Kx.zero) (c':=p.1) (v:=nilV) (q:=qa) (n:=qn) (k:=qk) rfl _ _ rfl rfl rfl R0.out ?_))
 exact bodyPost_ret (v := .tuple #[.agg (stC p.1 (.slice qa qn qk)),.int .i64 p.2.2]) (m0a rfl _ _ (w.heap.size+1+1) _ rfl (loadVarK shS (R0.out.put (stC p.1 (.slice qa qn qk))) rfl) (.int .i64 p.2.2) rfl) rfl HA.out
 all_goals(apply_rules (newGoals := .nonDependentOnly) (maxDepth:=1) only[kE];trivial)):G:=h
theorem qz2p (h:G:=by
 rintro e w1 ⟨rfl,rfl⟩
 all_goals(apply_rules (newGoals := .nonDependentOnly) (maxDepth:=1) only[kE];trivial)):G:=h
theorem qz2q (h:G:=by
 refine' qzh;refine' qz2p
 all_goals(apply_rules (newGoals := .nonDependentOnly) (maxDepth:=1) only[kE];trivial)):G:=h
theorem qz2r (h:G:=by
 have hS:=And.intro (hS.1.row (g:=w.heap.size+1+1) (by omega) c.cells) (Bx.row hS.2 (g:=w.heap.size+1+1) (by omega) c.cells)
 try simp only[Act.put]
 all_goals(apply_rules (newGoals := .nonDependentOnly) (maxDepth:=1) only[kE];trivial)):G:=h
theorem qz2s (h:G:=by
 try simp only[Act.put]
 refine H.tk (i:=4) (v:=(Value.int IntKind.i64 0)) (fun w _=>rfl) hS ?_
 all_goals(apply_rules (newGoals := .nonDependentOnly) (maxDepth:=1) only[kE];trivial)):G:=h
theorem qz2t (h:G:=by
 go_wp2_with (first|(refine Bk.f0a (b:=w.heap.size+1) Tl.shT rfl _ rfl rfl D.out.t0 rfl ?_))
 refine(P1.out _ (HT.out.below D.out.bel)).mono ?_
 all_goals(apply_rules (newGoals := .nonDependentOnly) (maxDepth:=1) only[kE];trivial)):G:=h
theorem qz2u (h:G:=by
 go_upto_region 2 with(first|(refine d0a rfl 29 _ rfl (M.cells { M.zero with kind:=11,ae:=u.ae,pfx:=a,plen:=u.plen,interval:=u.iv,seq:=u.seq,metric:=u.metric,sa:=u.sa,sl:=u.sl,sc:=u.sc}) (by kernel_rfl) ?_)|(refine e0a (b:=W.heap.size) (m:=M.zero) (m':={ M.zero with kind:=11,ae:=u.ae,pfx:=a,plen:=u.plen,interval:=u.iv,seq:=u.seq,metric:=u.metric,sa:=u.sa,sl:=u.sl,sc:=u.sc}) rfl _ _ rfl rfl rfl (Bx.new W M.zero) ?_))
 change Code.wp _ _ _ _ ((W.alloc (.cells M.zero.cells 29)).setRow W.heap.size (M.cells { M.zero with kind:=11,ae:=u.ae,pfx:=a,plen:=u.plen,interval:=u.iv,seq:=u.seq,metric:=u.metric,sa:=u.sa,sl:=u.sl,sc:=u.sc}))
 all_goals(apply_rules (newGoals := .nonDependentOnly) (maxDepth:=1) only[kE];trivial)):G:=h
theorem qz2v (h:G:=by
 refine' qz0
 refine wpAnyH_ready (rs:=[10]) (by kernel_rfl) (by simp) ?_
 all_goals(apply_rules (newGoals := .nonDependentOnly) (maxDepth:=1) only[kE];trivial)):G:=h
theorem qz2w (h:G:=by
 go_wp2;go_ret2
 all_goals(apply_rules (newGoals := .nonDependentOnly) (maxDepth:=1) only[kE];trivial)):G:=h
theorem qz2x (h:G:=by
 refine' qzj;exact⟨rfl,rfl⟩
 all_goals(apply_rules (newGoals := .nonDependentOnly) (maxDepth:=1) only[kE];trivial)):G:=h
theorem qz2y (h:G:=by
 have hzV:V.heap.size≤V6.drew.heap.size:=by show V.heap.size≤V6.heap.size;omega
 have hg2:w.heap.size+1+1<w1.heap.size:=by omega
 all_goals(apply_rules (newGoals := .nonDependentOnly) (maxDepth:=1) only[kE];trivial)):G:=h
theorem qz2z (h:G:=by
 refine⟨h.1,?_⟩
 rcases h.2 with h|⟨k,cap,cur,a,b,c,d⟩
 · exact .inl h
 · exact .inr ⟨k,cap,cur,a,b,(setRow_other w g k cs (by omega)).trans c,d⟩
 all_goals(apply_rules (newGoals := .nonDependentOnly) (maxDepth:=1) only[kE];trivial)):G:=h
theorem qz30 (h:G:=by
 have hp':tmps[p]?.getD undef = .pointer (some ⟨g,0,none⟩):=by simpa using hp
 have hv':tmps[q]?.getD undef=v:=by simpa using hv
 all_goals(apply_rules (newGoals := .nonDependentOnly) (maxDepth:=1) only[kE];trivial)):G:=h
theorem qz31 (h:G:=by
 refine' qz17;have HL:=Lib.hid (HL.out.below (Below.refl _ V).drew)
 all_goals(apply_rules (newGoals := .nonDependentOnly) (maxDepth:=1) only[kE];trivial)):G:=h
theorem qz32 (h:G:=by
 refine' qzj;exact⟨g0a HK.out.symm,rfl⟩
 all_goals(apply_rules (newGoals := .nonDependentOnly) (maxDepth:=1) only[kE];trivial)):G:=h
theorem qz33 (h:G:=by
 rw[World.setRow_alloc_new]
 all_goals(apply_rules (newGoals := .nonDependentOnly) (maxDepth:=1) only[kE];trivial)):G:=h
theorem qz34 (h:G:=by
 change Code.wp _ _ _ _ ((w1.alloc (.cells M.zero.cells 29)).setRow w1.heap.size n.cells);refine' qz33
 all_goals(apply_rules (newGoals := .nonDependentOnly) (maxDepth:=1) only[kE];trivial)):G:=h
theorem qz35 (h:G:=by
 go_wp2_with (first|(refine j0a (b:=g) (m:={ r with sa:=a,sl:=l,sc:=c}) rfl _ rfl rfl X4.out ?_)|(refine e0a (b:=w.heap.size) (m:=M.zero) (m':={ r with sa:=a,sl:=l,sc:=c}) rfl _ _ rfl rfl rfl R4.out ?_))
 exact bodyPost_ret (v := .tuple #[.agg (M.cells { r with sa:=a,sl:=l,sc:=c}),.int .i64 0,.int .i64 0]) (ret3 rfl _ _ w.heap.size { r with sa:=a,sl:=l,sc:=c} rfl (R4.out.put (m':={ r with sa:=a,sl:=l,sc:=c})) (.int .i64 0) rfl (.int .i64 0) rfl) rfl (AnsM.subs HY.out HR.out.1 HR.out.2.1 HR.out.2.2 (f0c HL.out (by omega) _) (by omega) (below_setRow bel4.out (Nat.le_refl _) _))
 all_goals(apply_rules (newGoals := .nonDependentOnly) (maxDepth:=1) only[kE];trivial)):G:=h
theorem qz36 (h:G:=by
 change Code.wp _ _ _ _ ((w.alloc (.cells (stC c nilV) 211)).alloc (.cells u.cells 223));generalize (w.alloc (.cells (stC c nilV) 211)).alloc (.cells u.cells 223)=W at *
 all_goals(apply_rules (newGoals := .nonDependentOnly) (maxDepth:=1) only[kE];trivial)):G:=h
theorem qz37 (h:G:=by
 have R1:=Lib.hid (R0.out.below hb);have bel1:=Lib.hid (bcall bel.out hb)
 all_goals(apply_rules (newGoals := .nonDependentOnly) (maxDepth:=1) only[kE];trivial)):G:=h
theorem qz38 (h:G:=by
 refine' qzg
 exact bodyPost_ret (v := .tuple #[.slice none 0 0,.agg (Kx.cells c),.int .i64 0]) (l0c (ty:=74) rfl _ _ (w.heap.size+1+1) (.agg (Kx.cells c)) (.slice none 0 0) rfl rfl (loadVarK shX (R0.out.put (Kx.cells c)) rfl) (.int .i64 0) rfl) rfl (AnsW.no HY.out (Box.below_setRow HB.out (by omega) _))
 all_goals(apply_rules (newGoals := .nonDependentOnly) (maxDepth:=1) only[kE];trivial)):G:=h
theorem qz39 (h:G:=by
 refine' qz1p;refine(P1.out _ HF.out.i).mono ?_
 all_goals(apply_rules (newGoals := .nonDependentOnly) (maxDepth:=1) only[kE];trivial)):G:=h
theorem qz3a (h:G:=by
 clear hb c0 c5 c6 c7 c24;have c0:=HF.out.m.cs.c0
 all_goals(apply_rules (newGoals := .nonDependentOnly) (maxDepth:=1) only[kE];trivial)):G:=h
theorem qz3b (h:G:=by
 clear hK K
 have hS:=(show Bk 74 (Z0.setRow (w.heap.size+1+1) (Kx.cells c)) w.heap.size (Kx.cells c)from hS.row (by omega) _)
 all_goals(apply_rules (newGoals := .nonDependentOnly) (maxDepth:=1) only[kE];trivial)):G:=h
theorem qz3c (h:G:=by
 obtain rfl:er=0:=by
  by_cases h:er=0
  · exact h
  · have:=he (by rw[hf];exact h)
    rw[hf]at this;cases this
 have HY:=Lib.hid (show out7 c d=(c.setN (fam (bt d 0)) (hopA (bt d 0) d),[],0) by unfold out7;rw[if_neg hz,if_neg (by rw[e];exact hn),hsz,hf,if_pos ⟨rfl,rfl⟩])
 all_goals(apply_rules (newGoals := .nonDependentOnly) (maxDepth:=1) only[kE];trivial)):G:=h
theorem qz3d (h:G:=by
 refine g1m (by decide) Tryz.underlying3 rfl rfl ?_
 all_goals(apply_rules (newGoals := .nonDependentOnly) (maxDepth:=1) only[kE];trivial)):G:=h
theorem qz3e (h:G:=by
 refine' qz3d
 refine c0u (by decide) Tryz.underlying9 rfl rfl ?_
 all_goals(apply_rules (newGoals := .nonDependentOnly) (maxDepth:=1) only[kE];trivial)):G:=h
theorem qz3f (h:G:=by
 refine⟨h.1,?_⟩
 rcases h.2 with h|⟨k,cap,cur,a,b,c,d⟩
 · exact .inl h
 · exact .inr ⟨k,cap,cur,a,Nat.le_trans hB b,c,d⟩
 all_goals(apply_rules (newGoals := .nonDependentOnly) (maxDepth:=1) only[kE];trivial)):G:=h
theorem qz3g (h:G:=by
 refine' qz18
 refine wp_region_held_drew (S:=fun X=>Bk 74 X w.heap.size (Kx.cells c)) (by kernel_rfl) (D.out.s0) (fun hS=>?_)
 all_goals(apply_rules (newGoals := .nonDependentOnly) (maxDepth:=1) only[kE];trivial)):G:=h
theorem qz3h (h:G:=by
 have c19:=HF.out.m.cs.c19;have c20:=HF.out.m.cs.c20
 all_goals(apply_rules (newGoals := .nonDependentOnly) (maxDepth:=1) only[kE];trivial)):G:=h
theorem qz3i (h:G:=by
 clear k;refine' qz1p
 all_goals(apply_rules (newGoals := .nonDependentOnly) (maxDepth:=1) only[kE];trivial)):G:=h
theorem qz3j (h:G:=by
 go_ret;exact⟨g0a HY.out.symm,HF.out.bel⟩
 all_goals(apply_rules (newGoals := .nonDependentOnly) (maxDepth:=1) only[kE];trivial)):G:=h
theorem qz3k (h:G:=by
 go_wp2_with (first|(refine n0b (b:=w.heap.size) (c:=({ c with n1:=eb}:Kx)) (v:=nilV) rfl _ rfl rfl S0.out ?_)|(refine f0b (b:=w.heap.size+1) (c:=Kx.zero) (c':=({ c with n1:=eb}:Kx)) (v:=nilV) (q:=none) (n:=0) (k:=0) rfl _ _ rfl rfl rfl R0.out ?_))
 exact bodyPost_ret (v := .tuple #[.agg (stC ({ c with n1:=eb}:Kx) nilV),.int .i64 0]) (m0a rfl _ _ (w.heap.size+1) _ rfl (loadVarK shS (R0.out.put (stC ({ c with n1:=eb}:Kx) nilV)) rfl) (.int .i64 0) rfl) rfl (AnsSt.no HY.out (Box.below_setRow HB.out (by omega) _))
 all_goals(apply_rules (newGoals := .nonDependentOnly) (maxDepth:=1) only[kE];trivial)):G:=h
theorem qz3l (h:G:=by
 rintro e X1 ⟨qa,qk,l2,rfl,hl2,hm,hb⟩;refine hK.out _ _ ⟨hS.1.below hb,hS.2.below hb⟩ ?_
 all_goals(apply_rules (newGoals := .nonDependentOnly) (maxDepth:=1) only[kE];trivial)):G:=h
theorem qz3m (h:G:=by
 clear hS3;refine' qz0
 all_goals(apply_rules (newGoals := .nonDependentOnly) (maxDepth:=1) only[kE];trivial)):G:=h
theorem qz3n (h:G:=by
 generalize w.alloc (.cells M.zero.cells 29)=W at *;refine' qzg
 all_goals(apply_rules (newGoals := .nonDependentOnly) (maxDepth:=1) only[kE];trivial)):G:=h
theorem qz3o (h:G:=by
 have hz3:=R0.out.lt
 go_upto_region 9 with(first|(refine j0c rfl _ rfl (s:=x1) rfl ?_)|(at_builtin;refine f0d rfl _ _ rfl (w.heap.size+1+1+1) _ [] x1 w1.heap.size 1 rfl HL.out rfl (z0a x1 w1) ?cl9 ?cb9 ?_))
 case cl9=>exact Nat.zero_le _
 case cb9=>omega
 all_goals(apply_rules (newGoals := .nonDependentOnly) (maxDepth:=1) only[kE];trivial)):G:=h
theorem qz3p (h:G:=by
 have hz:=b0a w (.cells M.zero.cells 29);have HB:=Lib.hid (balloc (Below.refl _ w) (.cells M.zero.cells 29))
 all_goals(apply_rules (newGoals := .nonDependentOnly) (maxDepth:=1) only[kE];trivial)):G:=h
theorem qz3q (h:G:=by
 refine' qzj;exact⟨g0a HK.out.symm,HF.out.bel⟩
 all_goals(apply_rules (newGoals := .nonDependentOnly) (maxDepth:=1) only[kE];trivial)):G:=h
theorem qz3r (h:G:=by
 rintro r w1 ⟨rfl,hb⟩;refine' qzq
 all_goals(apply_rules (newGoals := .nonDependentOnly) (maxDepth:=1) only[kE];trivial)):G:=h
theorem qz3s (h:G:=by
 intro k
 induction k with
 | zero=>rw[x1c,Nat.mod_one];rfl
 | succ k ih=>
  rw[be,f0i,ih,j0d,y1c,Nat.mod_mul]
  show _*pw k+_=_
  have:(UInt8.ofNat (n / pw k)).toNat=n / pw k%256:=by simp
  rw[this,Nat.mul_comm,Nat.add_comm]
 all_goals(apply_rules (newGoals := .nonDependentOnly) (maxDepth:=1) only[kE];trivial)):G:=h
theorem qz3t (h:G:=by
 rw[add_one]at c1 d1;by_cases he:u=v
 · have g2:elE u v=true:=by simp[elE,he]
   have HE:=Lib.hid he;clear he;go_wp2;go_quiet (fail);go_wp2;go_roundw
   case rel=>exact⟨k+1,hlt,by go_num,Lib.hid (HS.out HE.out),Lib.hid (below_drewN HB.out _)⟩
   case measure=>simp[intOf];omega
 · have g2:elE u v=false:=by simp[elE,he]
   have HE:=Lib.hid he;clear he;go_wp2;go_quiet (fail);refine' qzj
   exact⟨g0a (by simp;intro h;exact HE.out (HD.out h)),below_drewN HB.out _⟩
 all_goals(apply_rules (newGoals := .nonDependentOnly) (maxDepth:=1) only[kE];trivial)):G:=h
theorem qz3u (h:G:=by
 have c0:=U0.out.cell 0 (.int .i64 u.ae) rfl;have c1:=U0.out.cell 1 (.int .i64 u.flags) rfl
 all_goals(apply_rules (newGoals := .nonDependentOnly) (maxDepth:=1) only[kE];trivial)):G:=h
theorem qz3v (h:G:=by
 go_in
 go_wp2_with (first|(refine f0a shC rfl _ rfl rfl HB.out rfl ?_))
 all_goals(apply_rules (newGoals := .nonDependentOnly) (maxDepth:=1) only[kE];trivial)):G:=h
theorem qz3w (h:G:=by
 change Code.wp _ _ _ _ (((w.alloc (.cells c.cells 74)).alloc (.cells m.cells 29)).alloc (.cells Kx.zero.cells 74));have D:=Lib.hid ((Us.start w c m hm).call (balloc (Below.refl _ _) (.cells Kx.zero.cells 74)));have R0:=Lib.hid (l1o w c m)
 all_goals(apply_rules (newGoals := .nonDependentOnly) (maxDepth:=1) only[kE];trivial)):G:=h
theorem qz3x (h:G:=by
 refine H.tk (i:=6) (v := .slice qa l2.length qk) ?h6x5 hS ?_
 case h6x5=>exact(fun w hw=>by go_simp)
 refine' qz0;refine H.tk (i:=7) (v := .int .i64 p.2.2) ?h7x6 hS ?_
 case h7x6=>exact(fun w hw=>by go_simp)
 all_goals(apply_rules (newGoals := .nonDependentOnly) (maxDepth:=1) only[kE];trivial)):G:=h
theorem qz3y (h:G:=by
 have D:=Lib.hid (D.out.under hb (by omega))
 have R0:=Lib.hid (R0.out.under hb (by omega))
 all_goals(apply_rules (newGoals := .nonDependentOnly) (maxDepth:=1) only[kE];trivial)):G:=h
theorem qz3z (h:G:=by
 change Code.wp _ _ _ _ (((w.alloc (.cells (stC c nilV) 211)).alloc (.cells (cellsT (a,(d,8))) 110)).alloc (.cells (stC Kx.zero nilV) 211));have S0:=Lib.hid (((Bk.Bk.new 211 w (stC c nilV)).old (.cells (cellsT (a,(d,8))) 110)).old (.cells (stC Kx.zero nilV) 211))
 all_goals(apply_rules (newGoals := .nonDependentOnly) (maxDepth:=1) only[kE];trivial)):G:=h
theorem qz40 (h:G:=by
 have HF:=Lib.hid (Fs.new w m hm)
 all_goals(apply_rules (newGoals := .nonDependentOnly) (maxDepth:=1) only[kE];trivial)):G:=h
theorem qz41 (h:G:=by
 refine' qz40;have HM:=Lib.hid (ht.below (balloc (Below.refl _ w) (.cells m.cells 29)))
 all_goals(apply_rules (newGoals := .nonDependentOnly) (maxDepth:=1) only[kE];trivial)):G:=h
theorem qz42 (h:G:=by
 have hV1:=HB.out.size
 have HB:=Lib.hid (HB.out.trans (hbel.to (C:=w.heap.size) (by omega) (by omega)))
 all_goals(apply_rules (newGoals := .nonDependentOnly) (maxDepth:=1) only[kE];trivial)):G:=h
theorem qz43 (h:G:=by
 rintro e w8 ⟨rfl,hS8⟩
 refine hK.out _ _ hS8 (fun _=>?_)
 all_goals(apply_rules (newGoals := .nonDependentOnly) (maxDepth:=1) only[kE];trivial)):G:=h
theorem qz44 (h:G:=by
 generalize w.alloc (.cells (cellsN En.zero none 0) 217)=W at *;have c3:=R0.out.cell 3 (.bool false) rfl
 all_goals(apply_rules (newGoals := .nonDependentOnly) (maxDepth:=1) only[kE];trivial)):G:=h
theorem qz45 (h:G:=by
 refine' qz1p;refine(PP.out _ HF.out.i).mono ?_
 all_goals(apply_rules (newGoals := .nonDependentOnly) (maxDepth:=1) only[kE];trivial)):G:=h
theorem qz46 (h:G:=by
 refine' qzj;exact⟨int_eq HZ.out.symm,bel⟩
 all_goals(apply_rules (newGoals := .nonDependentOnly) (maxDepth:=1) only[kE];trivial)):G:=h
theorem qz47 (h:G:=by
 refine(P.out _).mono ?_;refine' qz2k
 all_goals(apply_rules (newGoals := .nonDependentOnly) (maxDepth:=1) only[kE];trivial)):G:=h
theorem qz48 (h:G:=by
 refine H.one (i:=4) (by simp only[List.getElem?_toArray,List.getElem?_cons_succ,List.getElem?_cons_zero];rfl) (by kernel_rfl) (by kernel_rfl) (fun K hK=>?_)
 all_goals(apply_rules (newGoals := .nonDependentOnly) (maxDepth:=1) only[kE];trivial)):G:=h
theorem qz49 (h:G:=by
 refine' qzy;refine' qz48
 all_goals(apply_rules (newGoals := .nonDependentOnly) (maxDepth:=1) only[kE];trivial)):G:=h
theorem qz4a (h:G:=by
 refine H.one (i:=9) (by simp only[List.getElem?_toArray,List.getElem?_cons_succ,List.getElem?_cons_zero];rfl) (by kernel_rfl) (by kernel_rfl) (fun K hK=>?_)
 go_simp
 all_goals(apply_rules (newGoals := .nonDependentOnly) (maxDepth:=1) only[kE];trivial)):G:=h
theorem qz4b (h:G:=by
 rintro e w2 ⟨rfl,hb⟩
 all_goals(apply_rules (newGoals := .nonDependentOnly) (maxDepth:=1) only[kE];trivial)):G:=h
theorem qz4c (h:G:=by
 refine' qz4b;have bel:=bcall bel hb
 all_goals(apply_rules (newGoals := .nonDependentOnly) (maxDepth:=1) only[kE];trivial)):G:=h
theorem qz4d (h:G:=by
 have R0:=Lib.hid (R0.out.off (p:=⟨w.heap.size,6,none⟩) (by show w.heap.size+1+1≠w.heap.size;omega) (.string m.id))
 have HL:=Lib.hid (HL.out.cellset (p:=⟨w.heap.size,6,none⟩) (by show w.heap.size<_;omega) (.string m.id))
 all_goals(apply_rules (newGoals := .nonDependentOnly) (maxDepth:=1) only[kE];trivial)):G:=h
theorem qz4e (h:G:=by
 refine' qz2w;exact⟨t0b HZ.out,rfl⟩
 all_goals(apply_rules (newGoals := .nonDependentOnly) (maxDepth:=1) only[kE];trivial)):G:=h
theorem qz4f (h:G:=by
 refine' qzb;have HL:=Lib.hid (HL.out.below bel)
 all_goals(apply_rules (newGoals := .nonDependentOnly) (maxDepth:=1) only[kE];trivial)):G:=h
theorem qz4g (h:G:=by
 go_wp2_with (first|(refine t0c (b:=w.heap.size) (m:=c) rfl _ rfl rfl D.out.s0 ?_)|(refine s0b (b:=w.heap.size+1+1) (m:=Kx.zero) (m':=c) rfl _ _ rfl rfl rfl D.out.r0 ?_))
 exact bodyPost_ret (v := .tuple #[.agg (Kx.cells c),.slice none 0 0,.int .i64 0]) (t0a rfl _ _ (w.heap.size+1+1) _ rfl (loadVarK shX (D.out.r0.put (Kx.cells c)) rfl) (.slice none 0 0) rfl (.int .i64 0) rfl) rfl (AnsC.no HY.out (Box.below_setRow D.out.bel (by omega) _))
 all_goals(apply_rules (newGoals := .nonDependentOnly) (maxDepth:=1) only[kE];trivial)):G:=h
theorem qz4h (h:G:=by
 have i0:=D.out.s0.cell 6 (.string c.id) rfl;have HL:=Lib.hid (Lst.nil (w.heap.size+1+1+1) V)
 all_goals(apply_rules (newGoals := .nonDependentOnly) (maxDepth:=1) only[kE];trivial)):G:=h
theorem qz4i (h:G:=by
 have D:=Lib.hid (D.out.call bel)
 all_goals(apply_rules (newGoals := .nonDependentOnly) (maxDepth:=1) only[kE];trivial)):G:=h
theorem qz4j (h:G:=by
 have bel:=balloc (Below.refl w1.heap.size w1) (.cells n.cells 29);refine' qz4i
 all_goals(apply_rules (newGoals := .nonDependentOnly) (maxDepth:=1) only[kE];trivial)):G:=h
theorem qz4k (h:G:=by
 rintro e w1 ⟨qa,qc,rfl,hl,hb⟩;have S0:=Lib.hid (S0.out.below hb)
 all_goals(apply_rules (newGoals := .nonDependentOnly) (maxDepth:=1) only[kE];trivial)):G:=h
theorem qz4l (h:G:=by
 obtain⟨i0,hi,hz0,hz1,hz2⟩:=info_parts l0w
 all_goals(apply_rules (newGoals := .nonDependentOnly) (maxDepth:=1) only[kE];trivial)):G:=h
theorem qz4m (h:G:=by
 refine' qz4l
 refine Lib.wpList_append_own_string w hgd s x 96 9 ho B 5 i0 Tryz.underlying96 Tryz.underlying9 hi hz0 hz1 hz2 v bs.length (cellsL bs) hs hown t hx (by unfold maxLen;omega) (by omega) hB ?_
 all_goals(apply_rules (newGoals := .nonDependentOnly) (maxDepth:=1) only[kE];trivial)):G:=h
theorem qz4n (h:G:=by
 have HB:=Lib.hid hb
 all_goals(apply_rules (newGoals := .nonDependentOnly) (maxDepth:=1) only[kE];trivial)):G:=h
theorem qz4o (h:G:=by
 have HQ:=Lib.hid (show cu s (nx s k p) = #[.string s,.int .i64 ((nx s k p).1:Int),.int .i64 (s.size:Int),.bool (nx s k p).2]from rfl)
 refine' qz4n
 all_goals(apply_rules (newGoals := .nonDependentOnly) (maxDepth:=1) only[kE];trivial)):G:=h
theorem qz4p (h:G:=by
 go_wp2_with (first|(refine d0a rfl 217 _ rfl (cellsN En.zero none 0) (by kernel_rfl) ?_)|(refine s0f (b:=w.heap.size) rfl _ _ rfl rfl En.zero none 0 (m:=En.zero) rfl X0.out ?_))
 all_goals(apply_rules (newGoals := .nonDependentOnly) (maxDepth:=1) only[kE];trivial)):G:=h
theorem qz4q (h:G:=by
 refine' qz4p;exact bodyPost_ret (v := .tuple #[.agg (cellsN En.zero none 0),.bool false,.int .i64 2]) (t0a rfl _ _ w.heap.size _ rfl (loadVarK shN (X0.out.put (cellsN En.zero none 0)) rfl) (.bool false) rfl (.int .i64 2) rfl) rfl (AnsE.no HY.out (HL.out.row (Nat.le_refl _) _))
 all_goals(apply_rules (newGoals := .nonDependentOnly) (maxDepth:=1) only[kE];trivial)):G:=h
theorem qz4r (h:G:=by
 refine' qz4p;exact bodyPost_ret (v := .tuple #[.agg (cellsN En.zero none 0),.bool false,.int .i64 6]) (t0a rfl _ _ w.heap.size _ rfl (loadVarK shN (X0.out.put (cellsN En.zero none 0)) rfl) (.bool false) rfl (.int .i64 6) rfl) rfl (AnsE.no HY.out (HL.out.row (Nat.le_refl _) _))
 all_goals(apply_rules (newGoals := .nonDependentOnly) (maxDepth:=1) only[kE];trivial)):G:=h
theorem qz4s (h:G:=by
 have hlt1:=HB1.out.lt
 go_wp2_with (first|(refine a0a (b:=b) shC rfl _ _ rfl rfl rfl (HB1.out.old _) rfl rfl (w0a s (q.1:Int) s.size q.2) ?_))
 all_goals(apply_rules (newGoals := .nonDependentOnly) (maxDepth:=1) only[kE];trivial)):G:=h
theorem qz4t (h:G:=by
 clear c10 hm hm2
 refine wp_region_held_drew (S:=fun W=>Bx W w.heap.size m∧Below w.heap.size w W) (by kernel_rfl) ⟨B0.out,HB.out.drew⟩ (fun hS=>?_)
 all_goals(apply_rules (newGoals := .nonDependentOnly) (maxDepth:=1) only[kE];trivial)):G:=h
theorem qz4u (h:G:=by
 refine' qzg
 exact bodyPost_ret (v := .tuple #[.slice qa ls.length qk,.agg (Kx.cells ({ c with id:=m.id})),.int .i64 0]) (l0c (ty:=74) rfl _ _ (w.heap.size+1+1) (.agg (Kx.cells ({ c with id:=m.id}))) (.slice qa ls.length qk) rfl rfl (loadVarK shX (R0.out.put (Kx.cells ({ c with id:=m.id}))) rfl) (.int .i64 0) rfl) rfl (by rw[HY.out];exact⟨qa,qk,rfl,(HL.out.under (by omega) _).mono (by omega),Box.below_setRow HB.out (by omega) _⟩)
 all_goals(apply_rules (newGoals := .nonDependentOnly) (maxDepth:=1) only[kE];trivial)):G:=h
theorem qz4v (h:G:=by
 refine' qz2d;exact bodyPost_ret (v := .tuple #[.agg (M.cells M.zero),.int .i64 (s.size:Int),.int .i64 2]) (ret3 rfl _ _ w.heap.size M.zero rfl (R0.out.put (m':=M.zero)) (.int .i64 (s.size:Int)) rfl (.int .i64 2) rfl) rfl (AnsH.mk' HY.out (below_setRow bel.out (Nat.le_refl _) _))
 all_goals(apply_rules (newGoals := .nonDependentOnly) (maxDepth:=1) only[kE];trivial)):G:=h
theorem qz4w (h:G:=by
 rintro r V' hlaid;refine' qz1b
 all_goals(apply_rules (newGoals := .nonDependentOnly) (maxDepth:=1) only[kE];trivial)):G:=h
theorem qz4x (h:G:=by
 have c5:=HU.out.m.cs.c5;have c7:=HU.out.m.cs.c7
 all_goals(apply_rules (newGoals := .nonDependentOnly) (maxDepth:=1) only[kE];trivial)):G:=h
theorem qz4y (h:G:=by
 go_wp2_with (first|(refine t0c (b:=w.heap.size) (m:=c) rfl _ rfl rfl D.out.s0 ?_)|(refine Bk.f0a (b:=w.heap.size+1) Tl.shT rfl _ rfl rfl D.out.t0 rfl ?_))
 refine(P1.out _ (HT.out.below D.out.bel)).mono ?_
 all_goals(apply_rules (newGoals := .nonDependentOnly) (maxDepth:=1) only[kE];trivial)):G:=h
theorem qz4z (h:G:=by
 go_wp2_with (first|(refine d0a rfl 50 _ rfl (cellsS zeroS) (by kernel_rfl) ?_)|(refine a0a (b:=w.heap.size) shS rfl _ _ rfl rfl rfl B0.out rfl rfl (oneS zeroS) ?_))
 exact bodyPost_ret (v := .tuple #[.agg (cellsS zeroS),.string ⟨#[]⟩,.bool false]) (t0a (ty:=50) rfl _ _ w.heap.size (.agg (cellsS zeroS)) rfl (loadVarK shS (B0.out.put (cellsS zeroS)) rfl) (.string ⟨#[]⟩) rfl (.bool false) rfl) rfl ⟨rfl,hb.out⟩
 all_goals(apply_rules (newGoals := .nonDependentOnly) (maxDepth:=1) only[kE];trivial)):G:=h
theorem qz50 (h:G:=by
 refine' qz4b;refine' qz6
 all_goals(apply_rules (newGoals := .nonDependentOnly) (maxDepth:=1) only[kE];trivial)):G:=h
theorem qz51 (h:G:=by
 have c2:=T0.out.cell 2 (.string d) rfl
 go_wp2_with (first|(refine n0b (b:=w.heap.size) (c:=c) (v:=nilV) rfl _ rfl rfl S0.out ?_)|(refine Bk.f0a (b:=w.heap.size+1) Tl.shT rfl _ rfl rfl T0.out rfl ?_))
 all_goals(apply_rules (newGoals := .nonDependentOnly) (maxDepth:=1) only[kE];trivial)):G:=h
theorem qz52 (h:G:=by
 change Code.wp _ _ _ _ (((w.alloc (.cells m.cells 29)).alloc (.cells M.zero.cells 29)).alloc (.cells M.zero.cells 29));generalize ((w.alloc (.cells m.cells 29)).alloc (.cells M.zero.cells 29)).alloc (.cells M.zero.cells 29)=V at *
 all_goals(apply_rules (newGoals := .nonDependentOnly) (maxDepth:=1) only[kE];trivial)):G:=h
theorem qz53 (h:G:=by
 refine' qz0
 refine H.tk (i:=13) (v:=(.string a2)) (fun w _=>rfl) hS ?_
 all_goals(apply_rules (newGoals := .nonDependentOnly) (maxDepth:=1) only[kE];trivial)):G:=h
theorem qz54 (h:G:=by
 refine' qzt;refine' qz2g
 all_goals(apply_rules (newGoals := .nonDependentOnly) (maxDepth:=1) only[kE];trivial)):G:=h
theorem qz55 (h:G:=by
 have c15:=HF.out.m.cs.c15;have c21:=HF.out.m.cs.c21
 all_goals(apply_rules (newGoals := .nonDependentOnly) (maxDepth:=1) only[kE];trivial)):G:=h
theorem qz56 (h:G:=by
 subst he
 exact⟨_,rfl,_,_,_,[],_,[],hW',trodAll_mk1 (shut_bool Tryz.underlying4 _),(trodAll_cons_mk (again (by kernel_rfl) (of_decide_eq_true (by kernel_rfl)) h0 hg fun x hx=>hlt x (by first|exact absurd hx (by simp)|simp[hx])) (trodAll_cons_mk (again (by kernel_rfl) (of_decide_eq_true (by kernel_rfl)) h1 hg fun x hx=>hlt x (by first|exact absurd hx (by simp)|simp[hx])) trodAll_mk0)),rfl,hg.frame _,fun h=>by cases h⟩
 all_goals(apply_rules (newGoals := .nonDependentOnly) (maxDepth:=1) only[kE];trivial)):G:=h
theorem qz57 (h:G:=by
 refine' qz0
 refine H.tk (i:=7) (v:=(.string y)) (fun w _=>rfl) hS ?_
 all_goals(apply_rules (newGoals := .nonDependentOnly) (maxDepth:=1) only[kE];trivial)):G:=h
theorem qz58 (h:G:=by
 go_wp2_with (first|(refine n0b (b:=w.heap.size) (c:=c) (v:=nilV) rfl _ rfl rfl S0.out ?_)|(refine f0b (b:=w.heap.size+1+1) (c:=Kx.zero) (c':=c) (v:=nilV) (q:=none) (n:=0) (k:=0) rfl _ _ rfl rfl rfl R0.out ?_))
 all_goals(apply_rules (newGoals := .nonDependentOnly) (maxDepth:=1) only[kE];trivial)):G:=h
theorem qz59 (h:G:=by
 refine' qz58
 exact bodyPost_ret (v := .agg (stC (c) nilV)) (q0a rfl _ _ (w.heap.size+1+1) _ rfl shS (R0.out.put (stC (c) nilV)) rfl) rfl ⟨by rw[HK.out],Box.below_setRow HB.out (by omega) _⟩
 all_goals(apply_rules (newGoals := .nonDependentOnly) (maxDepth:=1) only[kE];trivial)):G:=h
theorem qz5a (h:G:=by
 refine' qz1i
 exact bodyPost_ret (v := .tuple #[.agg M.zero.cells,.bool false,.int .i64 er]) (ret3 rfl _ _ (w.heap.size+1) M.zero rfl (X0.out.put (m':=M.zero)) (.bool false) rfl (.int .i64 er) rfl) rfl (AnsB.no HY.out (Box.below_setRow HB.out (by omega) _))
 all_goals(apply_rules (newGoals := .nonDependentOnly) (maxDepth:=1) only[kE];trivial)):G:=h
theorem qz5b (h:G:=by
 change Code.wp _ _ _ _ ((wr.alloc (.cells M.zero.cells 29)).setRow wr.heap.size u.cells);refine' qz33
 all_goals(apply_rules (newGoals := .nonDependentOnly) (maxDepth:=1) only[kE];trivial)):G:=h
theorem qz5c (h:G:=by
 intro v' w' h2 h3 _
 refine h v' w' ?_ h3 ((Below.refl B w).grown h3 hB (fun k hk=>(World.ownsRow.lt hown k hk).1))
 all_goals(apply_rules (newGoals := .nonDependentOnly) (maxDepth:=1) only[kE];trivial)):G:=h
theorem qz5d (h:G:=by
 refine' qzg;refine(PC.out _).mono ?_
 all_goals(apply_rules (newGoals := .nonDependentOnly) (maxDepth:=1) only[kE];trivial)):G:=h
theorem qz5e (h:G:=by
 subst hni;by_cases hf:fitsB v n=true
 · obtain⟨_,_,hv0,hv1⟩:=(e0b v n).1 hf
   have hl:layN v n=be v.toNat n:=by unfold layN;rw[if_pos hf]
   rw[hl,hf];obtain⟨v,rfl⟩:=Int.eq_ofNat_of_zero_le hv0
   exact i0m v n w h1 h7 (by simpa using hv1)
 · have hf:fitsB v n=false:=by simpa using hf
   have hl:layN v n = []:=by unfold layN;rw[hf];rfl
   rw[hl,hf];exact q0n v n w hf
 all_goals(apply_rules (newGoals := .nonDependentOnly) (maxDepth:=1) only[kE];trivial)):G:=h
theorem qz5f (h:G:=by
 refine' qz1i
 exact bodyPost_ret (v := .tuple #[.agg M.zero.cells,.bool false,.int .i64 2]) (ret3 rfl _ _ (w.heap.size+1) M.zero rfl (X0.out.put (m':=M.zero)) (.bool false) rfl (.int .i64 2) rfl) rfl (AnsB.no HY.out (Box.below_setRow HB.out (by omega) _))
 all_goals(apply_rules (newGoals := .nonDependentOnly) (maxDepth:=1) only[kE];trivial)):G:=h
theorem qz5g (h:G:=by
 have c0:=b0.cs.c0;have c5:=b0.cs.c5
 all_goals(apply_rules (newGoals := .nonDependentOnly) (maxDepth:=1) only[kE];trivial)):G:=h
theorem qz5h (h:G:=by
 clear hb ha ct P1 hn
 go_upto_region 10 with(refine e0a (b:=w1.heap.size) (m:=M.zero) (m':=n) rfl _ _ rfl rfl rfl (Bx.new w1 M.zero) ?_)
 all_goals(apply_rules (newGoals := .nonDependentOnly) (maxDepth:=1) only[kE];trivial)):G:=h
theorem qz5i (h:G:=by
 refine' qzj;exact⟨g0a HK.out.symm,bel⟩
 all_goals(apply_rules (newGoals := .nonDependentOnly) (maxDepth:=1) only[kE];trivial)):G:=h
theorem qz5j (h:G:=by
 have HN:=Lib.hid hn
 have hnl:=(show n.ll = [] by rw[show n=_ from hn];exact HLL.out)
 all_goals(apply_rules (newGoals := .nonDependentOnly) (maxDepth:=1) only[kE];trivial)):G:=h
theorem qz5k (h:G:=by
 refine' qz0;refine H.tk (i:=2) (v := .agg (M.cells b)) ?h2 hS ?_
 case h2=>exact fun w hw=>a0b (x := .tmp 3) rfl rfl (hw.2.1)
 all_goals(apply_rules (newGoals := .nonDependentOnly) (maxDepth:=1) only[kE];trivial)):G:=h
theorem qz5l (h:G:=by
 have HB:=Lib.hid D.out.bel.drew;have HL:=Lib.hid (HL.out.below (Below.refl _ V6).drew)
 all_goals(apply_rules (newGoals := .nonDependentOnly) (maxDepth:=1) only[kE];trivial)):G:=h
theorem qz5m (h:G:=by
 have:=run_slice_string (P:=Tryz.prog) W 9 s .i64 .i64 (lo:Int) (hi:Int) Tryz.underlying9 (by omega) (by omega) (by omega)
 simpa using this
 all_goals(apply_rules (newGoals := .nonDependentOnly) (maxDepth:=1) only[kE];trivial)):G:=h
theorem qz5n (h:G:=by
 clear ha hr hb R0 bel PG hlt
 go_wp2_with (first|(refine e0a (b:=w.heap.size) (m:=M.zero) (m':=n) rfl _ _ rfl rfl rfl R1.out ?_))
 all_goals(apply_rules (newGoals := .nonDependentOnly) (maxDepth:=1) only[kE];trivial)):G:=h
theorem qz5o (h:G:=by
 refine(PF.out _).mono ?_;refine' qz2g
 all_goals(apply_rules (newGoals := .nonDependentOnly) (maxDepth:=1) only[kE];trivial)):G:=h
theorem qz5p (h:G:=by
 go_wp2_with (first|(refine n0j rfl 29 _ rfl M.zero.cells (by kernel_rfl) ?_)|(refine e0a (b:=w.heap.size+1) (m':=M.zero) rfl _ _ rfl rfl rfl B2.out ?_))
 exact bodyPost_ret (v := .tuple #[.agg M.zero.cells,.bool false]) (m0a (p:=2) (q:=3) (ty:=29) rfl _ _ (w.heap.size+1) _ rfl (loadVarM (B2.out.put (m':=M.zero))) (.bool false) rfl) rfl ⟨rfl,below_setRow bel (by omega) _⟩
 all_goals(apply_rules (newGoals := .nonDependentOnly) (maxDepth:=1) only[kE];trivial)):G:=h
theorem qz5q (h:G:=by
 generalize (W.alloc (.cells M.zero.cells 29)).setRow (w.heap.size+1) _=V at *;clear W
 all_goals(apply_rules (newGoals := .nonDependentOnly) (maxDepth:=1) only[kE];trivial)):G:=h
theorem qz5r (h:G:=by
 have HX:=Lib.hid (Bx.new w M.zero);have HR:=Lib.hid (hb.old (.cells M.zero.cells 29))
 all_goals(apply_rules (newGoals := .nonDependentOnly) (maxDepth:=1) only[kE];trivial)):G:=h
theorem qz5s (h:G:=by
 have HT:=Lib.hid (HT.out.below bel);refine' qzc
 all_goals(apply_rules (newGoals := .nonDependentOnly) (maxDepth:=1) only[kE];trivial)):G:=h
theorem qz5t (h:G:=by
 go_wp2_with (first|(refine t0c (b:=w.heap.size) (m:=c) rfl _ rfl rfl D.out.s0 ?_)|(refine j0a (b:=w.heap.size+1) (m:=m) rfl _ rfl rfl D.out.m0 ?_))
 all_goals(apply_rules (newGoals := .nonDependentOnly) (maxDepth:=1) only[kE];trivial)):G:=h
theorem qz5u (h:G:=by
 refine' qz5t;refine(PW.out _ D.out.i).mono ?_
 all_goals(apply_rules (newGoals := .nonDependentOnly) (maxDepth:=1) only[kE];trivial)):G:=h
theorem qz5v (h:G:=by
 refine' qz5t;refine(PU.out _ D.out.i).mono ?_
 all_goals(apply_rules (newGoals := .nonDependentOnly) (maxDepth:=1) only[kE];trivial)):G:=h
theorem qz5w (h:G:=by
 go_wp2;go_ret3
 all_goals(apply_rules (newGoals := .nonDependentOnly) (maxDepth:=1) only[kE];trivial)):G:=h
theorem qz5x (h:G:=by
 have hz:=b0a w (.cells M.zero.cells 29);have A0:=Bx.new (w.alloc (.cells M.zero.cells 29)) M.zero
 all_goals(apply_rules (newGoals := .nonDependentOnly) (maxDepth:=1) only[kE];trivial)):G:=h
theorem qz5y (h:G:=by
 refine' qzg;refine(PS.out _).mono ?_
 all_goals(apply_rules (newGoals := .nonDependentOnly) (maxDepth:=1) only[kE];trivial)):G:=h
theorem qz5z (h:G:=by
 clear hK K;have hS:=And.intro (hS.1.below hb) (hS.2.below hb)
 all_goals(apply_rules (newGoals := .nonDependentOnly) (maxDepth:=1) only[kE];trivial)):G:=h
theorem qz60 (h:G:=by
 have hf:fitsB (numL l) k=true:=by
  have:=r0h l;rw[h]at this;rw[e0b]
  refine⟨by omega,by omega,by omega,?_⟩
  simpa[pw]using(Int.ofNat_lt.2 this)
 refine⟨hf,?_⟩
 all_goals(apply_rules (newGoals := .nonDependentOnly) (maxDepth:=1) only[kE];trivial)):G:=h
theorem qz61 (h:G:=by
 refine' qz0;refine H.tk (i:=7) (v:=?v7) ?h7 hS ?_
 case h7=>(intro w hw;go_simp;first|done|(with_reducible rfl))
 all_goals(apply_rules (newGoals := .nonDependentOnly) (maxDepth:=1) only[kE];trivial)):G:=h
theorem qz62 (h:G:=by
 refine H.appB (i:=11) (by simp only[List.getElem?_toArray,List.getElem?_cons_succ,List.getElem?_cons_zero];rfl) (by kernel_rfl) (by kernel_rfl) rfl _ _ rfl B (.slice va bs.length vc) bs nw g1 2 rfl HO1.out (by rw[HN.out.2];rfl) HC1.out (by have:=HN.out.2;have:=HLn.out;omega) hBw (fun w' hg=>Sc.of ((hg.block b hlt1 (fun e=>hne1.out e.symm)).trans HR1.out)) ?_
 intro v2 W2 hown2 hgrow hb2
 all_goals(apply_rules (newGoals := .nonDependentOnly) (maxDepth:=1) only[kE];trivial)):G:=h
theorem qz63 (h:G:=by
 refine' qz6;clear hb
 all_goals(apply_rules (newGoals := .nonDependentOnly) (maxDepth:=1) only[kE];trivial)):G:=h
theorem qz64 (h:G:=by
 have HZ:=Lib.hid (show rightB m=false by rw[HA.out];rfl)
 clear HA
 all_goals(apply_rules (newGoals := .nonDependentOnly) (maxDepth:=1) only[kE];trivial)):G:=h
theorem qz65 (h:G:=by
 obtain⟨i,hi,hz⟩:=Option.map_eq_some_iff.1 h;simp only[Prod.mk.injEq,decide_eq_true_eq]at hz
 all_goals(apply_rules (newGoals := .nonDependentOnly) (maxDepth:=1) only[kE];trivial)):G:=h
theorem qz66 (h:G:=by
 refine' qz2w;exact⟨t0b HZ.out.2.symm HZ.out.1.symm,rfl⟩
 all_goals(apply_rules (newGoals := .nonDependentOnly) (maxDepth:=1) only[kE];trivial)):G:=h
theorem qz67 (h:G:=by
 go_in;refine' qzj
 all_goals(apply_rules (newGoals := .nonDependentOnly) (maxDepth:=1) only[kE];trivial)):G:=h
theorem qz68 (h:G:=by
 have e0:((s.size:Int)==4)=false:=by rw[beq_eq_false_iff_ne];omega
 all_goals(apply_rules (newGoals := .nonDependentOnly) (maxDepth:=1) only[kE];trivial)):G:=h
theorem qz69 (h:G:=by
 have e1:((s.size:Int)==16)=false:=by rw[beq_eq_false_iff_ne];omega
 all_goals(apply_rules (newGoals := .nonDependentOnly) (maxDepth:=1) only[kE];trivial)):G:=h
theorem qz6a (h:G:=by
 refine' qz69;by_cases h4:s.size=4
 · have e0:((s.size:Int)==4)=true:=by rw[beq_iff_eq];omega
   clear h h4;refine' qz67;exact⟨.inl rfl,rfl⟩
 · refine' qz68;clear h h4;refine' qz67;exact⟨.inr rfl,rfl⟩
 all_goals(apply_rules (newGoals := .nonDependentOnly) (maxDepth:=1) only[kE];trivial)):G:=h
theorem qz6b (h:G:=by
 have HY:=Lib.hid (show out7 c d=(c,[],er) by unfold out7;rw[if_neg hz,if_neg (by rw[e];exact hn),hsz,hf,if_neg (fun h=>by cases h.2)])
 clear hf he ho hz hs b0 b1 hn e hsz hy sla PL HH
 all_goals(apply_rules (newGoals := .nonDependentOnly) (maxDepth:=1) only[kE];trivial)):G:=h
theorem qz6c (h:G:=by
 refine' qz1l;refine H.tk (i:=1) (v := .agg n.cells) ?h1x2 hS ?_
 case h1x2=>exact(fun w hw=>a0b (x := .tmp 7) rfl rfl hw.2)
 all_goals(apply_rules (newGoals := .nonDependentOnly) (maxDepth:=1) only[kE];trivial)):G:=h
theorem qz6d (h:G:=by
 subst HP
 go_wp2_with (first|(refine d0a rfl 150 _ rfl noC (by kernel_rfl) ?_)|(refine a0a (b:=w.heap.size) shC rfl _ _ rfl rfl rfl HG.out.res rfl rfl (w0a _ _ _ _) ?_))
 all_goals(apply_rules (newGoals := .nonDependentOnly) (maxDepth:=1) only[kE];trivial)):G:=h
theorem qz6e (h:G:=by
 obtain⟨n,rfl,hn,hl,hb⟩:=AnsB.parts ha;have D:=Lib.hid (D.out.call hb)
 all_goals(apply_rules (newGoals := .nonDependentOnly) (maxDepth:=1) only[kE];trivial)):G:=h
theorem qz6f (h:G:=by
 change Code.wp _ _ _ _ (w.alloc (.cells (cellsN En.zero none 0) 217));have hz:=b0a w (.cells (cellsN En.zero none 0) 217);have X0:=Lib.hid (Bk.Bk.new 217 w (cellsN En.zero none 0))
 all_goals(apply_rules (newGoals := .nonDependentOnly) (maxDepth:=1) only[kE];trivial)):G:=h
theorem qz6g (h:G:=by
 have HU:=Lib.hid (U.start (m:=m) w h hB);clear h
 all_goals(apply_rules (newGoals := .nonDependentOnly) (maxDepth:=1) only[kE];trivial)):G:=h
theorem qz6h (h:G:=by
 have B0:=Lib.hid b0;clear b0
 all_goals(apply_rules (newGoals := .nonDependentOnly) (maxDepth:=1) only[kE];trivial)):G:=h
theorem qz6i (h:G:=by
 have c0:=HU.out.m.cs.c0;rw[k1]at c0
 all_goals(apply_rules (newGoals := .nonDependentOnly) (maxDepth:=1) only[kE];trivial)):G:=h
theorem qz6j (h:G:=by
 refine H.appS (i:=6) (by simp only[List.getElem?_toArray,List.getElem?_cons_succ,List.getElem?_cons_zero];rfl) (by kernel_rfl) (by kernel_rfl) rfl _ _ rfl B (.slice va2 bs2.length vc2) bs2 t2 rfl HO4.out rfl (by have:=HZ2.out.2;have:=HL2.out;omega) hBw4 (fun w' hg=>Sc.of ((hg.block b hlt1 (fun e=>hne1.out e.symm)).trans HR4.out)) ?_
 intro v5 W5 hown5 hgrow hb5
 all_goals(apply_rules (newGoals := .nonDependentOnly) (maxDepth:=1) only[kE];trivial)):G:=h
theorem qz6k (h:G:=by
 have HB:=Lib.hid (balloc (balloc (balloc (Below.refl _ w) (.cells (stC c nilV) 211)) (.cells (cellsT (a,(d,8))) 110)) (.cells (stC Kx.zero nilV) 211));have HT:=Lib.hid (ht.below HB.out)
 all_goals(apply_rules (newGoals := .nonDependentOnly) (maxDepth:=1) only[kE];trivial)):G:=h
theorem qz6l (h:G:=by
 obtain⟨b0,bel⟩:=boxed w m;refine' qz2f
 all_goals(apply_rules (newGoals := .nonDependentOnly) (maxDepth:=1) only[kE];trivial)):G:=h
theorem qz6m (h:G:=by
 refine⟨h.1,?_⟩
 rcases h.2 with h|⟨k,cap,cur,a,b,c,d⟩
 · exact .inl h
 · exact .inr ⟨k,cap,cur,a,b,(heap_setCell_other w p k u (by omega)).trans c,d⟩
 all_goals(apply_rules (newGoals := .nonDependentOnly) (maxDepth:=1) only[kE];trivial)):G:=h
theorem qz6n (h:G:=by
 refine' qzn
 have hlt:w.heap.size<(w.alloc (.cells M.zero.cells 29)).heap.size:=by rw[b0a];exact Nat.lt_succ_self _
 all_goals(apply_rules (newGoals := .nonDependentOnly) (maxDepth:=1) only[kE];trivial)):G:=h
theorem qz6o (h:G:=by
 go_upto_region 2 with(refine Bk.a0a (b:=V1.heap.size) shS rfl _ _ rfl rfl rfl (Bk.Bk.new _ _ _) rfl rfl (l0q _ _ _) ?_)
 have HK:=Lib.hid (made V1 #[fv a,fv b,fv c]).1
 all_goals(apply_rules (newGoals := .nonDependentOnly) (maxDepth:=1) only[kE];trivial)):G:=h
theorem qz6p (h:G:=by
 rw[Sx.p0b,Nat.zero_add]
 match j,hj with
 | 0,_=>exact hB.cell 0 _ rfl
 | 1,_=>exact hB.cell 1 _ rfl
 | 2,_=>exact hB.cell 2 _ rfl
 | 3,_=>exact hB.cell 3 _ rfl
 all_goals(apply_rules (newGoals := .nonDependentOnly) (maxDepth:=1) only[kE];trivial)):G:=h
theorem qz6q (h:G:=by
 go_ret;exact⟨g0a HK.out.symm,HF.out.bel⟩
 all_goals(apply_rules (newGoals := .nonDependentOnly) (maxDepth:=1) only[kE];trivial)):G:=h
theorem qz6r (h:G:=by
 have G0:=HG.out.step ht;obtain⟨rfl,ht⟩:=ht;clear ht HG
 all_goals(apply_rules (newGoals := .nonDependentOnly) (maxDepth:=1) only[kE];trivial)):G:=h
theorem qz6s (h:G:=by
 have R3:=Lib.hid ((R2.out.old (.cells #[.string ⟨#[]⟩,.int .i64 0,.int .i64 0,.bool false] 150)).row (g:=w2.heap.size) (by have:=R2.out.lt;omega) (curZ s 1 z))
 have bel3:=Lib.hid (below_setRow (balloc bel2.out (.cells #[.string ⟨#[]⟩,.int .i64 0,.int .i64 0,.bool false] 150)) (g:=w2.heap.size) (by have:=R2.out.lt;omega) (curZ s 1 z))
 all_goals(apply_rules (newGoals := .nonDependentOnly) (maxDepth:=1) only[kE];trivial)):G:=h
theorem qz6t (h:G:=by
 refine' qz19;have HT:=Lib.hid (HT.out.below HB.out)
 all_goals(apply_rules (newGoals := .nonDependentOnly) (maxDepth:=1) only[kE];trivial)):G:=h
theorem qz6u (h:G:=by
 have T0:=Lib.hid (T0.old (.cells (stC Kx.zero nilV) 211));have R0:=Bk.Bk.new 211 ((w.alloc (.cells (stC c nilV) 211)).alloc (.cells (cellsT (a,(d,8))) 110)) (stC Kx.zero nilV)
 all_goals(apply_rules (newGoals := .nonDependentOnly) (maxDepth:=1) only[kE];trivial)):G:=h
theorem qz6v (h:G:=by
 have HT:=Lib.hid ht;clear ht
 all_goals(apply_rules (newGoals := .nonDependentOnly) (maxDepth:=1) only[kE];trivial)):G:=h
theorem qz6w (h:G:=by
 unfold Ent.okE
 show(Oct.fitsB m.family 2&&Oct.fitsB m.tag 2&&decide (m.pfx.size=4)&&decide ((maskM m).size=4)&&decide (m.next.size=4)&&Oct.fitsB m.metric 4)=true
 all_goals(apply_rules (newGoals := .nonDependentOnly) (maxDepth:=1) only[kE];trivial)):G:=h
theorem qz6x (h:G:=by
 have c10:=D.out.m0.cs.c10;have c11:=D.out.m0.cs.c11
 all_goals(apply_rules (newGoals := .nonDependentOnly) (maxDepth:=1) only[kE];trivial)):G:=h
theorem qz6y (h:G:=by
 have X0:=Lib.hid (X0.out.below bel);have XM:=Lib.hid (XM.out.below bel)
 all_goals(apply_rules (newGoals := .nonDependentOnly) (maxDepth:=1) only[kE];trivial)):G:=h
theorem qz6z (h:G:=by
 have HL:=Lib.hid (HL.out.below bel);refine' qzc
 all_goals(apply_rules (newGoals := .nonDependentOnly) (maxDepth:=1) only[kE];trivial)):G:=h
theorem qz70 (h:G:=by
 rw[b0a,b0a]at R0;have R0:=Lib.hid R0
 all_goals(apply_rules (newGoals := .nonDependentOnly) (maxDepth:=1) only[kE];trivial)):G:=h
theorem qz71 (h:G:=by
 have HB:=Lib.hid (bcall HB.out (made V1 #[fv a,fv b,fv c]).2);generalize (V1.alloc (.cells #[.nilFunc,.nilFunc,.nilFunc] 43)).setRow V1.heap.size #[fv a,fv b,fv c]=W at *
 all_goals(apply_rules (newGoals := .nonDependentOnly) (maxDepth:=1) only[kE];trivial)):G:=h
theorem qz72 (h:G:=by
 go_wp2_with (first|(refine e0a (b:=w.heap.size) (m:=M.zero) (m':=r) rfl _ _ rfl rfl rfl R4.out ?_))
 exact bodyPost_ret (v := .tuple #[.agg (M.cells r),.int .i64 n,.int .i64 x]) (ret3 rfl _ _ w.heap.size r rfl (R4.out.put (m':=r)) (.int .i64 n) rfl (.int .i64 x) rfl) rfl (AnsH.mk' HY.out (below_setRow bel4.out (Nat.le_refl _) _))
 all_goals(apply_rules (newGoals := .nonDependentOnly) (maxDepth:=1) only[kE];trivial)):G:=h
theorem qz73 (h:G:=by
 rintro e w3 ⟨rfl,hS3⟩
 refine hK.out _ _ hS3 (fun _=>?_)
 all_goals(apply_rules (newGoals := .nonDependentOnly) (maxDepth:=1) only[kE];trivial)):G:=h
theorem qz74 (h:G:=by
 unfold execOp;simp only[ho,Sem.run_bind,e,w0i,Result.andThen_ok,Sem.run_pure]
 all_goals(apply_rules (newGoals := .nonDependentOnly) (maxDepth:=1) only[kE];trivial)):G:=h
theorem qz75 (h:G:=by
 rintro e w1 ⟨rfl,hb⟩
 all_goals(apply_rules (newGoals := .nonDependentOnly) (maxDepth:=1) only[kE];trivial)):G:=h
theorem qz76 (h:G:=by
 refine' qz75;refine' qz4n
 all_goals(apply_rules (newGoals := .nonDependentOnly) (maxDepth:=1) only[kE];trivial)):G:=h
theorem qz77 (h:G:=by
 rintro e V1 ⟨rfl,hb⟩;refine' qzq
 all_goals(apply_rules (newGoals := .nonDependentOnly) (maxDepth:=1) only[kE];trivial)):G:=h
theorem qz78 (h:G:=by
 refine P1.out.mono ?_;refine' qz75
 all_goals(apply_rules (newGoals := .nonDependentOnly) (maxDepth:=1) only[kE];trivial)):G:=h
theorem qz79 (h:G:=by
 refine hK.out _ _ (hS.row (by omega) _) ?_
 clear hK K
 all_goals(apply_rules (newGoals := .nonDependentOnly) (maxDepth:=1) only[kE];trivial)):G:=h
theorem qz7a (h:G:=by
 refine' qzg;refine(PG.out _).mono ?_
 all_goals(apply_rules (newGoals := .nonDependentOnly) (maxDepth:=1) only[kE];trivial)):G:=h
theorem qz7b (h:G:=by
 refine' qzh;refine' qz2k
 all_goals(apply_rules (newGoals := .nonDependentOnly) (maxDepth:=1) only[kE];trivial)):G:=h
theorem qz7c (h:G:=by
 refine' qzt;refine' qz2p
 all_goals(apply_rules (newGoals := .nonDependentOnly) (maxDepth:=1) only[kE];trivial)):G:=h
theorem qz7d (h:G:=by
 clear D;generalize V.drew=Z0 at *
 all_goals(apply_rules (newGoals := .nonDependentOnly) (maxDepth:=1) only[kE];trivial)):G:=h
theorem qz7e (h:G:=by
 have e1:(UInt8.ofNat t.toNat).toNat=t.toNat:=by rw[UInt8.toNat_ofNat'];omega
 have e2:(UInt8.ofNat d.size).toNat=d.size:=by rw[UInt8.toNat_ofNat'];omega
 all_goals(apply_rules (newGoals := .nonDependentOnly) (maxDepth:=1) only[kE];trivial)):G:=h
theorem qz7f (h:G:=by
 have HB:=Lib.hid (balloc (Below.refl _ w) (.cells m.cells 29));have b0:=Bx.new w m
 all_goals(apply_rules (newGoals := .nonDependentOnly) (maxDepth:=1) only[kE];trivial)):G:=h
theorem qz7g (h:G:=by
 refine' qzj;exact⟨rfl,HB.out⟩
 all_goals(apply_rules (newGoals := .nonDependentOnly) (maxDepth:=1) only[kE];trivial)):G:=h
theorem qz7h (h:G:=by
 have c5:=D.out.m0.cs.c5;have c9:=D.out.m0.cs.c9
 all_goals(apply_rules (newGoals := .nonDependentOnly) (maxDepth:=1) only[kE];trivial)):G:=h
theorem qz7i (h:G:=by
 refine' qz0
 refine H.tk (i:=1) (v:=(Value.slice none 0 0)) (fun w _=>rfl) hS ?_
 all_goals(apply_rules (newGoals := .nonDependentOnly) (maxDepth:=1) only[kE];trivial)):G:=h
theorem qz7j (h:G:=by
 refine' qzg
 exact bodyPost_ret (v := .tuple #[.slice none 0 0,.agg (Kx.cells c),.int .i64 9]) (l0c (ty:=74) rfl _ _ (w.heap.size+1+1) (.agg (Kx.cells c)) (.slice none 0 0) rfl rfl (loadVarK shX (R0.out.put (Kx.cells c)) rfl) (.int .i64 9) rfl) rfl (AnsW.no HY.out (Box.below_setRow HB.out (by omega) _))
 all_goals(apply_rules (newGoals := .nonDependentOnly) (maxDepth:=1) only[kE];trivial)):G:=h
theorem qz7k (h:G:=by
 have HL:=Lib.hid hl
 all_goals(apply_rules (newGoals := .nonDependentOnly) (maxDepth:=1) only[kE];trivial)):G:=h
theorem qz7l (h:G:=by
 obtain⟨qa,qk,rfl⟩:=hl.slice;refine' qz7k
 all_goals(apply_rules (newGoals := .nonDependentOnly) (maxDepth:=1) only[kE];trivial)):G:=h
theorem qz7m (h:G:=by
 refine' qz33;have bel:=balloc (Below.refl w3.heap.size w3) (.cells (cellsN En.zero sa sc) 217)
 all_goals(apply_rules (newGoals := .nonDependentOnly) (maxDepth:=1) only[kE];trivial)):G:=h
theorem qz7n (h:G:=by
 go_upto_region 6 with(refine s0f (b:=w3.heap.size) rfl _ _ rfl rfl ⟨yb,yl,kn⟩ sa sc (m:=En.zero) (sa0:=none) (sc0:=0) rfl (Bk.Bk.new 217 w3 (cellsN En.zero none 0)) ?_)
 change Code.wp _ _ _ _ ((w3.alloc (.cells (cellsN En.zero none 0) 217)).setRow w3.heap.size (cellsN ⟨yb,yl,kn⟩ sa sc))
 all_goals(apply_rules (newGoals := .nonDependentOnly) (maxDepth:=1) only[kE];trivial)):G:=h
theorem qz7o (h:G:=by
 refine' qz3d;refine' qz3d
 all_goals(apply_rules (newGoals := .nonDependentOnly) (maxDepth:=1) only[kE];trivial)):G:=h
theorem qz7p (h:G:=by
 refine' qzg
 refine(rdnum s (0,false) 1 b 1 rfl hs HG.out.le (by omega) (by omega) _ HG.out.rd).mono ?_
 all_goals(apply_rules (newGoals := .nonDependentOnly) (maxDepth:=1) only[kE];trivial)):G:=h
theorem qz7q (h:G:=by
 go_wp2_with (first|(refine j0a (b:=w.heap.size+1) (m:=m) rfl _ rfl rfl D.out.m0 ?_))
 refine(P1.out _ D.out.i (HT.out.below D.out.bel)).mono ?_
 all_goals(apply_rules (newGoals := .nonDependentOnly) (maxDepth:=1) only[kE];trivial)):G:=h
theorem qz7r (h:G:=by
 refine' qzg
 refine(u0b B b _ m.ae 1 1 rfl (by omega) (by omega) _ HU.out.wr HU.out.siz (by have:=HL.out;have:=i0a (m.ae) 1;omega)).mono ?_
 all_goals(apply_rules (newGoals := .nonDependentOnly) (maxDepth:=1) only[kE];trivial)):G:=h
theorem qz7s (h:G:=by
 have HL:=Lib.hid (hl.below bel);have X0:=Lib.hid (Bx.new w1 n)
 all_goals(apply_rules (newGoals := .nonDependentOnly) (maxDepth:=1) only[kE];trivial)):G:=h
theorem qz7t (h:G:=by
 refine' qz10;have HB1:=Lib.hid (HB.out.below hb1)
 all_goals(apply_rules (newGoals := .nonDependentOnly) (maxDepth:=1) only[kE];trivial)):G:=h
theorem qz7u (h:G:=by
 refine' qz25;refine' qz2g
 all_goals(apply_rules (newGoals := .nonDependentOnly) (maxDepth:=1) only[kE];trivial)):G:=h
theorem qz7v (h:G:=by
 refine' qz0
 refine H.tk (i:=3) (v:=(.bool true)) (fun w _=>rfl) hS ?_
 all_goals(apply_rules (newGoals := .nonDependentOnly) (maxDepth:=1) only[kE];trivial)):G:=h
theorem qz7w (h:G:=by
 refine(PN.out _ (HL.out.tab hw0 hb0 HT.out)).mono ?_;refine' qz2k
 all_goals(apply_rules (newGoals := .nonDependentOnly) (maxDepth:=1) only[kE];trivial)):G:=h
theorem qz7x (h:G:=by
 go_wp2_with (first|(refine e0a (b:=w.heap.size) (m:=M.zero) (m':=x) rfl _ _ rfl rfl rfl X1.out ?_))
 all_goals(apply_rules (newGoals := .nonDependentOnly) (maxDepth:=1) only[kE];trivial)):G:=h
theorem qz7y (h:G:=by
 refine' qz7x;exact bodyPost_ret (v := .tuple #[.agg (M.cells x),.bool true]) (m0a rfl _ _ w.heap.size _ rfl (loadVarK shM (X1.out.put (m':=x)) rfl) _ rfl) rfl ⟨_,_,_,HI.out,HT.out⟩
 all_goals(apply_rules (newGoals := .nonDependentOnly) (maxDepth:=1) only[kE];trivial)):G:=h
theorem qz7z (h:G:=by
 refine' qz18;have HL:=Lib.hid (HL.out.below (Below.refl _ V).drew)
 all_goals(apply_rules (newGoals := .nonDependentOnly) (maxDepth:=1) only[kE];trivial)):G:=h
theorem qz80 (h:G:=by
 refine' qz0
 refine wpAnyH_ready (rs:=[1]) (by kernel_rfl) (by simp) ?_
 all_goals(apply_rules (newGoals := .nonDependentOnly) (maxDepth:=1) only[kE];trivial)):G:=h
theorem qz81 (h:G:=by
 have e:(b.extract 2 4).data.toList = [b[2],b[3]]:=by
  apply List.ext_getElem
  · simp;omega
  · intro i h1 h4
    match i,h4 with
    | 0,_=>simp[ByteArray.getElem_eq_getElem_data]
    | 1,_=>simp[ByteArray.getElem_eq_getElem_data]
 rw[e,←p0h b 2 h2,←p0h b 3 h3]
 all_goals(apply_rules (newGoals := .nonDependentOnly) (maxDepth:=1) only[kE];trivial)):G:=h
theorem qz82 (h:G:=by
 have HR3:=Lib.hid (HR2.out.set (i:=2) (v := .slice va2 bs2.length vc2) (cs':=#[.int .i64 c,.string nx,.slice va2 bs2.length vc2]) rfl);have HO3:Hid (Own B (W2.setCell ⟨b,2,none⟩ (.slice va2 bs2.length vc2)) (.slice va2 bs2.length vc2) bs2):=Lib.hid (o0e HO2.out HR2.out neW)
 all_goals(apply_rules (newGoals := .nonDependentOnly) (maxDepth:=1) only[kE];trivial)):G:=h
theorem qz83 (h:G:=by
 have HR6:=Lib.hid (HR5.out.set (i:=2) (v := .slice va5 bs5.length vc5) (cs':=#[.int .i64 c,.string nx,.slice va5 bs5.length vc5]) rfl);have HO6:Hid (Own B (W5.setCell ⟨b,2,none⟩ (.slice va5 bs5.length vc5)) (.slice va5 bs5.length vc5) bs5):=Lib.hid (o0e HO5.out HR5.out neW)
 all_goals(apply_rules (newGoals := .nonDependentOnly) (maxDepth:=1) only[kE];trivial)):G:=h
theorem qz84 (h:G:=by
 refine' qz0;refine H.tk (i:=8) (v:=?v8) ?h8 hS ?_
 case h8=>(intro w hw;go_simp;first|done|(with_reducible rfl))
 refine' qz0
 all_goals(apply_rules (newGoals := .nonDependentOnly) (maxDepth:=1) only[kE];trivial)):G:=h
theorem qz85 (h:G:=by
 intro e w1 hk
 have X1:=Lib.hid (hk.2.2.bx (by omega) HX.out)
 all_goals(apply_rules (newGoals := .nonDependentOnly) (maxDepth:=1) only[kE];trivial)):G:=h
theorem qz86 (h:G:=by
 clear bel hl;generalize w1.alloc (.cells n.cells 29)=V6 at *
 all_goals(apply_rules (newGoals := .nonDependentOnly) (maxDepth:=1) only[kE];trivial)):G:=h
theorem qz87 (h:G:=by
 go_upto_region 5 with(first|(refine j0c rfl _ rfl (s:=x) rfl ?_)|(at_builtin;refine a1o rfl _ _ rfl (w.heap.size+1+1+1) _ ls x w3.heap.size 1 rfl HL.out rfl (z0a x w3) ?cl ?cb ?_))
 case cl=>have:=HLN.out;omega
 case cb=>omega
 intro v' w4 hl hb hs hz
 all_goals(apply_rules (newGoals := .nonDependentOnly) (maxDepth:=1) only[kE];trivial)):G:=h
theorem qz88 (h:G:=by
 go_ret;exact⟨rfl,(HB1.out.old _).put _,(Bel.of (hb1.alloc hb1.size _)).trans (Bel.rowb _ _)⟩
 all_goals(apply_rules (newGoals := .nonDependentOnly) (maxDepth:=1) only[kE];trivial)):G:=h
theorem qz89 (h:G:=by
 have e1:(er==0)=false:=by simpa using he
 have e2:(er != 0)=true:=by rw[bne,e1];rfl
 all_goals(apply_rules (newGoals := .nonDependentOnly) (maxDepth:=1) only[kE];trivial)):G:=h
theorem qz8a (h:G:=by
 generalize w3.alloc (.cells (cellsN En.zero sa sc) 217)=V3 at *;generalize w3.heap.size=ge at *
 all_goals(apply_rules (newGoals := .nonDependentOnly) (maxDepth:=1) only[kE];trivial)):G:=h
theorem qz8b (h:G:=by
 have HG:=Lib.hid G1;clear G0 G1
 all_goals(apply_rules (newGoals := .nonDependentOnly) (maxDepth:=1) only[kE];trivial)):G:=h
theorem qz8c (h:G:=by
 refine' qz2f;generalize w.heap.size=k at *
 all_goals(apply_rules (newGoals := .nonDependentOnly) (maxDepth:=1) only[kE];trivial)):G:=h
theorem qz8d (h:G:=by
 clear ht;generalize ((w.alloc (.cells (stC c nilV) 211)).alloc (.cells (cellsT (a,(d,8))) 110)).alloc (.cells (stC Kx.zero nilV) 211)=W at *
 all_goals(apply_rules (newGoals := .nonDependentOnly) (maxDepth:=1) only[kE];trivial)):G:=h
theorem qz8e (h:G:=by
 refine' qz7x;exact bodyPost_ret (v := .tuple #[.agg (M.cells x),.bool true]) (m0a rfl _ _ w.heap.size _ rfl (loadVarK shM (X1.out.put (m':=x)) rfl) _ rfl) rfl HE.out
 all_goals(apply_rules (newGoals := .nonDependentOnly) (maxDepth:=1) only[kE];trivial)):G:=h
theorem qz8f (h:G:=by
 obtain⟨qa,qn,qk,rfl,hb,hA⟩:=hr.boxed (w:=w) (g:=w.heap.size+1+1) (by omega) hlt HB.out
 have R0:=Lib.hid (R0.out.below hb)
 all_goals(apply_rules (newGoals := .nonDependentOnly) (maxDepth:=1) only[kE];trivial)):G:=h
theorem qz8g (h:G:=by
 refine(t0w n p.2.1 Z0 hnl HL.out hzV).mono ?_;refine' qz3l
 all_goals(apply_rules (newGoals := .nonDependentOnly) (maxDepth:=1) only[kE];trivial)):G:=h
theorem qz8h (h:G:=by
 have P1:=Lib.hid (fun V (h:m.In V)=>l0a m V h lb)
 have P2:=Lib.hid (fun V (h:m.In V)=>Xp.c0b m.sa m.sc m.sl V h.s ln lb)
 all_goals(apply_rules (newGoals := .nonDependentOnly) (maxDepth:=1) only[kE];trivial)):G:=h
theorem qz8i (h:G:=by
 change Code.wp _ _ _ _ ((w2.alloc (.cells #[.string ⟨#[]⟩,.int .i64 0,.int .i64 0,.bool false] 150)).setRow w2.heap.size (curZ s 1 z));generalize (w2.alloc (.cells #[.string ⟨#[]⟩,.int .i64 0,.int .i64 0,.bool false] 150)).setRow w2.heap.size (curZ s 1 z)=V at *
 all_goals(apply_rules (newGoals := .nonDependentOnly) (maxDepth:=1) only[kE];trivial)):G:=h
theorem qz8j (h:G:=by
 replace hBw2:B≤(W2.setCell ⟨b,2,none⟩ (.slice va2 bs2.length vc2)).heap.size:=by simpa using hBw2
 refine H.one (i:=14) (by simp only[List.getElem?_toArray,List.getElem?_cons_succ,List.getElem?_cons_zero];rfl) (by kernel_rfl) (by kernel_rfl) (fun K hK=>?_)
 all_goals(apply_rules (newGoals := .nonDependentOnly) (maxDepth:=1) only[kE];trivial)):G:=h
theorem qz8k (h:G:=by
 rintro r w2 ⟨rfl,hb⟩;have bel:=bcall bel hb
 all_goals(apply_rules (newGoals := .nonDependentOnly) (maxDepth:=1) only[kE];trivial)):G:=h
theorem qz8l (h:G:=by
 refine' qz75;have bel:=bcall bel hb
 all_goals(apply_rules (newGoals := .nonDependentOnly) (maxDepth:=1) only[kE];trivial)):G:=h
theorem qz8m (h:G:=by
 refine' qz4w;clear hlaid
 all_goals(apply_rules (newGoals := .nonDependentOnly) (maxDepth:=1) only[kE];trivial)):G:=h
theorem qz8n (h:G:=by
 go_upto_region 5 with(first|(refine p0a (v := .pointer (some ⟨w.heap.size,k,none⟩)) (by rfl) rfl (h0j rfl rfl rfl (w0p w.heap.size k hk4 _)) ?_))
 have XS:=S0.out.set (i:=k) (v := .string a) (cs':=stC (c.setP k a) nilV) (k0z c a nilV hk4)
 all_goals(apply_rules (newGoals := .nonDependentOnly) (maxDepth:=1) only[kE];trivial)):G:=h
theorem qz8o (h:G:=by
 change Code.wp _ _ _ _ ((w1.alloc (.cells #[.string ⟨#[]⟩,.int .i64 0,.int .i64 0,.bool false] 150)).setRow w1.heap.size (cur c 0));generalize (w1.alloc (.cells #[.string ⟨#[]⟩,.int .i64 0,.int .i64 0,.bool false] 150)).setRow w1.heap.size (cur c 0)=W at *
 all_goals(apply_rules (newGoals := .nonDependentOnly) (maxDepth:=1) only[kE];trivial)):G:=h
theorem qz8p (h:G:=by
 have R0:=Lib.hid XR;have HB:=Lib.hid XB
 all_goals(apply_rules (newGoals := .nonDependentOnly) (maxDepth:=1) only[kE];trivial)):G:=h
theorem qz8q (h:G:=by
 refine' qz2w;exact⟨rfl,rfl⟩
 all_goals(apply_rules (newGoals := .nonDependentOnly) (maxDepth:=1) only[kE];trivial)):G:=h
theorem qz8r (h:G:=by
 have X0:=Lib.hid (hbel.bx (by omega) X0.out)
 have XM:=Lib.hid (hbel.bx (by omega) XM.out)
 all_goals(apply_rules (newGoals := .nonDependentOnly) (maxDepth:=1) only[kE];trivial)):G:=h
theorem qz8s (h:G:=by
 refine' qz1e;have c7:=HF.out.m.cs.c7
 all_goals(apply_rules (newGoals := .nonDependentOnly) (maxDepth:=1) only[kE];trivial)):G:=h
theorem qz8t (h:G:=by
 refine(PE.out b _ R0.out HT.out (by omega)).mono ?_
 rintro e w3 ⟨sa,sc,rfl,hl,hbel⟩
 all_goals(apply_rules (newGoals := .nonDependentOnly) (maxDepth:=1) only[kE];trivial)):G:=h
theorem qz8u (h:G:=by
 have:=run_slice_string_l (P:=Tryz.prog) (t:=9) (s:=s) W Tryz.underlying9 .i64 (lo:Int) (by omega) (by omega)
 simpa using this
 all_goals(apply_rules (newGoals := .nonDependentOnly) (maxDepth:=1) only[kE];trivial)):G:=h
theorem qz8v (h:G:=by
 refine' qz1;refine' qzg
 all_goals(apply_rules (newGoals := .nonDependentOnly) (maxDepth:=1) only[kE];trivial)):G:=h
theorem qz8w (h:G:=by
 go_upto_region 2 with(refine Bk.a0a (b:=V1.heap.size) shS rfl _ _ rfl rfl rfl (Bk.Bk.new _ _ _) rfl rfl e1b ?_)
 have HB:=Lib.hid (bcall HB.out (made V1 #[.nilFunc,.nilFunc,.nilFunc]).2);generalize (V1.alloc (.cells #[.nilFunc,.nilFunc,.nilFunc] 43)).setRow V1.heap.size #[.nilFunc,.nilFunc,.nilFunc]=W at *
 all_goals(apply_rules (newGoals := .nonDependentOnly) (maxDepth:=1) only[kE];trivial)):G:=h
theorem qz8x (h:G:=by
 refine' qzg;refine(P4.out _).mono ?_
 all_goals(apply_rules (newGoals := .nonDependentOnly) (maxDepth:=1) only[kE];trivial)):G:=h
theorem qz8y (h:G:=by
 clear hF;refine H.tk (i:=0) (v := .agg (M.cells a)) ?h0 hS ?_
 case h0=>exact fun w hw=>a0b (x := .tmp 2) rfl rfl (hw.1)
 all_goals(apply_rules (newGoals := .nonDependentOnly) (maxDepth:=1) only[kE];trivial)):G:=h
theorem qz8z (h:G:=by
 have R0:=Lib.hid (R0.out.off (p:=⟨w.heap.size,4+k,none⟩) (by show w.heap.size+1+1≠w.heap.size;omega) (.string m.next))
 have HL:=Lib.hid (HL.out.cellset (p:=⟨w.heap.size,4+k,none⟩) (by show w.heap.size<_;omega) (.string m.next))
 all_goals(apply_rules (newGoals := .nonDependentOnly) (maxDepth:=1) only[kE];trivial)):G:=h
theorem qz90 (h:G:=by
 go_wp2;go_roundw
 case rel=>exact⟨k+1,hlt,by go_num,h1g E2.out.symm,HV,HB⟩
 case measure=>simp[intOf];omega
 all_goals(apply_rules (newGoals := .nonDependentOnly) (maxDepth:=1) only[kE];trivial)):G:=h
theorem qz91 (h:G:=by
 refine' qz0;refine H.tk (i:=4) (v := .pointer (some (p.add (0*25)))) ?h4 hS ?_
 case h4=>exact fun w _=>c0l (x := .tmp 27) (y := .const (.int .i64 0)) rfl rfl rfl h0
 all_goals(apply_rules (newGoals := .nonDependentOnly) (maxDepth:=1) only[kE];trivial)):G:=h
theorem qz92 (h:G:=by
 clear hb c24;refine' qz4
 all_goals(apply_rules (newGoals := .nonDependentOnly) (maxDepth:=1) only[kE];trivial)):G:=h
theorem qz93 (h:G:=by
 go_in;refine' qz2x
 all_goals(apply_rules (newGoals := .nonDependentOnly) (maxDepth:=1) only[kE];trivial)):G:=h
theorem qz94 (h:G:=by
 by_cases h0:0≤n;rotate_left
 · rw[decide_eq_false (fun h=>h0 h.1)]
   refine' qz93
 by_cases h1:n≤3;rotate_left
 · rw[decide_eq_false (fun h=>h1 h.2)]
   refine' qz67
   exact⟨g0a (decide_eq_false (by omega)),rfl⟩
 all_goals(apply_rules (newGoals := .nonDependentOnly) (maxDepth:=1) only[kE];trivial)):G:=h
theorem qz95 (h:G:=by
 refine' qz1e;have c7:=HF.out.m.cs.c7;refine' qz2
 all_goals(apply_rules (newGoals := .nonDependentOnly) (maxDepth:=1) only[kE];trivial)):G:=h
theorem qz96 (h:G:=by
 refine' qz0
 refine H.one (i:=11) (by simp only[List.getElem?_toArray,List.getElem?_cons_succ,List.getElem?_cons_zero];rfl) (by kernel_rfl) (by kernel_rfl) (fun K hK=>?_)
 all_goals(apply_rules (newGoals := .nonDependentOnly) (maxDepth:=1) only[kE];trivial)):G:=h
theorem qz97 (h:G:=by
 refine' qz0
 refine H.one (i:=15) (by simp only[List.getElem?_toArray,List.getElem?_cons_succ,List.getElem?_cons_zero];rfl) (by kernel_rfl) (by kernel_rfl) (fun K hK=>?_)
 all_goals(apply_rules (newGoals := .nonDependentOnly) (maxDepth:=1) only[kE];trivial)):G:=h
theorem qz98 (h:G:=by
 refine' qz0
 refine H.one (i:=19) (by simp only[List.getElem?_toArray,List.getElem?_cons_succ,List.getElem?_cons_zero];rfl) (by kernel_rfl) (by kernel_rfl) (fun K hK=>?_)
 all_goals(apply_rules (newGoals := .nonDependentOnly) (maxDepth:=1) only[kE];trivial)):G:=h
theorem qz99 (h:G:=by
 refine' qz0
 refine H.one (i:=23) (by simp only[List.getElem?_toArray,List.getElem?_cons_succ,List.getElem?_cons_zero];rfl) (by kernel_rfl) (by kernel_rfl) (fun K hK=>?_)
 all_goals(apply_rules (newGoals := .nonDependentOnly) (maxDepth:=1) only[kE];trivial)):G:=h
theorem qz9a (h:G:=by
 refine' qz0
 refine H.one (i:=8) (by simp only[List.getElem?_toArray,List.getElem?_cons_succ,List.getElem?_cons_zero];rfl) (by kernel_rfl) (by kernel_rfl) (fun K hK=>?_)
 all_goals(apply_rules (newGoals := .nonDependentOnly) (maxDepth:=1) only[kE];trivial)):G:=h
theorem qz9b (h:G:=by
 refine' qz0
 refine H.one (i:=1) (by simp only[List.getElem?_toArray,List.getElem?_cons_succ,List.getElem?_cons_zero];rfl) (by kernel_rfl) (by kernel_rfl) (fun K hK=>?_)
 all_goals(apply_rules (newGoals := .nonDependentOnly) (maxDepth:=1) only[kE];trivial)):G:=h
theorem qz9c (h:G:=by
 obtain⟨l,r,h1,h2,h3⟩:=l0i _ s.data.toList (Nat.le_refl _);by_cases hr:r = []
 · subst hr;rw[List.append_nil]at h2;exact .inl ⟨l,h1,h2,u0a h1 h2⟩
 · exact .inr ⟨l,r,h1,h2,h3,hr,u0e h1 h2 h3 hr⟩
 all_goals(apply_rules (newGoals := .nonDependentOnly) (maxDepth:=1) only[kE];trivial)):G:=h
theorem qz9d (h:G:=by
 have HS:=Lib.hid (show(⟨(layN v n).toArray⟩:ByteArray).size≤100000 from by have:=i0a v n;show(layN v n).toArray.size≤_;simp;omega)
 have HE:=Lib.hid (show(⟨(layN v n).toArray⟩:ByteArray).data.toList=layN v n from rfl)
 all_goals(apply_rules (newGoals := .nonDependentOnly) (maxDepth:=1) only[kE];trivial)):G:=h
theorem qz9e (h:G:=by
 have P0:=fun V=>j1f p V
 rw[hp.1,hp.2]at P0
 all_goals(apply_rules (newGoals := .nonDependentOnly) (maxDepth:=1) only[kE];trivial)):G:=h
theorem qz9f (h:G:=by
 obtain⟨n,rfl,hb,ha⟩:=hr.boxed hlt bel.out;have R1:=Lib.hid (R0.out.below hb)
 all_goals(apply_rules (newGoals := .nonDependentOnly) (maxDepth:=1) only[kE];trivial)):G:=h
theorem qz9g (h:G:=by
 refine AllReadyH.cons rfl (fun K hK=>?_) AllReadyH.nil
 have cx:=hG.msg.cell 19 _ rfl
 all_goals(apply_rules (newGoals := .nonDependentOnly) (maxDepth:=1) only[kE];trivial)):G:=h
theorem qz9h (h:G:=by
 go_simp
 have hG:=hG.set (i:=19) (v := .string ta) (m':={ mi with addr:=ta}) rfl
 all_goals(apply_rules (newGoals := .nonDependentOnly) (maxDepth:=1) only[kE];trivial)):G:=h
theorem qz9i (h:G:=by
 refine' qz10
 obtain⟨B1,bel1⟩:Box w1 (w.heap.size+1) { data:=#[]} 0 0 false∧Below w.heap.size w w1:=
  ⟨by have:=k0e (j0h _ _ _ _ _) hb1;simpa using this,bcall (balloc (balloc (Below.refl _ _) _) _) hb1⟩
 all_goals(apply_rules (newGoals := .nonDependentOnly) (maxDepth:=1) only[kE];trivial)):G:=h
theorem qz9j (h:G:=by
 unfold Addr.add;split
 · rename_i h;rw[h];rfl
 · rfl
 all_goals(apply_rules (newGoals := .nonDependentOnly) (maxDepth:=1) only[kE];trivial)):G:=h
theorem qz9k (h:G:=by
 refine' qz0;refine H.sk (i:=14) (d:=28) hS ?_
 all_goals(apply_rules (newGoals := .nonDependentOnly) (maxDepth:=1) only[kE];trivial)):G:=h
theorem qz9l (h:G:=by
 refine' qz0;refine H.sk (i:=15) (d:=29) hS ?_
 all_goals(apply_rules (newGoals := .nonDependentOnly) (maxDepth:=1) only[kE];trivial)):G:=h
theorem qz9m (h:G:=by
 refine' qz0;refine H.sk (i:=16) (d:=30) hS ?_
 all_goals(apply_rules (newGoals := .nonDependentOnly) (maxDepth:=1) only[kE];trivial)):G:=h
theorem qz9n (h:G:=by
 refine' qz0;refine H.sk (i:=17) (d:=31) hS ?_
 all_goals(apply_rules (newGoals := .nonDependentOnly) (maxDepth:=1) only[kE];trivial)):G:=h
theorem qz9o (h:G:=by
 refine' qz0;refine H.sk (i:=18) (d:=32) hS ?_
 all_goals(apply_rules (newGoals := .nonDependentOnly) (maxDepth:=1) only[kE];trivial)):G:=h
theorem qz9p (h:G:=by
 refine' qz0;refine H.sk (i:=19) (d:=33) hS ?_
 all_goals(apply_rules (newGoals := .nonDependentOnly) (maxDepth:=1) only[kE];trivial)):G:=h
theorem qz9q (h:G:=by
 refine' qz0;refine H.sk (i:=20) (d:=34) hS ?_
 all_goals(apply_rules (newGoals := .nonDependentOnly) (maxDepth:=1) only[kE];trivial)):G:=h
theorem qz9r (h:G:=by
 refine' qzg;refine(b0l _ (HT.out.below HB.out)).mono ?_
 all_goals(apply_rules (newGoals := .nonDependentOnly) (maxDepth:=1) only[kE];trivial)):G:=h
theorem qz9s (h:G:=by
 rw[v0m (by omega)]
 omega
 all_goals(apply_rules (newGoals := .nonDependentOnly) (maxDepth:=1) only[kE];trivial)):G:=h
theorem qz9t (h:G:=by
 refine UInt8.toNat_inj.1 ?_
 all_goals(apply_rules (newGoals := .nonDependentOnly) (maxDepth:=1) only[kE];trivial)):G:=h
theorem qz9u (h:G:=by
 have c3:UInt8.ofNat (bt s 3).toNat=s.data.toList.getD 3 0:=by
  refine' qz9t;have:((s.data.toList.getD 3 0).toNat:Int)=bt s 3:=rfl;refine' qz9s
 conv=>rhs;rw[hl,←c0,←c1,←c2,←c3]
 all_goals(apply_rules (newGoals := .nonDependentOnly) (maxDepth:=1) only[kE];trivial)):G:=h
theorem qz9v (h:G:=by
 refine' qz0;refine H.tk (i:=6) (v := .pointer (some (q.add (k*25)))) ?h6 hS ?_
 case h6=>exact fun w _=>c0l (x := .tmp 21) (y := .tmp 22) rfl rfl rfl hlt2
 all_goals(apply_rules (newGoals := .nonDependentOnly) (maxDepth:=1) only[kE];trivial)):G:=h
theorem qz9w (h:G:=by
 refine H.tk (i:=2) (v := .pointer (some (p.add (k*25)))) ?h2 hS ?_
 case h2=>exact fun w _=>c0l (x := .tmp 17) (y := .tmp 18) rfl rfl rfl hlt
 refine' qz0
 all_goals(apply_rules (newGoals := .nonDependentOnly) (maxDepth:=1) only[kE];trivial)):G:=h
theorem qz9x (h:G:=by
 have XU:=U0.out.off (p:=⟨w.heap.size,6,none⟩) (by show w.heap.size+1≠w.heap.size;omega) (.string (idA a))
 have XR:=R0.out.off (p:=⟨w.heap.size,6,none⟩) (by show w.heap.size+1+1≠w.heap.size;omega) (.string (idA a))
 all_goals(apply_rules (newGoals := .nonDependentOnly) (maxDepth:=1) only[kE];trivial)):G:=h
theorem qz9y (h:G:=by
 unfold bt
 rw[List.getD_eq_getElem?_getD,List.getElem?_eq_getElem (by simpa using h)]
 all_goals(apply_rules (newGoals := .nonDependentOnly) (maxDepth:=1) only[kE];trivial)):G:=h
theorem qz9z (h:G:=by
 refine' qz31
 refine wp_region_held_drew (S:=fun W=>Us w ({ c with id:=m.id}) m W) (by kernel_rfl) D.out.drew (fun hS=>?_)
 all_goals(apply_rules (newGoals := .nonDependentOnly) (maxDepth:=1) only[kE];trivial)):G:=h
theorem qza0 (h:G:=by
 have HY:=Lib.hid hwp;clear hwp hnn hss hbo hz hi hn
 all_goals(apply_rules (newGoals := .nonDependentOnly) (maxDepth:=1) only[kE];trivial)):G:=h
theorem qza1 (h:G:=by
 refine⟨rfl,?_,HU.out.bel,HU.out.oth⟩;have hw:=HU.out.wr
 all_goals(apply_rules (newGoals := .nonDependentOnly) (maxDepth:=1) only[kE];trivial)):G:=h
theorem qza2 (h:G:=by
 refine' qz2n;refine H.tk (i:=3) (v:=?v3) ?h3 hS ?_
 case h3=>(intro w hw;go_simp;first|done|(with_reducible rfl))
 all_goals(apply_rules (newGoals := .nonDependentOnly) (maxDepth:=1) only[kE];trivial)):G:=h
theorem qza3 (h:G:=by
 refine' qz0;have cx:=HR2.out.cell 2 _ rfl
 all_goals(apply_rules (newGoals := .nonDependentOnly) (maxDepth:=1) only[kE];trivial)):G:=h
theorem qza4 (h:G:=by
 go_upto_region 2 with(refine s0b (b:=w1.heap.size) (m:=Kx.zero) (m':=cw) rfl _ _ rfl rfl rfl (Bk.Bk.new 74 w1 Kx.zero.cells) ?_)
 change Code.wp _ _ _ _ ((w1.alloc (.cells Kx.zero.cells 74)).setRow w1.heap.size (Kx.cells cw))
 all_goals(apply_rules (newGoals := .nonDependentOnly) (maxDepth:=1) only[kE];trivial)):G:=h
theorem qza5 (h:G:=by
 refine' qz67;exact⟨int_eq HK.out.symm,rfl⟩
 all_goals(apply_rules (newGoals := .nonDependentOnly) (maxDepth:=1) only[kE];trivial)):G:=h
theorem qza6 (h:G:=by
 have HM:=Lib.hid hm;have HQ:=Lib.hid hl2
 all_goals(apply_rules (newGoals := .nonDependentOnly) (maxDepth:=1) only[kE];trivial)):G:=h
theorem qza7 (h:G:=by
 intro v' w' h2 h3 _
 refine h v' w' ?_ ((Below.refl B w).grown h3 hB (fun k hk=>(World.ownsRow.lt hown k hk).1)) h3.size
 all_goals(apply_rules (newGoals := .nonDependentOnly) (maxDepth:=1) only[kE];trivial)):G:=h
theorem qza8 (h:G:=by
 have XU:=U0.out.off (p:=⟨w.heap.size,k,none⟩) (by show w.heap.size+1≠w.heap.size;omega) (.string a)
 have XR:=R0.out.off (p:=⟨w.heap.size,k,none⟩) (by show w.heap.size+1+1≠w.heap.size;omega) (.string a)
 all_goals(apply_rules (newGoals := .nonDependentOnly) (maxDepth:=1) only[kE];trivial)):G:=h
theorem qza9 (h:G:=by
 go_upto_region 8 with(refine f0b (b:=w.heap.size) (c:=c) (c':=cf) (v:=nilV) (q:=none) (n:=0) (k:=0) rfl _ _ rfl rfl rfl S0.out ?_)
 have HL:=Lib.hid (f0c HL.out (g:=w.heap.size) (by omega) (stC cf nilV))
 all_goals(apply_rules (newGoals := .nonDependentOnly) (maxDepth:=1) only[kE];trivial)):G:=h
theorem qzaa (h:G:=by
 change Code.wp _ _ _ _ (((w.alloc (.cells (stC c nilV) 211)).alloc (.cells u.cells 223)).alloc (.cells M.zero.cells 29));generalize ((w.alloc (.cells (stC c nilV) 211)).alloc (.cells u.cells 223)).alloc (.cells M.zero.cells 29)=W at *
 all_goals(apply_rules (newGoals := .nonDependentOnly) (maxDepth:=1) only[kE];trivial)):G:=h
theorem qzab (h:G:=by
 clear cE fE;generalize World.setCell _ _ _=W at *
 all_goals(apply_rules (newGoals := .nonDependentOnly) (maxDepth:=1) only[kE];trivial)):G:=h
theorem qzac (h:G:=by
 go_wp2_with (first|(refine f0a (b:=w.heap.size) shE rfl _ rfl rfl B0.out rfl ?_))
 refine(P1.out _).mono ?_
 all_goals(apply_rules (newGoals := .nonDependentOnly) (maxDepth:=1) only[kE];trivial)):G:=h
theorem qzad (h:G:=by
 generalize wr.heap.size=g7 at *
 go_wp2_with (first|(refine j0a (b:=g7) (m:=u) rfl _ rfl rfl BU.out ?_))
 all_goals(apply_rules (newGoals := .nonDependentOnly) (maxDepth:=1) only[kE];trivial)):G:=h
theorem qzae (h:G:=by
 refine' qz0;replace bel:=bel.trans hb2
 all_goals(apply_rules (newGoals := .nonDependentOnly) (maxDepth:=1) only[kE];trivial)):G:=h
theorem qzaf (h:G:=by
 have R4:=Lib.hid (R3.out.off (p:=⟨g,24,none⟩) (by show w.heap.size≠g;omega) (.slice a l.length c))
 have bel4:=Lib.hid (bel3.out.setCell (p:=⟨g,24,none⟩) (by show w.heap.size≤g;omega) (.slice a l.length c))
 all_goals(apply_rules (newGoals := .nonDependentOnly) (maxDepth:=1) only[kE];trivial)):G:=h
theorem qzag (h:G:=by
 have XR:=R0.out.off (p:=⟨w.heap.size,5,none⟩) (by show w.heap.size+1≠w.heap.size;omega) (.string eb)
 have XB:=HB.out.setCell (p:=⟨w.heap.size,5,none⟩) (by show w.heap.size≤w.heap.size;omega) (.string eb)
 all_goals(apply_rules (newGoals := .nonDependentOnly) (maxDepth:=1) only[kE];trivial)):G:=h
theorem qzah (h:G:=by
 refine(P0.out _).mono ?_;rintro e V1 ⟨rfl,hb⟩
 all_goals(apply_rules (newGoals := .nonDependentOnly) (maxDepth:=1) only[kE];trivial)):G:=h
theorem qzai (h:G:=by
 obtain⟨p,h1,h2,h3,h4⟩:=h i hi;refine⟨p,h1,Nat.lt_of_lt_of_le h2 hb.size,?_,?_⟩
 · rw[hb.cell (by rw[b0b];exact h2)];exact h3
 · rw[hb.cell (by rw[b0b,b0b];exact h2)];exact h4
 all_goals(apply_rules (newGoals := .nonDependentOnly) (maxDepth:=1) only[kE];trivial)):G:=h
theorem qzaj (h:G:=by
 refine' qzg;go_end0
 all_goals(apply_rules (newGoals := .nonDependentOnly) (maxDepth:=1) only[kE];trivial)):G:=h
theorem qzak (h:G:=by
 subst hi
 rw[run_index_string W 9 b .i64 (k:Int) Tryz.underlying9,dif_pos ⟨by omega,by omega⟩,←p0h b k h]
 all_goals(apply_rules (newGoals := .nonDependentOnly) (maxDepth:=1) only[kE];trivial)):G:=h
theorem qzal (h:G:=by
 refine' qzo;refine' qzn
 all_goals(apply_rules (newGoals := .nonDependentOnly) (maxDepth:=1) only[kE];trivial)):G:=h
theorem qzam (h:G:=by
 have c11:=b0.cs.c11;have c12:=b0.cs.c12
 all_goals(apply_rules (newGoals := .nonDependentOnly) (maxDepth:=1) only[kE];trivial)):G:=h
theorem qzan (h:G:=by
 clear hK K hb hS;have hS:=hS';clear hS';refine' qz0
 all_goals(apply_rules (newGoals := .nonDependentOnly) (maxDepth:=1) only[kE];trivial)):G:=h
theorem qzao (h:G:=by
 have c15:=b0.cs.c15;have c19:=b0.cs.c19
 all_goals(apply_rules (newGoals := .nonDependentOnly) (maxDepth:=1) only[kE];trivial)):G:=h
theorem qzap (h:G:=by
 generalize w3.setRow w.heap.size (stC cf nilV)=V4 at *
 go_wp2_with (first|(refine n0b (b:=w.heap.size) (c:=cf) (v:=nilV) rfl _ rfl rfl S0.out ?_)|(refine u0c (b:=g1) (m:=v) rfl _ rfl rfl U0.out ?_))
 all_goals(apply_rules (newGoals := .nonDependentOnly) (maxDepth:=1) only[kE];trivial)):G:=h
theorem qzaq (h:G:=by
 refine' qz0;refine H.tk (i:=7) (v:=?v7) ?h7 hS ?_
 case h7=>(intro w hw;have c:=(hw.1).cs.c21;go_simp;first|done|(with_reducible rfl))
 all_goals(apply_rules (newGoals := .nonDependentOnly) (maxDepth:=1) only[kE];trivial)):G:=h
theorem qzar (h:G:=by
 refine' qzg
 refine(rdnum s (nx s 1 (0,false)) 1 b 1 rfl hs HG.out.le (by omega) (by omega) _ HG.out.rd).mono ?_
 all_goals(apply_rules (newGoals := .nonDependentOnly) (maxDepth:=1) only[kE];trivial)):G:=h
theorem qzas (h:G:=by
 refine' qz5n;exact bodyPost_ret (v := .tuple #[.agg n.cells,.int .i64 (outP b).2.1,.int .i64 (outP b).2.2]) (ret3 rfl _ _ w.heap.size n rfl (R1.out.put (m':=n)) (.int .i64 (outP b).2.1) rfl (.int .i64 (outP b).2.2) rfl) rfl HA.out
 all_goals(apply_rules (newGoals := .nonDependentOnly) (maxDepth:=1) only[kE];trivial)):G:=h
theorem qzat (h:G:=by
 refine' qz22;clear hb c5 c6 c7 c24
 all_goals(apply_rules (newGoals := .nonDependentOnly) (maxDepth:=1) only[kE];trivial)):G:=h
theorem qzau (h:G:=by
 by_cases h1:n=1
 · subst h1;refine' qz93
 by_cases h2:n=2
 · subst h2;refine' qz93
 all_goals(apply_rules (newGoals := .nonDependentOnly) (maxDepth:=1) only[kE];trivial)):G:=h
theorem qzav (h:G:=by
 go_wp2_with (first|(refine j0a (b:=w.heap.size) (m:=m) rfl _ rfl rfl B0.out ?_))
 refine P1.out.mono ?_
 all_goals(apply_rules (newGoals := .nonDependentOnly) (maxDepth:=1) only[kE];trivial)):G:=h
theorem qzaw (h:G:=by
 refine' qz0;refine H.tk (i:=5) (v := .agg (M.cells f)) ?h5 hS ?_
 case h5=>exact fun w hw=>t0i (x := .tmp 28) rfl rfl (HAT.out w hw.row)
 all_goals(apply_rules (newGoals := .nonDependentOnly) (maxDepth:=1) only[kE];trivial)):G:=h
theorem qzax (h:G:=by
 clear hb;generalize w.alloc (.cells M.zero.cells 29)=W at *
 all_goals(apply_rules (newGoals := .nonDependentOnly) (maxDepth:=1) only[kE];trivial)):G:=h
theorem qzay (h:G:=by
 refine' qzg;refine(HC.out _).mono ?_
 all_goals(apply_rules (newGoals := .nonDependentOnly) (maxDepth:=1) only[kE];trivial)):G:=h
theorem qzaz (h:G:=by
 refine' qzg;refine(PI.out _).mono ?_
 all_goals(apply_rules (newGoals := .nonDependentOnly) (maxDepth:=1) only[kE];trivial)):G:=h
theorem qzb0 (h:G:=by
 refine H.tk (i:=4) (v := .bool true) ?h4 hS ?_
 case h4=>exact fun w _=>n1c (x := .tmp 6) (y := .tmp 8) rfl rfl rfl HF.out
 refine' qz0
 all_goals(apply_rules (newGoals := .nonDependentOnly) (maxDepth:=1) only[kE];trivial)):G:=h
theorem qzb1 (h:G:=by
 rw[Array.all_eq_true_iff_forall_mem]at this
 exact this u (by simpa using hu)
 all_goals(apply_rules (newGoals := .nonDependentOnly) (maxDepth:=1) only[kE];trivial)):G:=h
theorem qzb2 (h:G:=by
 refine' qz2k;refine' qz2d
 all_goals(apply_rules (newGoals := .nonDependentOnly) (maxDepth:=1) only[kE];trivial)):G:=h
theorem qzb3 (h:G:=by
 go_upto_region 2 with(refine e0a (b:=w1.heap.size) (m:=M.zero) (m':=r) rfl _ _ rfl rfl rfl (Bx.new w1 M.zero) ?_)
 change Code.wp _ _ _ _ ((w1.alloc (.cells M.zero.cells 29)).setRow w1.heap.size (M.cells r))
 all_goals(apply_rules (newGoals := .nonDependentOnly) (maxDepth:=1) only[kE];trivial)):G:=h
theorem qzb4 (h:G:=by
 have hx:=v0j hw;rw[hx]at P1
 all_goals(apply_rules (newGoals := .nonDependentOnly) (maxDepth:=1) only[kE];trivial)):G:=h
theorem qzb5 (h:G:=by
 refine' qzg
 refine(u0b B b _ m.plen 1 1 rfl (by omega) (by omega) _ HU.out.wr HU.out.siz (by have:=HL.out;simp only[List.length_append];have:=i0a (m.plen) 1;have:=i0a (m.ae) 1;omega)).mono ?_
 all_goals(apply_rules (newGoals := .nonDependentOnly) (maxDepth:=1) only[kE];trivial)):G:=h
theorem qzb6 (h:G:=by
 have c11:=HU.out.m.cs.c11;have c12:=HU.out.m.cs.c12;have c16:=HU.out.m.cs.c16
 all_goals(apply_rules (newGoals := .nonDependentOnly) (maxDepth:=1) only[kE];trivial)):G:=h
theorem qzb7 (h:G:=by
 go_upto_region 2 with fail
 all_goals(apply_rules (newGoals := .nonDependentOnly) (maxDepth:=1) only[kE];trivial)):G:=h
theorem qzb8 (h:G:=by
 go_in;refine' qzb7
 all_goals(apply_rules (newGoals := .nonDependentOnly) (maxDepth:=1) only[kE];trivial)):G:=h
theorem qzb9 (h:G:=by
 refine' qzal;refine' qz14
 all_goals(apply_rules (newGoals := .nonDependentOnly) (maxDepth:=1) only[kE];trivial)):G:=h
theorem qzba (h:G:=by
 have R2:=Lib.hid (R1.out.below hb);have bel2:=Lib.hid (bcall bel1.out hb)
 all_goals(apply_rules (newGoals := .nonDependentOnly) (maxDepth:=1) only[kE];trivial)):G:=h
theorem qzbb (h:G:=by
 refine' qzr;clear hb c19 c20 c24
 all_goals(apply_rules (newGoals := .nonDependentOnly) (maxDepth:=1) only[kE];trivial)):G:=h
theorem qzbc (h:G:=by
 refine' qz5w;exact AnsE.of HZ.out hb
 all_goals(apply_rules (newGoals := .nonDependentOnly) (maxDepth:=1) only[kE];trivial)):G:=h
theorem qzbd (h:G:=by
 generalize ((w.alloc (.cells (cur s p s.size false) 150)).alloc (.cells (cellsT zT) 110)).alloc (.cells noC 150)=W0 at *
 go_wp2_with (first|(refine f0a (b:=w.heap.size) shC rfl _ rfl rfl HG.out.cur rfl ?_))
 all_goals(apply_rules (newGoals := .nonDependentOnly) (maxDepth:=1) only[kE];trivial)):G:=h
theorem qzbe (h:G:=by
 intro w2 hown2 hgrow2
 have HB2:Hid (Below w.heap.size w w2):=Lib.hid (((Below.refl _ _).grown HG.out (Nat.le_refl _) (fun k hk=>by cases hk)).grown hgrow2 HG.out.size (fun k hk=>by cases hk;exact Nat.le_refl _))
 all_goals(apply_rules (newGoals := .nonDependentOnly) (maxDepth:=1) only[kE];trivial)):G:=h
theorem qzbf (h:G:=by
 go_wp2;go_roundw
 case rel=>exact⟨k+1,hlt,by go_num,HD,HR⟩
 case measure=>simp[intOf];omega
 all_goals(apply_rules (newGoals := .nonDependentOnly) (maxDepth:=1) only[kE];trivial)):G:=h
theorem qzbg (h:G:=by
 have h0:S2 w a b ((w.alloc (.cells a.cells 29)).alloc (.cells b.cells 29)):=⟨ba,bb,ha.below (balloc (balloc (Below.refl _ _) _) _),hb.below (balloc (balloc (Below.refl _ _) _) _),bel⟩;clear ba bb bel ha hb
 all_goals(apply_rules (newGoals := .nonDependentOnly) (maxDepth:=1) only[kE];trivial)):G:=h
theorem qzbh (h:G:=by
 refine' qz0;refine H.tk (i:=7) (v := .agg (M.cells v)) ?h7 hS ?_
 case h7=>exact fun w hw=>t0i (x := .tmp 23) rfl rfl hw.2.1
 all_goals(apply_rules (newGoals := .nonDependentOnly) (maxDepth:=1) only[kE];trivial)):G:=h
theorem qzbi (h:G:=by
 refine' qz0;refine H.tk (i:=6) (v := .agg (M.cells u)) ?h6 hS ?_
 case h6=>exact fun w hw=>a0b (x := .tmp 6) rfl rfl hw.own
 all_goals(apply_rules (newGoals := .nonDependentOnly) (maxDepth:=1) only[kE];trivial)):G:=h
theorem qzbj (h:G:=by
 obtain⟨h1,v,h2,h3⟩:=h;exact⟨h1,v,h2.below hb,h3.below hb⟩
 all_goals(apply_rules (newGoals := .nonDependentOnly) (maxDepth:=1) only[kE];trivial)):G:=h
theorem qzbk (h:G:=by
 rintro r w1 ⟨rfl,hb⟩;refine' qz4n
 all_goals(apply_rules (newGoals := .nonDependentOnly) (maxDepth:=1) only[kE];trivial)):G:=h
theorem qzbl (h:G:=by
 refine H.tk (i:=0) (v:=?v0x1p) ?h0x1p hS ?_
 case h0x1p=>(intro w hw;go_simp;first|done|(with_reducible rfl))
 refine' qz0
 all_goals(apply_rules (newGoals := .nonDependentOnly) (maxDepth:=1) only[kE];trivial)):G:=h
theorem qzbm (h:G:=by
 rintro r W4 ⟨rfl,hb4⟩;refine hK.out _ _ (Sc.of (HR3.out.below hb4)) ?_
 all_goals(apply_rules (newGoals := .nonDependentOnly) (maxDepth:=1) only[kE];trivial)):G:=h
theorem qzbn (h:G:=by
 go_wp2_with (first|(refine f0a (b:=g) shC rfl _ rfl rfl HC.out rfl ?_))
 refine(PL.out _).mono ?_
 all_goals(apply_rules (newGoals := .nonDependentOnly) (maxDepth:=1) only[kE];trivial)):G:=h
theorem qzbo (h:G:=by
 refine' qz8a
 go_wp2_with (first|(refine d0a rfl 223 _ rfl (Up.cells Up.zero) (by kernel_rfl) ?_)|(refine z0b (b:=w.heap.size+1) (m:=Up.zero) (m':=Up.zero) rfl _ _ rfl rfl rfl X0.out ?_))
 all_goals(apply_rules (newGoals := .nonDependentOnly) (maxDepth:=1) only[kE];trivial)):G:=h
theorem qzbp (h:G:=by
 have e2:(n==2)=false:=by simpa using h2
 have e:isCmd n=false:=by unfold isCmd;rw[e1,e2];rfl
 all_goals(apply_rules (newGoals := .nonDependentOnly) (maxDepth:=1) only[kE];trivial)):G:=h
theorem qzbq (h:G:=by
 refine' qz0;refine H.tk (i:=1) (v := .bool true) ?h1 hS ?_
 case h1=>(intro w hw;go_simp;first|done|(with_reducible rfl))
 all_goals(apply_rules (newGoals := .nonDependentOnly) (maxDepth:=1) only[kE];trivial)):G:=h
theorem qzbr (h:G:=by
 clear hK K hS;have hS:=hS8
 all_goals(apply_rules (newGoals := .nonDependentOnly) (maxDepth:=1) only[kE];trivial)):G:=h
theorem qzbs (h:G:=by
 refine H.tk (i:=0) (v:=?v0x1) ?h0x1 hS ?_
 case h0x1=>(intro w hw;go_simp;first|done|(with_reducible rfl))
 refine' qz0
 all_goals(apply_rules (newGoals := .nonDependentOnly) (maxDepth:=1) only[kE];trivial)):G:=h
theorem qzbt (h:G:=by
 refine H.tk (i:=0) (v:=?v0c0) ?h0c0 hS ?_
 case h0c0=>(intro w hw;go_simp;first|done|(with_reducible rfl))
 refine' qz0
 all_goals(apply_rules (newGoals := .nonDependentOnly) (maxDepth:=1) only[kE];trivial)):G:=h
theorem qzbu (h:G:=by
 refine H.tk (i:=0) (v:=?v0c1) ?h0c1 hS ?_
 case h0c1=>(intro w hw;go_simp;first|done|(with_reducible rfl))
 refine' qz0
 all_goals(apply_rules (newGoals := .nonDependentOnly) (maxDepth:=1) only[kE];trivial)):G:=h
theorem qzbv (h:G:=by
 refine H.tk (i:=0) (v:=?v0c2) ?h0c2 hS ?_
 case h0c2=>(intro w hw;go_simp;first|done|(with_reducible rfl))
 refine' qz0
 all_goals(apply_rules (newGoals := .nonDependentOnly) (maxDepth:=1) only[kE];trivial)):G:=h
theorem qzbw (h:G:=by
 refine H.tk (i:=0) (v:=?v0c3) ?h0c3 hS ?_
 case h0c3=>(intro w hw;go_simp;first|done|(with_reducible rfl))
 refine' qz0
 all_goals(apply_rules (newGoals := .nonDependentOnly) (maxDepth:=1) only[kE];trivial)):G:=h
theorem qzbx (h:G:=by
 refine' qz0;refine H.tk (i:=13) (v:=?v13) ?h13 hS ?_
 case h13=>(intro w hw;go_simp;first|done|(with_reducible rfl))
 all_goals(apply_rules (newGoals := .nonDependentOnly) (maxDepth:=1) only[kE];trivial)):G:=h
theorem qzby (h:G:=by
 refine' qz0;refine H.tk (i:=15) (v:=?v15) ?h15 hS ?_
 case h15=>(intro w hw;go_simp;first|done|(with_reducible rfl))
 all_goals(apply_rules (newGoals := .nonDependentOnly) (maxDepth:=1) only[kE];trivial)):G:=h
theorem qzbz (h:G:=by
 go_upto_region 9 with(first|(refine k0d (m:=u) rfl _ rfl rfl HCk.out ?_)|(refine e0a (b:=wr.heap.size) (m:=M.zero) (m':=u) rfl _ _ rfl rfl rfl (heap_alloc_new wr _) ?_))
 refine' qz5b
 all_goals(apply_rules (newGoals := .nonDependentOnly) (maxDepth:=1) only[kE];trivial)):G:=h
theorem qzc0 (h:G:=by
 have b1:=B0.out.below hb;have c1:=b1.cs.c1
 all_goals(apply_rules (newGoals := .nonDependentOnly) (maxDepth:=1) only[kE];trivial)):G:=h
theorem qzc1 (h:G:=by
 refine H.tk (i:=11) (v:=?v11) ?h11 hS ?_
 case h11=>(intro w hw;go_simp;first|done|(with_reducible rfl))
 refine' qz0
 all_goals(apply_rules (newGoals := .nonDependentOnly) (maxDepth:=1) only[kE];trivial)):G:=h
theorem qzc2 (h:G:=by
 refine' qzi;generalize w.alloc (.cells e.cells 59)=V at *
 all_goals(apply_rules (newGoals := .nonDependentOnly) (maxDepth:=1) only[kE];trivial)):G:=h
theorem qzc3 (h:G:=by
 have hS':=hS.call hb;refine hK.out _ _ hS' ?_;refine' qzan
 all_goals(apply_rules (newGoals := .nonDependentOnly) (maxDepth:=1) only[kE];trivial)):G:=h
theorem qzc4 (h:G:=by
 have bel:=balloc (Below.refl w1.heap.size w1) (.cells #[.string x1] 9);refine' qz4i
 all_goals(apply_rules (newGoals := .nonDependentOnly) (maxDepth:=1) only[kE];trivial)):G:=h
theorem qzc5 (h:G:=by
 clear c11 d fd
 have D:=Lib.hid (D.out.set (c':={ c with id:=m.id}) (k:=6) (v := .string m.id) rfl)
 all_goals(apply_rules (newGoals := .nonDependentOnly) (maxDepth:=1) only[kE];trivial)):G:=h
theorem qzc6 (h:G:=by
 refine' qz6;refine' qz7
 all_goals(apply_rules (newGoals := .nonDependentOnly) (maxDepth:=1) only[kE];trivial)):G:=h
theorem qzc7 (h:G:=by
 refine' qzh;rintro r _ ⟨rfl,rfl⟩
 all_goals(apply_rules (newGoals := .nonDependentOnly) (maxDepth:=1) only[kE];trivial)):G:=h
theorem qzc8 (h:G:=by
 rintro r w1 ⟨rfl,hb⟩;refine' qz2a
 all_goals(apply_rules (newGoals := .nonDependentOnly) (maxDepth:=1) only[kE];trivial)):G:=h
theorem qzc9 (h:G:=by
 go_wp2_with (first|(refine n0b (b:=w.heap.size) (c:=c) (v:=nilV) rfl _ rfl rfl S0.out ?_)|(refine u0c (b:=g1) (m:=v) rfl _ rfl rfl U0.out ?_))
 all_goals(apply_rules (newGoals := .nonDependentOnly) (maxDepth:=1) only[kE];trivial)):G:=h
theorem qzca (h:G:=by
 generalize flagC c v ad=cf at *;refine' qzc9
 all_goals(apply_rules (newGoals := .nonDependentOnly) (maxDepth:=1) only[kE];trivial)):G:=h
theorem qzcb (h:G:=by
 refine' qz31
 refine wp_region_held_drew (S:=fun W=>Us w (c) m W) (by kernel_rfl) D.out.drew (fun hS=>?_)
 all_goals(apply_rules (newGoals := .nonDependentOnly) (maxDepth:=1) only[kE];trivial)):G:=h
theorem qzcc (h:G:=by
 have hW2:=X0.out.lt
 have HB:=Lib.hid (HB.out.trans (hbel.to (C:=w.heap.size) (by omega) (by omega)))
 all_goals(apply_rules (newGoals := .nonDependentOnly) (maxDepth:=1) only[kE];trivial)):G:=h
theorem qzcd (h:G:=by
 refine H.tk (i:=9) (v:=?v9) ?h9 hS ?_
 case h9=>(intro w hw;go_simp;first|done|(with_reducible rfl))
 refine' qz0
 all_goals(apply_rules (newGoals := .nonDependentOnly) (maxDepth:=1) only[kE];trivial)):G:=h
theorem qzce (h:G:=by
 refine' qz2i
 refine H.tk (i:=9) (v:=(.string a3)) (fun w _=>rfl) hS ?_
 all_goals(apply_rules (newGoals := .nonDependentOnly) (maxDepth:=1) only[kE];trivial)):G:=h
theorem qzcf (h:G:=by
 refine' qz4n;have HO:=Lib.hid hown
 all_goals(apply_rules (newGoals := .nonDependentOnly) (maxDepth:=1) only[kE];trivial)):G:=h
theorem qzcg (h:G:=by
 have C:=Bk.Bk.new 150 w2 #[.string ⟨#[]⟩,.int .i64 0,.int .i64 0,.bool false]
 go_upto_region 2 with(refine a0a (b:=w2.heap.size) shC rfl _ _ rfl rfl rfl C rfl rfl (n0w s 1 z) ?_)
 all_goals(apply_rules (newGoals := .nonDependentOnly) (maxDepth:=1) only[kE];trivial)):G:=h
theorem qzch (h:G:=by
 have fd:=D.out.s0.frozen (4+k)
 go_upto_region 13 with(first|(refine p0a (v := .pointer (some ⟨w.heap.size,4+k,none⟩)) (by rfl) rfl (f0e rfl rfl rfl (c0j w.heap.size k hk2 _)) ?_))
 all_goals(apply_rules (newGoals := .nonDependentOnly) (maxDepth:=1) only[kE];trivial)):G:=h
theorem qzci (h:G:=by
 have c22:=HF.out.m.cs.c22;have c23:=HF.out.m.cs.c23
 all_goals(apply_rules (newGoals := .nonDependentOnly) (maxDepth:=1) only[kE];trivial)):G:=h
theorem qzcj (h:G:=by
 go_wp2_with (first|(refine j0a (b:=g) (m:=base b) rfl _ rfl rfl HB1.out ?_)|(refine e0a (b:=w.heap.size) (m:=M.zero) (m':=base b) rfl _ _ rfl rfl rfl HB0.out ?_))
 rw[HZ.out.1,HZ.out.2];exact bodyPost_ret (v := .tuple #[.agg (base b).cells,.int .i64 4]) (Own.m0a (ty:=29) rfl _ _ w.heap.size _ rfl (Own.loadVarM (HB0.out.put (m':=base b))) _ rfl) rfl ⟨rfl,below_setRow BL (Nat.le_refl _) _⟩
 all_goals(apply_rules (newGoals := .nonDependentOnly) (maxDepth:=1) only[kE];trivial)):G:=h
theorem qzck (h:G:=by
 have i1:=idx s 1 1 rfl (by omega)
 have i2:=idx s 2 2 rfl (by omega)
 all_goals(apply_rules (newGoals := .nonDependentOnly) (maxDepth:=1) only[kE];trivial)):G:=h
theorem qzcl (h:G:=by
 refine' qz6x;have n0:=n0m D.out.s0 hk2
 all_goals(apply_rules (newGoals := .nonDependentOnly) (maxDepth:=1) only[kE];trivial)):G:=h
theorem qzcm (h:G:=by
 have e1:nx s (s.size - a) (a,false)=(s.size,false):=by rw[i0c (by omega)];simp;omega
 have e2:rdT s (a,false) (s.size - a)=s.extract a s.size:=by rw[r0w (by omega)];congr 1;omega
 all_goals(apply_rules (newGoals := .nonDependentOnly) (maxDepth:=1) only[kE];trivial)):G:=h
theorem qzcn (h:G:=by
 go_upto_region 3 with fail
 all_goals(apply_rules (newGoals := .nonDependentOnly) (maxDepth:=1) only[kE];trivial)):G:=h
theorem qzco (h:G:=by
 go_upto_region 4 with fail
 all_goals(apply_rules (newGoals := .nonDependentOnly) (maxDepth:=1) only[kE];trivial)):G:=h
theorem qzcp (h:G:=by
 go_upto_region 6 with fail
 all_goals(apply_rules (newGoals := .nonDependentOnly) (maxDepth:=1) only[kE];trivial)):G:=h
theorem qzcq (h:G:=by
 go_upto_region 8 with fail
 all_goals(apply_rules (newGoals := .nonDependentOnly) (maxDepth:=1) only[kE];trivial)):G:=h
theorem qzcr (h:G:=by
 generalize w1.heap.size=g at *
 all_goals(apply_rules (newGoals := .nonDependentOnly) (maxDepth:=1) only[kE];trivial)):G:=h
theorem qzcs (h:G:=by
 simp only[Bool.and_eq_true,decide_eq_true_eq]at h
 all_goals(apply_rules (newGoals := .nonDependentOnly) (maxDepth:=1) only[kE];trivial)):G:=h
theorem qzct (h:G:=by
 rintro e w3 ⟨rfl,hb⟩
 all_goals(apply_rules (newGoals := .nonDependentOnly) (maxDepth:=1) only[kE];trivial)):G:=h
theorem qzcu (h:G:=by
 refine(P3.out _ HF.out.i).mono ?_
 all_goals(apply_rules (newGoals := .nonDependentOnly) (maxDepth:=1) only[kE];trivial)):G:=h
theorem qzcv (h:G:=by
 go_upto_region 5 with fail
 all_goals(apply_rules (newGoals := .nonDependentOnly) (maxDepth:=1) only[kE];trivial)):G:=h
theorem qzcw (h:G:=by
 generalize bt s 1=x at *
 all_goals(apply_rules (newGoals := .nonDependentOnly) (maxDepth:=1) only[kE];trivial)):G:=h
theorem qzcx (h:G:=by
 have c14:=HU.out.m.cs.c14
 all_goals(apply_rules (newGoals := .nonDependentOnly) (maxDepth:=1) only[kE];trivial)):G:=h
theorem qzcy (h:G:=by
 go_wp2_with (first|(refine f0a (b:=cb) shC rfl _ rfl rfl HG.out.cu rfl ?_))
 all_goals(apply_rules (newGoals := .nonDependentOnly) (maxDepth:=1) only[kE];trivial)):G:=h
theorem qzcz (h:G:=by
 refine(P2.out _ HF.out.i).mono ?_
 all_goals(apply_rules (newGoals := .nonDependentOnly) (maxDepth:=1) only[kE];trivial)):G:=h
theorem qzd0 (h:G:=by
 have HG:=Lib.hid (HG.out.call hb)
 all_goals(apply_rules (newGoals := .nonDependentOnly) (maxDepth:=1) only[kE];trivial)):G:=h
theorem qzd1 (h:G:=by
 have X0:=Lib.hid (hbel.bk (by omega) X0.out)
 all_goals(apply_rules (newGoals := .nonDependentOnly) (maxDepth:=1) only[kE];trivial)):G:=h
theorem qzd2 (h:G:=by
 have hm:s.size≤maxLen:=by unfold maxLen;omega
 all_goals(apply_rules (newGoals := .nonDependentOnly) (maxDepth:=1) only[kE];trivial)):G:=h
theorem qzd3 (h:G:=by
 simp only[Bool.and_eq_true,decide_eq_true_eq]
 all_goals(apply_rules (newGoals := .nonDependentOnly) (maxDepth:=1) only[kE];trivial)):G:=h
theorem qzd4 (h:G:=by
 rcases h.2 with⟨hv,h0⟩|⟨g,cap,cur,hv,_⟩
 · exact⟨none,0,by rw[hv,h0]⟩
 · exact⟨_,_,hv⟩
 all_goals(apply_rules (newGoals := .nonDependentOnly) (maxDepth:=1) only[kE];trivial)):G:=h
theorem qzd5 (h:G:=by
 have e1:((s.size:Int)==16)=true:=by rw[beq_iff_eq];omega
 all_goals(apply_rules (newGoals := .nonDependentOnly) (maxDepth:=1) only[kE];trivial)):G:=h
theorem qzd6 (h:G:=by
 have HMr:=Lib.hid (fun(W:World) (h:Below w.heap.size w W)=>hl.below h)
 all_goals(apply_rules (newGoals := .nonDependentOnly) (maxDepth:=1) only[kE];trivial)):G:=h
theorem qzd7 (h:G:=by
 obtain⟨⟨l,i,x⟩,hX⟩:∃ p,outX (s.extract n s.size)=p:=⟨_,rfl⟩
 all_goals(apply_rules (newGoals := .nonDependentOnly) (maxDepth:=1) only[kE];trivial)):G:=h
theorem qzd8 (h:G:=by
 refine wp_region_held_drew (S:=fun W=>Us w c m W) (by kernel_rfl) D.out.drew (fun hS=>?_)
 all_goals(apply_rules (newGoals := .nonDependentOnly) (maxDepth:=1) only[kE];trivial)):G:=h
theorem qzd9 (h:G:=by
 exact Below.drew ((((bel3.setCell (by simp) _).setCell (by simp) _).setCell (by simp) _).setCell (by simp) _)
 all_goals(apply_rules (newGoals := .nonDependentOnly) (maxDepth:=1) only[kE];trivial)):G:=h
theorem qzda (h:G:=by
 rcases h.2 with⟨hv,h0⟩|⟨g,c,cur,hv,_⟩
 · have:l = []:=List.length_eq_zero_iff.1 h0;subst this
   show(convert 96 9 (.slice ao 0 cap)).run Tryz.prog w=_
   obtain⟨rfl,_,rfl⟩:ao=none∧True∧cap=0:=by simpa using hv
   rw[run_convert_bytes_string w 96 9 5 none 0 0 Tryz.underlying96 Tryz.underlying5 Tryz.underlying9];rfl
 · simp at hv;obtain⟨rfl,rfl⟩:=hv;exact a0e w g cap B l l.length rfl h
 all_goals(apply_rules (newGoals := .nonDependentOnly) (maxDepth:=1) only[kE];trivial)):G:=h
theorem qzdb (h:G:=by
 induction l with
 | nil=>intro n;simp[numL]
 | cons c l ih=>
  intro n;unfold numL;rw[List.foldl_cons,List.foldl_cons,ih,ih (0*256+c.toNat),List.length_cons,Nat.pow_succ,Nat.add_mul,Nat.zero_mul,Nat.zero_add,Nat.mul_assoc,Nat.mul_comm 256];omega
 all_goals(apply_rules (newGoals := .nonDependentOnly) (maxDepth:=1) only[kE];trivial)):G:=h
theorem qzdc (h:G:=by
 induction n with
 | zero=>exact .inr (fun i hi=>absurd hi (by omega))
 | succ n ih=>
  rcases ih with⟨k,h1,h2,h3⟩|h
  · exact .inl ⟨k,by omega,h2,h3⟩
  · by_cases hn:f n=0
    · exact .inr (fun i hi=>by
       by_cases hin:i<n
       ·
        exact h i hin
       ·
        obtain rfl:i=n:=by omega
        exact hn)
    · exact .inl ⟨n,by omega,h,hn⟩
 all_goals(apply_rules (newGoals := .nonDependentOnly) (maxDepth:=1) only[kE];trivial)):G:=h
theorem qzdd (h:G:=by
 refine hK.out _ _ (hS w' h3) (h v' w' ?_ h3 ((Below.refl B w).grown h3 hB (fun k hk=>(World.ownsRow.lt hown k hk).1)))
 all_goals(apply_rules (newGoals := .nonDependentOnly) (maxDepth:=1) only[kE];trivial)):G:=h
theorem qzde (h:G:=by
 cases l with
 | nil=>simp at h
 | cons a l=>cases l with
  | nil=>simp at h
  | cons b l=>cases l with
   | nil=>simp at h
   | cons c l=>cases l with
    | nil=>simp at h
    | cons d l=>rfl
 all_goals(apply_rules (newGoals := .nonDependentOnly) (maxDepth:=1) only[kE];trivial)):G:=h
theorem qzdf (h:G:=by
 have HY:=Lib.hid (show out7 c d=(c,[],2) by unfold out7;rw[if_neg hz,if_neg (by rw[e];exact hn),hsz,d0i hy,if_neg (fun h=>by cases h.2)])
 all_goals(apply_rules (newGoals := .nonDependentOnly) (maxDepth:=1) only[kE];trivial)):G:=h
theorem qzdg (h:G:=by
 by_cases h1:1≤n
 · by_cases h2:n≤16
   · rw[show isMet n=true by unfold isMet;simp[h1,h2]]
     refine' qz93
   · rw[show isMet n=false by unfold isMet;simp[h2]]
     refine' qz93
 · rw[show isMet n=false by unfold isMet;simp[h1]]
   refine' qz93
 all_goals(apply_rules (newGoals := .nonDependentOnly) (maxDepth:=1) only[kE];trivial)):G:=h
theorem qzdh (h:G:=by
 by_cases h:s.size=16
 · rw[p0j h]
   have P1:=Lib.hid (fun w=>z0r s h w)
   have P2:=Lib.hid (fun w=>l0p s h w)
   clear h;generalize lkB s=x at *;go_in;refine' qz7b;refine' qzt;refine' qz2k;refine' qz2x
 · rw[y0o h]
   have P1:=Lib.hid (fun w=>r0t s h w)
   clear h;go_in;refine' qzh
   rintro e w' ⟨rfl|rfl,rfl⟩
   all_goals
    refine' qz2x
 all_goals(apply_rules (newGoals := .nonDependentOnly) (maxDepth:=1) only[kE];trivial)):G:=h
theorem qzdi (h:G:=by
 rcases hown.2 with⟨rfl,_⟩|⟨g,cap,cur,rfl,_,hg,_⟩
 · simp[Value.ownBlock]
 · intro h;simp only[Value.ownBlock,Option.some.injEq]at h;subst h;unfold Bk at hb;rw[hg]at hb;simp at hb;exact hTe hb.2.symm
 all_goals(apply_rules (newGoals := .nonDependentOnly) (maxDepth:=1) only[kE];trivial)):G:=h
theorem qzdj (h:G:=by
 exact bodyPost_ret (v := .agg R.cells) (q0a (ty:=29) (tb:=29) (n:=25) rfl _ _ w.heap.size R.cells rfl shM (HG.out.res.put (m':=R)) rfl) rfl ⟨rfl,below_setRow HG.out.bel (Nat.le_refl _) _⟩
 all_goals(apply_rules (newGoals := .nonDependentOnly) (maxDepth:=1) only[kE];trivial)):G:=h
theorem qzdk (h:G:=by
 rcases Xv.out_cases (s.extract n s.size)with⟨l,h1,h2,h3⟩|⟨l,r',h1,h2,h3,h4,h5⟩
 · right;rw[u0a h h3]
   exact⟨rfl,rfl,fun h0=>hb h0 l h1 h2⟩
 · left
   rw[r0f h h5 (by decide)]
   refine⟨by show(2:Int)≠0;decide,rfl,by simp only[];omega,?_⟩
   have:=congrArg List.length h2;rw[List.length_append,c0a]at this;simp at this;simp only[];omega
 all_goals(apply_rules (newGoals := .nonDependentOnly) (maxDepth:=1) only[kE];trivial)):G:=h
theorem qzdl (h:G:=by
 rcases Xv.out_cases (s.extract n s.size)with⟨l',h1,h2,h3⟩|⟨l',r,h1,h2,h3,h4,h5⟩
 · rw[h3]at h;simp only[Prod.mk.injEq]at h;omega
 · rw[h5]at h;have:=congrArg List.length h2;rw[List.length_append,c0a]at this;simp at this;simp only[Prod.mk.injEq]at h;omega
 all_goals(apply_rules (newGoals := .nonDependentOnly) (maxDepth:=1) only[kE];trivial)):G:=h
end Go.Proofs.YtllhobicfclheaaGreatDoor
