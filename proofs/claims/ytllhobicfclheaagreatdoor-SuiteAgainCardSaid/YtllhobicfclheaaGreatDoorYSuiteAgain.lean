/-
  The statement SuiteAgain, of any bytes and any protocol. Condition: the listed variables have what the program's text lays them with (the tied card).
-/
import Derived.Test.YtllhobicfclheaaGreatDoorY49
namespace Go.Proofs.YtllhobicfclheaaGreatDoor
open Go.ChangeShapes Go.WideShapes Go.ChangeAt Go.RowKit
set_option linter.unusedVariables false
set_option maxRecDepth 100000
set_option maxHeartbeats 51200000
namespace suiteAgain
open Go.ChangeMaps (open_string shut_string)
open Ms Box All Tc U1 U2 U4 Go.Proofs.YtllhobicfclheaaGreatDoor.Open
theorem rem4 {p:Int}(h:0≤p∧p≤255):∃ r:Nat,r≤3∧p%4=(r:Int)∧Int.tmod p 4=(r:Int):=by
 obtain⟨n,rfl⟩:=Int.eq_ofNat_of_zero_le h.1
 exact⟨n%4,by omega,by omega,by rw[Int.tmod_eq_emod_of_nonneg h.1];omega⟩
theorem b1q {q:Int}{s b:ByteArray}(h:q=1∨q=3→s=b):(((q==1)||(q==3)) && !(s.toList==b.toList))=false:=by
 by_cases k:q=1∨q=3
 · rw[h k];simp
 · rw[not_or]at k;rw[beq_eq_false_iff_ne.2 k.1,beq_eq_false_iff_ne.2 k.2];rfl
theorem walk (p:Int)(b:ByteArray)(w:World)(wf:(Lit.int .u8 p).wf=true)(hz:b.size≤maxLen)(ht:Tab w) :
    Calls Tryz.prog 5 #[.int .u8 p,.string b] w fun e w'=>e = .returned (.bool true)∧Below w.heap.size w w':=by
 have hpu:0≤p∧p≤255:=by
  have h:IntKind.u8.min≤p∧p≤IntKind.u8.max:=by simpa[Lit.wf]using wf
  exact h
 unfold maxLen at hz;obtain⟨r,hr3,hr1,hr2⟩:=rem4 hpu;have HT:=Lib.hid ht;clear ht wf;go_in;by_cases h1500:1500<b.size
 · have h1500':(1500:Int)<(b.size:Int):=by omega
   clear hr1 hr2 hr3 hpu;refine' qzg;refine(b0l _ HT.out).mono ?_;refine' qz76;clear hb;refine' qz7g
 have h1500':¬(1500:Int)<(b.size:Int):=by omega
 have hw1:wrap64 (r:Int)=r:=by unfold wrap64;omega
 have hw2:wrap64 (1+(r:Int))=1+(r:Int):=by unfold wrap64;omega
 refine' qzco;clear hw1 hw2 hr1 hr2
 have hq1:1≤1+(r:Int):=by omega
 have hq4:1+(r:Int)≤4:=by omega
 generalize 1+(r:Int)=q at *
 have P1:=fun V (y:Tab V)=>n0c q b V (by omega) y
 by_cases he:(outS q b).2.2=0;rotate_left
 · obtain⟨b1,b2,b3⟩:=w0d he;obtain⟨⟨l0,i,e⟩,hq⟩:∃ x,outS q b=x:=⟨_,rfl⟩;rw[hq]at P1 he b1 b2 b3;dsimp only at he b1 b2 b3;subst b1;have P1:=Lib.hid P1
   have z1:(e==0)=false:=by simpa using he
   have z2:(e != 0)=true:=by rw[bne,z1];rfl
   have i3:¬(b.size:Int)<i:=by omega
   clear he z1 hq;refine' qzg;refine(P1.out _ HT.out).mono ?_;rintro e w1 ⟨a1,n1,l1,rfl,h1,-,hb⟩;obtain rfl:l1 = []:=List.length_eq_zero_iff.1 h1.len;refine' qz4n;clear hb P1 h1;dsimp only[List.length_nil];refine' qz9r;refine' qzct;refine' qz63;refine' qz7g
 obtain⟨l0,s,l',ho,hA⟩:=again hq1 hq4 (by omega) he
 rw[ho]at P1;have P1:=Lib.hid P1;have HA:=Lib.hid hA
 have P3:=fun V (y:Tab V)=>n0c q s V (by have:=hA.size;omega) y
 rw[hA.out]at P3;have P3:=Lib.hid P3;have hown:=b1q hA.own
 have e4:(s.toList==s.toList)=true:=by simp
 clear he ho hA;refine' qzg;refine(P1.out _ HT.out).mono ?_;rintro e w1 ⟨a1,n1,l1,rfl,h1,h2,hb⟩
 have HR:=Lib.hid (show Rel q l1 l0 from h1)
 have HM:=Lib.hid h2;refine' qz4n
 have hl1:l1.length≤2000:=by rw[HR.out.len];exact HA.out.n1
 have HC1:=Lib.hid (x0p HR.out HA.out.c1)
 have HOK:=Lib.hid (fun(i:Nat) (hi:i<l1.length)=>show okS q l1[i]=true from(m1p HR.out hi (by rw[←HR.out.len];exact hi)).trans (HA.out.ok _ (List.getElem_mem _)))
 clear hb h1 h2 P1;dsimp only;refine' qzcq
 go_loopw [9] (fun i wr=>∃ k:Nat,k≤l1.length∧i = .int .i64 k∧Hid (MRow wr a1 l1)∧Hid (Below w.heap.size w wr)) (fun i _=>l1.length - (intOf i).toNat)
 case atStart=>exact⟨0,Nat.zero_le _,rfl,HM,HB⟩
 case round=>
  obtain⟨k,hk,rfl,HM,HB⟩:=hrel;by_cases hlt:k<l1.length
  · obtain⟨p0,rfl,hpb,hc,hd,hs⟩:=HM.out k hlt;have hcnd:=HC1.out _ (List.getElem_mem hlt);have P:=l0a q l1[k] wr ⟨hd,hs,hcnd.1.1,hcnd.1.2⟩ hcnd (HT.out.below HB.out);rw[HOK.out k hlt]at P;have P:=Lib.hid P;have HC:=Lib.hid hc;clear hpb hc hd hs hcnd;generalize l1[k]=u at *
    have hkk:(k:Int)<2001:=by omega
    go_wp2_with (first|(refine Or.p0a (v := .pointer (some (p0.add (k*25)))) (by rfl) rfl (c0l (x := .tmp 59) (y := .tmp 60) rfl rfl rfl hlt) ?_)|(refine Or.p0a (v := .agg (M.cells u)) (by rfl) rfl (t0i (x := .tmp 61) rfl rfl HC.out) ?_))
    refine P.out.mono ?_;refine' qz4b;have HM:=Lib.hid (HM.out.below hb);refine' qz6;clear hb P HC;go_wp2;go_roundw
    case rel=>exact⟨k+1,hlt,by go_num,HM,HB⟩
    case measure=>simp[intOf];omega
  · obtain rfl:k=l1.length:=by omega
    clear hk hlt HOK
    have hn3:q=4∨l1.length≤1000:=by rw[HR.out.len];exact HA.out.n3
    have P2:=fun V (h:MRow V a1 l1) (y:Tab V)=>p0c q a1 n1 l1 V h HC1.out (by omega) hn3 y
    rw[(w1c HR.out).trans HA.out.enc]at P2;have P2:=Lib.hid P2;refine' qzg;refine(P2.out _ HM.out (HT.out.below HB.out)).mono ?_;refine' qzct;have HM:=Lib.hid (HM.out.below hb);refine' qz6;clear hb P2;dsimp only;refine' qzg;refine(P3.out _ (HT.out.below HB.out)).mono ?_;rintro e w4 ⟨a2,n2,l2,rfl,h1,h2,hb⟩;have HM:=Lib.hid (HM.out.below hb);have HM2:=Lib.hid h2;refine' qz6;have h3:l2.length=l'.length:=h1.len
    have hl2:l2.length≤2000:=by have:=HA.out.n2;omega
    have hc2:=x0p h1 HA.out.c2
    have hn4:q=4∨l2.length≤1000:=by rw[h3];exact HA.out.n4
    have P4:=fun V (h:MRow V a2 l2) (y:Tab V)=>p0c q a2 n2 l2 V h hc2 (by omega) hn4 y
    rw[(w1c h1).trans HA.out.enc2]at P4;have P4:=Lib.hid P4
    have hse:sameL l1 l2=true:=by rw[HR.out.1.same h1.1];exact HA.out.same
    have PS:=Lib.hid (fun V (h:MRow V a1 l1) (h':MRow V a2 l2)=>h0n a1 a2 n1 n2 l1 l2 V h h' (Cond.shorts HC1.out) (Cond.shorts hc2) (by omega) (by omega))
    rw[hse]at PS;clear hb h1 h2 h3 hse hc2 P3 HR HC1 HA hn3 hn4;dsimp only;refine' qzg;refine(P4.out _ HM2.out (HT.out.below HB.out)).mono ?_;rintro e w5 ⟨rfl,hb⟩;have HM:=Lib.hid (HM.out.below hb);have HM2:=Lib.hid (HM2.out.below hb);refine' qz6;clear hb P4;dsimp only
    go_upto_region 15 with fail
    have HY:=Lib.hid hown;clear hown;generalize hx1:(q==1)=x1 at *;generalize hx3:(q==3)=x3 at *;generalize hxs:(s.toList==b.toList)=xs at *
    go_cut [96] (fun m wx=>m = .bool false∧wx=w5)
    case first=>
     have hy:=HY.out
     cases x1<;>cases x3<;>cases xs<;>first|(exact absurd hy (by decide))|skip
     all_goals(go_wp2_with fail;go_meet;exact⟨rfl,rfl⟩)
    case rest=>
     obtain⟨rfl,rfl⟩:=hcut;clear hx1 hx3 hxs HY;refine' qz9r;rintro e w6 ⟨rfl,hb⟩;have HM:=Lib.hid (HM.out.below hb);have HM2:=Lib.hid (HM2.out.below hb);refine' qz63;refine' qzg;refine(PS.out _ HM.out HM2.out).mono ?_;rintro e w7 ⟨rfl,hb⟩;refine' qz6;clear hb PS HM HM2;refine' qz7g
theorem own:ownKnob Tryz.prog.godebug=none:=by kernel_rfl
theorem lifted (os:Os)(started:os.Started)(H:Type)(enc:TypeId×Value→H) :
    ReturnsInHanded {} Tryz.checked os 5 .any (fun w args=>(Rows.suiteAgainSpec.pre enc Tryz.prog Tryz.f5 Rows.suiteAgainRow.domain false w args∧laidMetH Tryz.prog Rows.suiteAgainRow.laid w)∧sizedMet enc Tryz.prog Tryz.f5 (OpenSpec.ofChange Rows.suiteAgainSpec) false w args)
      (Rows.suiteAgainSpec.post enc Tryz.prog Tryz.f5 false true false false):=by
 refine returnsInHanded_of_change_and (C:=Tryz.checked) (X:=fun w _=>laidMetH Tryz.prog Rows.suiteAgainRow.laid w) (fun _ _ _ hh h=>h.of_heap hh) own started (by kernel_rfl) Tryz.func5
  (ChangeSpec.witness_shaped (enc:=enc) (C:=Tryz.checked) (os:=os) (X:=fun w _=>laidMetH Tryz.prog Rows.suiteAgainRow.laid w) false (World.laidAll Tryz.prog os Rows.suiteAgainRow.laid) #[.int .u8 0,.string ByteArray.empty] 8 (World.laidAll_os _ _ _)
   (World.shaped_of_ZipB (by kernel_rfl) (by kernel_rfl)) (by kernel_rfl) (by kernel_rfl) (by kernel_rfl)
   (by rw[MakeChecks.laidMetH_plain _ _ _ (by kernel_rfl)];exact laidMet_laidAll _ (by kernel_rfl) (by kernel_rfl))) ?_
 intro W base args ds gs before hval0 hW _ _ hL0 _;have hMet:=l0u hL0;have hval:∀ (j:Nat) t v,Tryz.f5.params[j]?=some t→args[j]?=some v→Value.okWide Tryz.prog W .any base t v:=hval0;have hW':=hW
 have hlt:=fun x hx=>hW'.lt x hx
 obtain⟨p,q,hA0,hV,rfl,hfz,hnd⟩:=hW
 have hA:DataW.TrodAll enc Tryz.prog W 0 (fun _=>true) true Tryz.f5.params.toList args.toList ds p:=hA0
 rw[Tryz.params5]at hA hval;obtain⟨v0,vs0,d0,ds0,p0,q0,hargs,rfl,rfl,h0,r0⟩:=trodAll_cons hA;obtain⟨v1,vs1,d1,ds1,p1,q1,rfl,rfl,rfl,h1,r1⟩:=trodAll_cons r0;obtain⟨rfl,rfl,rfl⟩:=trodAll_nil r1
 obtain rfl:args = #[v0,v1]:=by cases args;simp_all
 obtain⟨rfl,rfl⟩:=trodVars_none hV;have k0:=h0;obtain⟨n,rfl,rfl,rfl,wf⟩:=open_int Tryz.underlying5 (hval 0 5 v0 rfl rfl) k0;have k1:=h1;obtain⟨b,rfl,rfl,rfl,hz⟩:=open_string Tryz.underlying9 (hval 1 9 v1 rfl rfl) k1;clear hA0 hval0;simp only[List.append_nil]at hW' hlt
 refine(walk n b W wf hz hMet).mono fun e W' ⟨he,hg⟩=>?_
 refine' qz56
theorem jf1:(Rows.suiteAgainRow.inPlace==Tryz.prog.inPlace 5)=true:=by kernel_rfl
theorem jf2:(Rows.suiteAgainRow.unfollowed==Tryz.prog.unfollowed 5)=true:=by kernel_rfl
theorem jf3:(Rows.suiteAgainRow.recurses==Tryz.prog.recurses 5)=true:=by kernel_rfl
theorem jf4:(Rows.suiteAgainRow.named==Tryz.prog.varsNamed 5)=true:=by kernel_rfl
theorem closed:joinedFacts Tryz.prog 5 Tryz.f5 Rows.suiteAgainSpec Rows.suiteAgainRow=true:=by
 unfold joinedFacts;rw[jf1,jf2,jf3,jf4];kernel_rfl
theorem named:Tryz.prog.funcNamed "roadbook/roadbooklaw26.SuiteAgain" = some 5:=by kernel_rfl
theorem over:Rows.SuiteAgainSaid:=
  OpenClaim.holds_of_wide 5 Tryz.f5 rfl rfl rfl rfl rfl rfl rfl ⟨rfl,rfl,rfl,rfl,rfl⟩ rfl rfl rfl rfl rfl named Tryz.func5 closed
    (of_decide_eq_true (by kernel_rfl)) (by unfold Func.isWrapper;first|(rw[if_pos (by decide +kernel)];kernel_rfl)|(rw[if_neg (by decide +kernel)];exact⟨rfl,rfl⟩))
    (fun os started H enc _=>lifted os started H enc)
theorem text:Rows.suiteAgainRow.wfByText (OpenSpec.ofChange Rows.suiteAgainSpec)=true:=by kernel_rfl
theorem looks:Tryz.prog.looks []=false:=by kernel_rfl
theorem goes:false=Rows.suiteAgainRow.goesBy Tryz.prog:=by kernel_rfl
theorem proved:Rows.SuiteAgainCardSaid:=
  Claim7.holds_tied_plain_at .later [] _ true _ _
    over (fun _ h=>by cases h) text (fun _ h=>by cases h) suiteAgain_row_tie rfl ⟨rfl,rfl⟩ (by kernel_rfl) rfl
    (fun f fn hf hfn=>by
      obtain rfl:f=5:=Option.some.inj (named.symm.trans hf) |>.symm
      obtain rfl:fn=Tryz.f5:=(Option.some.inj (Tryz.func5.symm.trans hfn)).symm
      exact⟨looks.symm,fun j t ht=>by
        rw[Tryz.params5]at ht
        have hm:t∈[5,9]:=by simpa using Array.mem_of_getElem? ht
        have hall:([5,9].all fun u=>!Tryz.prog.wantsStandIn u)=true:=by kernel_rfl
        exact(show Tryz.prog.wantsStandIn t=false by simpa using List.all_eq_true.1 hall t hm)⟩)
    goes
#print axioms proved
end suiteAgain
end Go.Proofs.YtllhobicfclheaaGreatDoor
