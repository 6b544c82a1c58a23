/-
  The statement SuiteBack, of any messages of any protocol. Condition: the listed variables have what the program's text lays them with (the tied card).
-/
import Derived.Test.YtllhobicfclheaaGreatDoorY49
namespace Go.Proofs.YtllhobicfclheaaGreatDoor
open Go.ChangeShapes Go.WideShapes Go.ChangeAt Go.RowKit
set_option linter.unusedVariables false
set_option maxRecDepth 100000
set_option maxHeartbeats 51200000
namespace suiteBack
open Go.ChangeMaps (open_string shut_string)
open Ms Box All Tc O3 Ol U1 U2 U4 Go.Proofs.YtllhobicfclheaaGreatDoor.Open
theorem j1i {l:List M}(h:fewL l 30=true)(hp:∀ m∈l,m.pfx.size≤maxLen):l.length≤30∧∀ m∈l,m.ll.length≤300∧m.sl.length≤60∧Sp m:=by
 obtain⟨h1,h2⟩:=g1o h hp;unfold fewL at h;simp only[Bool.and_eq_true]at h
 refine⟨by omega,fun m hm=>?_⟩
 obtain⟨f1,f2,_⟩:=An.a0l (List.all_eq_true.1 h.2 m hm);exact⟨f1,f2,h2 m hm⟩
theorem rem4 {p:Int}(h:0≤p∧p≤255):∃ r:Nat,r≤3∧p%4=(r:Int)∧Int.tmod p 4=(r:Int):=by
 obtain⟨n,rfl⟩:=Int.eq_ofNat_of_zero_le h.1
 exact⟨n%4,by omega,by omega,by rw[Int.tmod_eq_emod_of_nonneg h.1];omega⟩
theorem walk (p:Int)(a:Option Addr)(l:List M)(c:Nat)(w:World)(wf:(Lit.int .u8 p).wf=true)(hl:MRow w a l)(hn:l.length≤9223372036854775807)(hp:∀ m∈l,m.pfx.size≤maxLen)(ht:Tab w) :
    Calls Tryz.prog 4 #[.int .u8 p,.slice a l.length c] w fun e w'=>e = .returned (.bool true)∧Below w.heap.size w w':=by
 have hpu:0≤p∧p≤255:=by
  have h:IntKind.u8.min≤p∧p≤IntKind.u8.max:=by simpa[Lit.wf]using wf
  exact h
 obtain⟨r,hr3,hr1,hr2⟩:=rem4 hpu;have HT:=Lib.hid ht;refine' qz7k
 have PA:=Lib.hid (fun W (h:MRow W a l)=>l1a a c l 30 W h hn)
 clear ht hl wf;go_in;cases hfa:fewL l 30
 · rw[hfa]at PA;clear hfa hp hpu hr3 hr1 hr2;refine' qzg;refine(PA.out _ HL.out).mono ?_;refine' qz76;clear hb PA;refine' qz9r;refine' qz50;clear hb;refine' qz7g
 obtain⟨hn30,hs⟩:=j1i hfa hp;rw[hfa]at PA;clear hfa hp hn
 have HC:=Lib.hid (fun m (hm:m∈l)=>Cond.sp (p:=(1+(r:Int))) (hs m hm).2.2)
 have hbk:=back (p:=(1+(r:Int))) (by omega) (by omega) (by omega) hs
 have P1:=fun V (h:MRow V a l) (y:Tab V)=>p0c (1+(r:Int)) a c l V h HC.out (by omega) (.inr (by omega)) y
 have hs1:∀ m∈l,Short m:=fun m hm=>(hs m hm).2.2.short
 have HS1:=Lib.hid hs1;clear hs hs1;refine' qzg;refine(PA.out _ HL.out).mono ?_;refine' qz75;refine' qz7;refine' qz4n;clear hb PA
 have hw1:wrap64 (r:Int)=r:=by unfold wrap64;omega
 have hw2:wrap64 (1+(r:Int))=1+(r:Int):=by unfold wrap64;omega
 refine' qzco;clear hw1 hw2 hr1 hr2;generalize 1+(r:Int)=q at *
 rcases hbk with⟨i,e,e1,he,i1,i2⟩|⟨b,l',e1,hcm⟩
 · rw[e1]at P1;have P1:=Lib.hid P1
   have z1:(e==0)=false:=by simpa using he
   have z2:(e != 0)=true:=by rw[bne,z1];rfl
   have i3:¬(l.length:Int)<i:=by omega
   clear he e1 z1;refine' qzg;refine(P1.out _ HL.out (HT.out.below HB.out)).mono ?_;refine' qz50;clear hb P1 HL HC HS1;dsimp only;refine' qz9r;refine' qzct;refine' qz63;refine' qz7g
 rw[e1]at P1;have P1:=Lib.hid P1
 have P2:=fun V (y:Tab V)=>n0c q b V (by have:=hcm.size;omega) y
 rw[hcm.out]at P2;have P2:=Lib.hid P2;have HCM:=Lib.hid hcm
 have hsz:(b.size:Int)≤65535:=by have:=hcm.size;omega
 clear hcm e1;refine' qzg;refine(P1.out _ HL.out (HT.out.below HB.out)).mono ?_;refine' qz4b;refine' qz8;clear hb P1;dsimp only;refine' qzg;refine(P2.out _ (HT.out.below HB.out)).mono ?_;rintro e w3 ⟨a2,n2,l2,rfl,h1,h2,hb⟩;refine' qz7;have HM:=Lib.hid h2;refine' qz6
 have hse:sameL l l2=true:=by rw[(A2.PlL.refl l).same h1.1];exact HCM.out.same
 have hl2:l2.length≤1000:=by
  have:=HCM.out.same;unfold sameL at this;have:=(of_decide_eq_true this).1;have h3:l2.length=l'.length:=h1.len;omega
 have hs2:=Cond.shorts (x0p h1 HCM.out.cond)
 have PS:=Lib.hid (fun V (h:MRow V a l) (h':MRow V a2 l2)=>h0n a a2 c n2 l l2 V h h' HS1.out hs2 (by omega) (by omega))
 rw[hse]at PS;clear hb h1 h2 hse hs2 hl2 P2 HCM HC HS1;dsimp only;refine' qz9r;rintro e w4 ⟨rfl,hb⟩;refine' qz7;have HM:=Lib.hid (HM.out.below hb);refine' qz63;refine' qzg;refine(PS.out _ HL.out HM.out).mono ?_;rintro e w5 ⟨rfl,hb⟩;refine' qz6;clear hb PS HL HM;refine' qz7g
theorem own:ownKnob Tryz.prog.godebug=none:=by kernel_rfl
theorem lifted (os:Os)(started:os.Started)(H:Type)(enc:TypeId×Value→H) :
    ReturnsInHanded {} Tryz.checked os 4 .any (fun w args=>(Rows.suiteBackSpec.pre enc Tryz.prog Tryz.f4 Rows.suiteBackRow.domain false w args∧laidMetH Tryz.prog Rows.suiteBackRow.laid w)∧sizedMet enc Tryz.prog Tryz.f4 (OpenSpec.ofChange Rows.suiteBackSpec) false w args)
      (Rows.suiteBackSpec.post enc Tryz.prog Tryz.f4 false true false false):=by
 refine returnsInHanded_of_change_and (C:=Tryz.checked) (X:=fun w _=>laidMetH Tryz.prog Rows.suiteBackRow.laid w) (fun _ _ _ hh h=>h.of_heap hh) own started (by kernel_rfl) Tryz.func4
  (ChangeSpec.witness_shaped (enc:=enc) (C:=Tryz.checked) (os:=os) (X:=fun w _=>laidMetH Tryz.prog Rows.suiteBackRow.laid w) false (World.laidAll Tryz.prog os Rows.suiteBackRow.laid) #[.int .u8 0,.slice none 0 0] 8 (World.laidAll_os _ _ _)
   (World.shaped_of_ZipB (by kernel_rfl) (by kernel_rfl)) (by kernel_rfl) (by kernel_rfl) (by kernel_rfl)
   (by rw[MakeChecks.laidMetH_plain _ _ _ (by kernel_rfl)];exact laidMet_laidAll _ (by kernel_rfl) (by kernel_rfl))) ?_
 intro W base args ds gs before hval0 hW _ _ hL0 _;have hMet:=l0u hL0;have hval:∀ (j:Nat) t v,Tryz.f4.params[j]?=some t→args[j]?=some v→Value.okWide Tryz.prog W .any base t v:=hval0;have hW':=hW
 have hlt:=fun x hx=>hW'.lt x hx
 obtain⟨p,q,hA0,hV,rfl,hfz,hnd⟩:=hW
 have hA:DataW.TrodAll enc Tryz.prog W 0 (fun _=>true) true Tryz.f4.params.toList args.toList ds p:=hA0
 rw[Tryz.params4]at hA hval;obtain⟨v0,vs0,d0,ds0,p0,q0,hargs,rfl,rfl,h0,r0⟩:=trodAll_cons hA;obtain⟨v1,vs1,d1,ds1,p1,q1,rfl,rfl,rfl,h1,r1⟩:=trodAll_cons r0;obtain⟨rfl,rfl,rfl⟩:=trodAll_nil r1
 obtain rfl:args = #[v0,v1]:=by cases args;simp_all
 obtain⟨rfl,rfl⟩:=trodVars_none hV;have k0:=h0;obtain⟨n,rfl,rfl,rfl,wf⟩:=open_int Tryz.underlying5 (hval 0 5 v0 rfl rfl) k0;obtain⟨a,l,c,rfl,hl,hn,hc,hp⟩:=y1j (hval 1 22 v1 rfl rfl) h1;clear hA0 hval0;simp only[List.append_nil]at hW' hlt
 refine(walk n a l c W wf hl hn hp hMet).mono fun e W' ⟨he,hg⟩=>?_
 refine' qz56
theorem jf1:(Rows.suiteBackRow.inPlace==Tryz.prog.inPlace 4)=true:=by kernel_rfl
theorem jf2:(Rows.suiteBackRow.unfollowed==Tryz.prog.unfollowed 4)=true:=by kernel_rfl
theorem jf3:(Rows.suiteBackRow.recurses==Tryz.prog.recurses 4)=true:=by kernel_rfl
theorem jf4:(Rows.suiteBackRow.named==Tryz.prog.varsNamed 4)=true:=by kernel_rfl
theorem closed:joinedFacts Tryz.prog 4 Tryz.f4 Rows.suiteBackSpec Rows.suiteBackRow=true:=by
 unfold joinedFacts;rw[jf1,jf2,jf3,jf4];kernel_rfl
theorem named:Tryz.prog.funcNamed "roadbook/roadbooklaw26.SuiteBack" = some 4:=by kernel_rfl
theorem over:Rows.SuiteBackSaid:=
  OpenClaim.holds_of_wide 4 Tryz.f4 rfl rfl rfl rfl rfl rfl rfl ⟨rfl,rfl,rfl,rfl,rfl⟩ rfl rfl rfl rfl rfl named Tryz.func4 closed
    (of_decide_eq_true (by kernel_rfl)) (by unfold Func.isWrapper;first|(rw[if_pos (by decide +kernel)];kernel_rfl)|(rw[if_neg (by decide +kernel)];exact⟨rfl,rfl⟩))
    (fun os started H enc _=>lifted os started H enc)
theorem text:Rows.suiteBackRow.wfByText (OpenSpec.ofChange Rows.suiteBackSpec)=true:=by kernel_rfl
theorem looks:Tryz.prog.looks []=false:=by kernel_rfl
theorem goes:false=Rows.suiteBackRow.goesBy Tryz.prog:=by kernel_rfl
theorem proved:Rows.SuiteBackCardSaid:=
  Claim7.holds_tied_plain_at .later [] _ true _ _
    over (fun _ h=>by cases h) text (fun _ h=>by cases h) suiteBack_row_tie rfl ⟨rfl,rfl⟩ (by kernel_rfl) rfl
    (fun f fn hf hfn=>by
      obtain rfl:f=4:=Option.some.inj (named.symm.trans hf) |>.symm
      obtain rfl:fn=Tryz.f4:=(Option.some.inj (Tryz.func4.symm.trans hfn)).symm
      exact⟨looks.symm,fun j t ht=>by
        rw[Tryz.params4]at ht
        have hm:t∈[5,22]:=by simpa using Array.mem_of_getElem? ht
        have hall:([5,22].all fun u=>!Tryz.prog.wantsStandIn u)=true:=by kernel_rfl
        exact(show Tryz.prog.wantsStandIn t=false by simpa using List.all_eq_true.1 hall t hm)⟩)
    goes
#print axioms proved
end suiteBack
end Go.Proofs.YtllhobicfclheaaGreatDoor
