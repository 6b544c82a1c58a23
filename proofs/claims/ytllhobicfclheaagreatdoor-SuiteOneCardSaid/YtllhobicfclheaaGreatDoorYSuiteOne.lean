/-
  The statement SuiteOne, of any message. Condition: the listed variables have what the program's text lays them with (the tied card).
-/
import Derived.Test.YtllhobicfclheaaGreatDoorY49
namespace Go.Proofs.YtllhobicfclheaaGreatDoor
open Go.ChangeShapes Go.WideShapes Go.ChangeAt Go.RowKit
set_option linter.unusedVariables false
set_option maxRecDepth 100000
set_option maxHeartbeats 51200000
namespace suiteOne
open Go.ChangeMaps (open_string shut_string)
open Ms Box All Tc O3 U1 U2 U4 Kb Go.Proofs.YtllhobicfclheaaGreatDoor.Open
theorem whose (m:M):∃ q:Int,(q=7∨1≤q∧q≤4)∧∀ p,p≤6→okS p m=decide (p=q):=by
 by_cases h:∃ q,okS q m=true
 · obtain⟨q,hq⟩:=h;have:=r0u hq
   refine⟨q,.inr (by omega),fun p _=>?_⟩
   by_cases hp:p=q
   · rw[hp,hq,decide_eq_true rfl]
   · rw[decide_eq_false hp]
     exact Bool.eq_false_iff.2 fun k=>hp (ok_one k hq)
 · refine⟨7,.inl rfl,fun p hp=>?_⟩
   rw[decide_eq_false (by omega)]
   exact Bool.eq_false_iff.2 fun k=>h ⟨p,k⟩
def cntQ (q p:Int):Int:=if q<p then 1 else 0
structure Vm (w:World)(m:M)(V:World):Prop where
  x:Bx V w.heap.size m
  i:m.In V
  bel:Below w.heap.size w V
theorem Vm.call {w V V':World}{m:M}(h:Vm w m V)(hb:Below V.heap.size V V'):Vm w m V':=⟨h.x.below hb,h.i.below hb,bcall h.bel hb⟩
theorem walk (m:M)(w:World)(hd:DRow w m.la m.ll)(hs:SRow w m.sa m.sl)(hp:m.pfx.size≤maxLen)(ht:Tab w) :
    Calls Tryz.prog 6 #[.agg m.cells] w fun e w'=>e = .returned (.bool true)∧Below w.heap.size w w':=by
 have bel:=balloc (Below.refl _ w) (.cells m.cells 29);have HT:=Lib.hid (ht.below bel);have HX:=Lib.hid (Bx.new w m);have HB:=Lib.hid bel;have PF:=Lib.hid (Few.b1c m _ (hd.below bel) (hs.below bel))
 have HI:=Lib.hid (fun(h:Few.fewB m=true)=>An.r1r h (hd.below bel) (hs.below bel))
 have HW:=whose m;clear ht hd hs bel;refine' qz2f;by_cases hf:Few.fewB m=true;rotate_left
 · have hf:Few.fewB m=false:=by simpa using hf
   rw[hf]at PF;clear hf HI HW hp
   go_wp2_with (first|(refine j0a (b:=w.heap.size) (m:=m) rfl _ rfl rfl HX.out ?_))
   refine PF.out.mono ?_;rintro r w1 ⟨rfl,hb⟩;have HB1:=Lib.hid hb;clear hb PF;refine' qzg;refine(b0l _ (HT.out.below HB1.out)).mono ?_;rintro r w2 ⟨rfl,hb⟩;have HB:=Lib.hid (bcall HB.out (bcall HB1.out hb));clear hb;refine' qz7g
 rw[hf]at PF
 have HV:=Lib.hid (show Vm w m V from⟨HX.out,HI.out hf,HB.out⟩)
 have HC:=Lib.hid (fun p=>Cond.sp (p:=p) (Sp.few hf hp))
 have PR:=Lib.hid (fun p W (h:Vm w m W) (y:Tab W)=>l0a p m W h.i (HC.out p) y)
 clear HI hf hp HC
 go_wp2_with (first|(refine j0a (b:=w.heap.size) (m:=m) rfl _ rfl rfl HX.out ?_))
 refine PF.out.mono ?_;rintro r w1 ⟨rfl,hb⟩;have HV:=Lib.hid (HV.out.call hb);have HT:=Lib.hid (HT.out.below hb);clear hb PF HX HB;obtain⟨q,hq,hr⟩:=HW;have HR:=Lib.hid hr;clear hr;refine' qzcv
 go_loopw [3,4] (fun n i wr=>∃ p:Int,-1≤p∧p≤7∧i = .int .i64 p∧n = .int .i64 (cntQ q p)∧Hid (Vm w m wr)∧Hid (Tab wr)) (fun _ i _=>(7 - intOf i).toNat)
 case atStart=>exact⟨-1,by omega,by omega,rfl,by unfold cntQ;rw[if_neg (by omega)],HV,HT⟩
 case round=>
  obtain⟨p,hp1,hp7,rfl,rfl,HV,HT⟩:=hrel;by_cases hlt:p≤6
  · have P:=PR.out p wr HV.out HT.out;rw[HR.out p hlt]at P;have P:=Lib.hid P;have hx:=HV.out.x;by_cases hpq:p=q
    · have h14:1≤p∧p≤4:=by omega
      have c0:cntQ q p=0:=by unfold cntQ;rw[if_neg (by omega)]
      have HC:=Lib.hid (show cntQ q (p+1)=1 by unfold cntQ;rw[if_pos (by omega)])
      have h1:¬p<1:=by omega
      have h4:¬4<p:=by omega
      rw[decide_eq_true hpq]at P;rw[c0];clear hpq hq c0
      go_wp2_with (first|(refine j0a (b:=w.heap.size) (m:=m) rfl _ rfl rfl hx ?_))
      refine P.out.mono ?_;refine' qz4b;have HV:=Lib.hid (HV.out.call hb);have HT:=Lib.hid (HT.out.below hb);clear hb P hx;go_wp2;go_roundw
      case rel=>exact⟨p+1,by omega,by omega,by go_num,by rw[HC.out],HV,HT⟩
      case measure=>simp[intOf];omega
    · have HC:=Lib.hid (show cntQ q (p+1)=cntQ q p by unfold cntQ;by_cases h:q<p;(rw[if_pos h,if_pos (by omega)]);(rw[if_neg h,if_neg (by omega)]))
      rw[decide_eq_false hpq]at P;clear hpq hq;generalize cntQ q p=n at *
      go_wp2_with (first|(refine j0a (b:=w.heap.size) (m:=m) rfl _ rfl rfl hx ?_))
      refine P.out.mono ?_;refine' qz4b;have HV:=Lib.hid (HV.out.call hb);have HT:=Lib.hid (HT.out.below hb);clear hb P hx;go_wp2;go_roundw
      case rel=>exact⟨p+1,by omega,by omega,by go_num,by rw[HC.out],HV,HT⟩
      case measure=>simp[intOf];omega
  · obtain rfl:p=7:=by omega
    have hc:cntQ q 7≤1:=by unfold cntQ;split<;>omega
    have PA:=Lib.hid (b0l wr HT.out);clear hp1 hp7 hlt hq PR HR;generalize cntQ q 7=n at *;refine' qzg;refine PA.out.mono ?_;refine' qz4b;have HV:=Lib.hid (HV.out.call hb);clear hb PA;refine' qzj;exact⟨rfl,HV.out.bel⟩
theorem own:ownKnob Tryz.prog.godebug=none:=by kernel_rfl
theorem lifted (os:Os)(started:os.Started)(H:Type)(enc:TypeId×Value→H) :
    ReturnsInHanded {} Tryz.checked os 6 .any (fun w args=>(Rows.suiteOneSpec.pre enc Tryz.prog Tryz.f6 Rows.suiteOneRow.domain false w args∧laidMetH Tryz.prog Rows.suiteOneRow.laid w)∧sizedMet enc Tryz.prog Tryz.f6 (OpenSpec.ofChange Rows.suiteOneSpec) false w args)
      (Rows.suiteOneSpec.post enc Tryz.prog Tryz.f6 false true false false):=by
 refine returnsInHanded_of_change_and (C:=Tryz.checked) (X:=fun w _=>laidMetH Tryz.prog Rows.suiteOneRow.laid w) (fun _ _ _ hh h=>h.of_heap hh) own started (by kernel_rfl) Tryz.func6
  (ChangeSpec.witness_shaped (enc:=enc) (C:=Tryz.checked) (os:=os) (X:=fun w _=>laidMetH Tryz.prog Rows.suiteOneRow.laid w) false (World.laidAll Tryz.prog os Rows.suiteOneRow.laid) #[.agg M.zero.cells] 8 (World.laidAll_os _ _ _)
   (World.shaped_of_ZipB (by kernel_rfl) (by kernel_rfl)) (by kernel_rfl) (by kernel_rfl) (by kernel_rfl)
   (by rw[MakeChecks.laidMetH_plain _ _ _ (by kernel_rfl)];exact laidMet_laidAll _ (by kernel_rfl) (by kernel_rfl))) ?_
 intro W base args ds gs before hval0 hW _ _ hL0 _;have hMet:=l0u hL0;have hval:∀ (j:Nat) t v,Tryz.f6.params[j]?=some t→args[j]?=some v→Value.okWide Tryz.prog W .any base t v:=hval0;have hW':=hW
 have hlt:=fun x hx=>hW'.lt x hx
 obtain⟨p,q,hA0,hV,rfl,hfz,hnd⟩:=hW
 have hA:DataW.TrodAll enc Tryz.prog W 0 (fun _=>true) true Tryz.f6.params.toList args.toList ds p:=hA0
 rw[Tryz.params6]at hA hval;obtain⟨v0,vs0,d0,ds0,p0,q0,hargs,rfl,rfl,h0,r0⟩:=trodAll_cons hA;obtain⟨rfl,rfl,rfl⟩:=trodAll_nil r0
 obtain rfl:args = #[v0]:=by cases args;simp_all
 obtain⟨rfl,rfl⟩:=trodVars_none hV;obtain⟨m,rfl,hd,hs,hp⟩:=r1f (hval 0 29 v0 rfl rfl) h0;clear hA0 hval0;simp only[List.append_nil]at hW' hlt
 refine(walk m W hd hs hp hMet).mono fun e W' ⟨he,hg⟩=>?_
 subst he
 exact⟨_,rfl,_,_,_,[],_,[],hW',trodAll_mk1 (shut_bool Tryz.underlying4 _),(trodAll_cons_mk (again (by kernel_rfl) (of_decide_eq_true (by kernel_rfl)) h0 hg fun x hx=>hlt x (by first|exact absurd hx (by simp)|simp[hx])) trodAll_mk0),rfl,hg.frame _,fun h=>by cases h⟩
theorem jf1:(Rows.suiteOneRow.inPlace==Tryz.prog.inPlace 6)=true:=by kernel_rfl
theorem jf2:(Rows.suiteOneRow.unfollowed==Tryz.prog.unfollowed 6)=true:=by kernel_rfl
theorem jf3:(Rows.suiteOneRow.recurses==Tryz.prog.recurses 6)=true:=by kernel_rfl
theorem jf4:(Rows.suiteOneRow.named==Tryz.prog.varsNamed 6)=true:=by kernel_rfl
theorem closed:joinedFacts Tryz.prog 6 Tryz.f6 Rows.suiteOneSpec Rows.suiteOneRow=true:=by
 unfold joinedFacts;rw[jf1,jf2,jf3,jf4];kernel_rfl
theorem named:Tryz.prog.funcNamed "roadbook/roadbooklaw26.SuiteOne" = some 6:=by kernel_rfl
theorem over:Rows.SuiteOneSaid:=
  OpenClaim.holds_of_wide 6 Tryz.f6 rfl rfl rfl rfl rfl rfl rfl ⟨rfl,rfl,rfl,rfl,rfl⟩ rfl rfl rfl rfl rfl named Tryz.func6 closed
    (of_decide_eq_true (by kernel_rfl)) (by unfold Func.isWrapper;first|(rw[if_pos (by decide +kernel)];kernel_rfl)|(rw[if_neg (by decide +kernel)];exact⟨rfl,rfl⟩))
    (fun os started H enc _=>lifted os started H enc)
theorem text:Rows.suiteOneRow.wfByText (OpenSpec.ofChange Rows.suiteOneSpec)=true:=by kernel_rfl
theorem looks:Tryz.prog.looks []=false:=by kernel_rfl
theorem goes:false=Rows.suiteOneRow.goesBy Tryz.prog:=by kernel_rfl
theorem proved:Rows.SuiteOneCardSaid:=
  Claim7.holds_tied_plain_at .later [] _ true _ _
    over (fun _ h=>by cases h) text (fun _ h=>by cases h) suiteOne_row_tie rfl ⟨rfl,rfl⟩ (by kernel_rfl) rfl
    (fun f fn hf hfn=>by
      obtain rfl:f=6:=Option.some.inj (named.symm.trans hf) |>.symm
      obtain rfl:fn=Tryz.f6:=(Option.some.inj (Tryz.func6.symm.trans hfn)).symm
      exact⟨looks.symm,fun j t ht=>by
        rw[Tryz.params6]at ht
        have hm:t∈[29]:=by simpa using Array.mem_of_getElem? ht
        have hall:([29].all fun u=>!Tryz.prog.wantsStandIn u)=true:=by kernel_rfl
        exact(show Tryz.prog.wantsStandIn t=false by simpa using List.all_eq_true.1 hall t hm)⟩)
    goes
#print axioms proved
end suiteOne
end Go.Proofs.YtllhobicfclheaaGreatDoor
