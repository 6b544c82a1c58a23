/-
  A part of a proof. No conditions.
-/
import Derived.Test.YtllhobicfclheaaGreatDoorY43
namespace Go.Proofs.YtllhobicfclheaaGreatDoor
open Go.ChangeShapes Go.WideShapes Go.ChangeAt Go.RowKit
set_option linter.unusedVariables false
set_option maxRecDepth 100000
set_option maxHeartbeats 51200000
namespace K4
open Ms Box S1 J1
open J2 (nil_eq k0f size_eq)
open J4 (shU u0c z0b)
open An Tc K1 Kb K2 K3
open Bk (Bk Sh b0a f0a a0a o0a q0a loadVarK d0a)
open Go.Proofs.YtllhobicfclheaaGreatDoor.Or (p0a)
theorem k1n (f:Int)(h0:0≤f)(h1:f<256):bits BinOp.and IntKind.i64 f 128=if 128≤f then 128 else 0:=by
 obtain⟨n,rfl⟩:=Int.eq_ofNat_of_zero_le h0
 have h:∀ n:Nat,n<256→bits BinOp.and IntKind.i64 (n:Int) 128=if(128:Int)≤(n:Int)then 128 else 0:=by decide +kernel
 exact h n (by omega)
theorem s1r (f:Int)(h0:0≤f)(h1:f<256):bits BinOp.and IntKind.i64 f 64=if f / 64%2=1 then 64 else 0:=by
 obtain⟨n,rfl⟩:=Int.eq_ofNat_of_zero_le h0
 have h:∀ n:Nat,n<256→bits BinOp.and IntKind.i64 (n:Int) 64=if(n:Int) / 64%2=1 then 64 else 0:=by decide +kernel
 exact h n (by omega)
theorem w0p (b k:Nat)(hk:k<4)(W:World):(Instr.indexAt 71 (.pointer (some ⟨b,0,none⟩)) (.int .i64 (k:Int))).run Tryz.prog W = .ok (.pointer (some ⟨b,k,none⟩)) W:=by
 rcases(show k=0∨k=1∨k=2∨k=3 by omega)with rfl|rfl|rfl|rfl<;>kernel_rfl
theorem e1j (b k:Nat)(hk:k<2)(W:World):(Instr.indexAt 72 (.pointer (some ⟨b,4,none⟩)) (.int .i64 (k:Int))).run Tryz.prog W = .ok (.pointer (some ⟨b,4+k,none⟩)) W:=by
 rcases(show k=0∨k=1 by omega)with rfl|rfl<;>kernel_rfl
theorem h0j {P:Program}{o:Oper}{ρ:Operand→Value}{T:TypeId}{x y:Operand}{vx vy r:Value}{w:World}(ho:o.op = .indexAddr T x y)(hx:ρ x=vx)(hy:ρ y=vy)(h:(Instr.indexAt T vx vy).run P w = .ok r w) :
    (execOp ρ o).run P w = .ok (.value r) w:=by
 unfold execOp;simp only[ho,hx,hy,Sem.run_bind,h,Result.andThen_ok,Sem.run_pure]
abbrev nilV:Value := .slice none 0 0
theorem v0o (c:Kx)(d:ByteArray)(u:Up)(a:ByteArray)(w:World)(g:Cnt d u)(ha:a.size≤1000) :
    Calls Tryz.prog 344 #[.agg (stC c nilV),.agg u.cells,.string a] w fun e w'=>e = .returned (.agg (stC (flagC c u a) nilV))∧Below w.heap.size w w':=by
 have PI:=Lib.hid (fun V=>d1h a V ha)
 have hA:=k1n u.flags g.fl0 g.fl1;have hB:=s1r u.flags g.fl0 g.fl1
 obtain⟨k,hk⟩:∃ k:Nat,u.ae=k:=⟨u.ae.toNat,by have:=g.ae0;omega⟩
 have hk4:k<4:=by have:=g.ae3;omega
 have S0:=Lib.hid (((Bk.Bk.new 211 w (stC c nilV)).old (.cells u.cells 223)).old (.cells (stC Kx.zero nilV) 211));have U0:=Bk.Bk.new 223 (w.alloc (.cells (stC c nilV) 211)) u.cells;rw[b0a]at U0;have U0:=Lib.hid (U0.old (.cells (stC Kx.zero nilV) 211));have R0:=Bk.Bk.new 211 ((w.alloc (.cells (stC c nilV) 211)).alloc (.cells u.cells 223)) (stC Kx.zero nilV);refine' qz70;have HB:=Lib.hid (balloc (balloc (balloc (Below.refl _ w) (.cells (stC c nilV) 211)) (.cells u.cells 223)) (.cells (stC Kx.zero nilV) 211));clear g ha;by_cases h0:k=0
 · subst h0
   have HK:=Lib.hid (show flagC c u a=c by unfold flagC;rw[if_pos (show u.ae=0 from hk)])
   refine' qzi;refine' qz24;refine' qz3u;rw[hk]at c0;clear hA hB hk;refine' qz59
 have h02:((k:Int)==0)=false:=by simpa using h0
 have hae:¬u.ae=0:=by omega
 by_cases g2:u.flags / 64%2=1
 · by_cases g1:128≤u.flags
   · have HK:=Lib.hid (show flagC c u a={ (c.setP k a)with id:=idA a} from by
      unfold flagC
      rw[if_neg hae,if_pos g2,if_pos g1,hk])
     rw[if_pos g1]at hA;rw[if_pos g2]at hB;refine' qzi;refine' qz24;refine' qz3u;rw[hk]at c0;clear g1 g2 h0 hae;have d:=b0u S0.out hk4;have fd:=S0.out.frozen k;refine' qz8n;refine' qza8
     have XB:=HB.out.setCell (p:=⟨w.heap.size,k,none⟩) (by show w.heap.size≤w.heap.size;omega) (.string a)
     have S0:=Lib.hid XS;have U0:=Lib.hid XU;refine' qz8p;clear XS XU XR XB d fd c0 c1;generalize W.setCell ⟨w.heap.size,k,none⟩ (.string a)=W at *;refine' qz3u;rw[hk]at c0;refine' qzaz;refine' qz75;refine' qz9;refine' qz1m;clear hb c0 c1 PI;have d:=S0.out.cell 6 _ rfl;have fd:=S0.out.frozen 6
     go_upto_region 7 with fail
     have XS:=S0.out.set (i:=6) (v := .string (idA a)) (cs':=stC ({ (c.setP k a)with id:=idA a}) nilV) rfl
     refine' qz9x
     have XB:=HB.out.setCell (p:=⟨w.heap.size,6,none⟩) (by show w.heap.size≤w.heap.size;omega) (.string (idA a))
     have S0:=Lib.hid XS;have U0:=Lib.hid XU;refine' qz8p;clear XS XU XR XB d fd;generalize w1.setCell ⟨w.heap.size,6,none⟩ (.string (idA a))=W2 at *;clear hA hB hk h02
     go_wp2_with (first|(refine n0b (b:=w.heap.size) (c:=({ (c.setP k a)with id:=idA a})) (v:=nilV) rfl _ rfl rfl S0.out ?_)|(refine f0b (b:=w.heap.size+1+1) (c:=Kx.zero) (c':=({ (c.setP k a)with id:=idA a})) (v:=nilV) (q:=none) (n:=0) (k:=0) rfl _ _ rfl rfl rfl R0.out ?_))
     exact bodyPost_ret (v := .agg (stC (({ (c.setP k a)with id:=idA a})) nilV)) (q0a rfl _ _ (w.heap.size+1+1) _ rfl shS (R0.out.put (stC (({ (c.setP k a)with id:=idA a})) nilV)) rfl) rfl ⟨by rw[HK.out],Box.below_setRow HB.out (by omega) _⟩
   · have HK:=Lib.hid (show flagC c u a={ c with id:=idA a} from by
      unfold flagC
      rw[if_neg hae,if_pos g2,if_neg g1])
     rw[if_neg g1]at hA;rw[if_pos g2]at hB;refine' qzi;refine' qz24;refine' qz3u;rw[hk]at c0;clear g1 g2 h0 hae;refine' qzaz;refine' qz75;refine' qz9;refine' qz1m;clear hb c0 c1 PI;have d:=S0.out.cell 6 _ rfl;have fd:=S0.out.frozen 6
     go_upto_region 7 with fail
     have XS:=S0.out.set (i:=6) (v := .string (idA a)) (cs':=stC ({ c with id:=idA a}) nilV) rfl
     refine' qz9x
     have XB:=HB.out.setCell (p:=⟨w.heap.size,6,none⟩) (by show w.heap.size≤w.heap.size;omega) (.string (idA a))
     have S0:=Lib.hid XS;have U0:=Lib.hid XU;refine' qz8p;clear XS XU XR XB d fd;generalize w1.setCell ⟨w.heap.size,6,none⟩ (.string (idA a))=W2 at *;clear hA hB hk h02
     go_wp2_with (first|(refine n0b (b:=w.heap.size) (c:=({ c with id:=idA a})) (v:=nilV) rfl _ rfl rfl S0.out ?_)|(refine f0b (b:=w.heap.size+1+1) (c:=Kx.zero) (c':=({ c with id:=idA a})) (v:=nilV) (q:=none) (n:=0) (k:=0) rfl _ _ rfl rfl rfl R0.out ?_))
     exact bodyPost_ret (v := .agg (stC (({ c with id:=idA a})) nilV)) (q0a rfl _ _ (w.heap.size+1+1) _ rfl shS (R0.out.put (stC (({ c with id:=idA a})) nilV)) rfl) rfl ⟨by rw[HK.out],Box.below_setRow HB.out (by omega) _⟩
 · by_cases g1:128≤u.flags
   · have HK:=Lib.hid (show flagC c u a=c.setP k a from by
      unfold flagC
      rw[if_neg hae,if_neg g2,if_pos g1,hk])
     rw[if_pos g1]at hA;rw[if_neg g2]at hB;refine' qzi;refine' qz24;refine' qz3u;rw[hk]at c0;clear g1 g2 h0 hae;have d:=b0u S0.out hk4;have fd:=S0.out.frozen k;refine' qz8n;refine' qza8
     have XB:=HB.out.setCell (p:=⟨w.heap.size,k,none⟩) (by show w.heap.size≤w.heap.size;omega) (.string a)
     have S0:=Lib.hid XS;have U0:=Lib.hid XU;refine' qz8p;clear XS XU XR XB d fd c0 c1;generalize W.setCell ⟨w.heap.size,k,none⟩ (.string a)=W at *;refine' qz3u;rw[hk]at c0;clear PI
     go_wp2_with (first|(refine n0b (b:=w.heap.size) (c:=(c.setP k a)) (v:=nilV) rfl _ rfl rfl S0.out ?_)|(refine f0b (b:=w.heap.size+1+1) (c:=Kx.zero) (c':=(c.setP k a)) (v:=nilV) (q:=none) (n:=0) (k:=0) rfl _ _ rfl rfl rfl R0.out ?_))
     exact bodyPost_ret (v := .agg (stC ((c.setP k a)) nilV)) (q0a rfl _ _ (w.heap.size+1+1) _ rfl shS (R0.out.put (stC ((c.setP k a)) nilV)) rfl) rfl ⟨by rw[HK.out],Box.below_setRow HB.out (by omega) _⟩
   · have HK:=Lib.hid (show flagC c u a=c from by
      unfold flagC
      rw[if_neg hae,if_neg g2,if_neg g1])
     rw[if_neg g1]at hA;rw[if_neg g2]at hB;refine' qzi;refine' qz24;refine' qz3u;rw[hk]at c0;clear g1 g2 h0 hae;clear PI;refine' qz59
theorem h0v (c:Kx)(u:Up):tellB c u=(!decide (u.hav=0)&&(decide (u.metric=65535)||(!decide (u.ae=0) && !decide (c.id.size=0)))):=rfl
theorem q0s (c:Kx)(u:Up)(w:World) :
    Calls Tryz.prog 345 #[.agg (stC c nilV),.agg u.cells] w fun e w'=>e = .returned (.bool (tellB c u))∧Below w.heap.size w w':=by
 have HK:=Lib.hid (h0v c u);have n1:=nil_eq c.id;have n2:=k0f c.id;have S0:=(Bk.Bk.new 211 w (stC c nilV)).old (.cells u.cells 223);have U0:=Bk.Bk.new 223 (w.alloc (.cells (stC c nilV) 211)) u.cells;rw[b0a]at U0;have HB:=Lib.hid (balloc (balloc (Below.refl _ w) (.cells (stC c nilV) 211)) (.cells u.cells 223));have s6:=S0.cell 6 (.string c.id) rfl;have c0:=U0.cell 0 (.int .i64 u.ae) rfl;have c6:=U0.cell 6 (.int .i64 u.metric) rfl;have c7:=U0.cell 7 (.int .i64 u.hav) rfl;clear S0 U0;generalize tellB c u=y at *;generalize decide (c.id.size=0)=z at *;by_cases h7:u.hav=0
 · rw[decide_eq_true h7]at HK;rw[h7]at c7;clear h7;refine' qzi;refine' qz36;refine' qz1r
 have e7:(u.hav==0)=false:=by simpa using h7
 rw[decide_eq_false h7]at HK;clear h7;by_cases h6:u.metric=65535
 · rw[decide_eq_true h6]at HK;rw[h6]at c6;clear h6;refine' qzi;refine' qz36;refine' qz1r
 have e6:(u.metric==65535)=false:=by simpa using h6
 rw[decide_eq_false h6]at HK;clear h6;by_cases h0:u.ae=0
 · rw[decide_eq_true h0]at HK;rw[h0]at c0;clear h0;refine' qzi;refine' qz36;refine' qz1r
 have e0:(u.ae==0)=false:=by simpa using h0
 have f0:(u.ae != 0)=true:=by rw[bne,e0];rfl
 rw[decide_eq_false h0]at HK;clear h0;cases z
 · refine' qzi;refine' qz36;refine' qz1r
 refine' qzi;refine' qz36;refine' qz1r
theorem shM':Sh Tryz.prog 29 25:=⟨_,Tryz.underlying29,by kernel_rfl⟩
theorem q0o (c:Kx)(d:ByteArray)(u:Up)(a:ByteArray)(w:World)(g:Cnt d u)(ht:u.metric=65535∨¬u.ae=0) :
    Calls Tryz.prog 346 #[.agg (stC c nilV),.agg u.cells,.string a] w fun e w'=>e = .returned (.agg (M.cells { updM c u a with sa:=u.sa,sc:=u.sc}))∧Below w.heap.size w w':=by
 have S0:=Lib.hid (((Bk.Bk.new 211 w (stC c nilV)).old (.cells u.cells 223)).old (.cells M.zero.cells 29));have U0:=Bk.Bk.new 223 (w.alloc (.cells (stC c nilV) 211)) u.cells;rw[b0a]at U0;have U0:=Lib.hid (U0.old (.cells M.zero.cells 29));have R0:=Bx.new ((w.alloc (.cells (stC c nilV) 211)).alloc (.cells u.cells 223)) M.zero;refine' qz70;have HB:=Lib.hid (balloc (balloc (balloc (Below.refl _ w) (.cells (stC c nilV) 211)) (.cells u.cells 223)) (.cells M.zero.cells 29))
 have PF:=Lib.hid (fun V=>n0l u.ae V)
 obtain⟨m0,hm0⟩:∃ m:M,m={ M.zero with kind:=11,ae:=u.ae,pfx:=a,plen:=u.plen,interval:=u.iv,seq:=u.seq,metric:=u.metric,sa:=u.sa,sl:=u.sl,sc:=u.sc}:=⟨_,rfl⟩
 by_cases hm:u.metric=65535
 · have HK:=Lib.hid (show({ updM c u a with sa:=u.sa,sc:=u.sc}:M)=m0 from by
    rw[hm0];unfold updM;rw[if_pos hm,if_pos hm]
    rfl)
   have HM0:=Lib.hid hm0;have HMM:=Lib.hid hm;clear hm0 ht g hm;refine' qzi;refine' qzaa;have c0:=U0.out.cell 0 (.int .i64 u.ae) rfl;have c2:=U0.out.cell 2 (.int .i64 u.plen) rfl;have c4:=U0.out.cell 4 (.int .i64 u.iv) rfl;have c5:=U0.out.cell 5 (.int .i64 u.seq) rfl;have c6:=U0.out.cell 6 (.int .i64 u.metric) rfl;have c9:=U0.out.cell 9 (.slice u.sa u.sl.length u.sc) rfl;have hlt:=R0.out.lt;refine' qz2u;rw[World.setRow_alloc_new,←HM0.out];have bel:=balloc (Below.refl W.heap.size W) (.cells m0.cells 29);have S0:=Lib.hid (S0.out.below bel);have U0:=Lib.hid (U0.out.below bel);refine' qzd;have X0:=Lib.hid (Bx.new W m0);clear bel c0 c2 c4 c5 c6 c9;generalize W.alloc (.cells m0.cells 29)=Y at *;generalize W.heap.size=gx at *;have c6:=U0.out.cell 6 (.int .i64 u.metric) rfl;rw[HMM.out]at c6
   go_wp2_with (first|(refine j0a (b:=gx) (m:=m0) rfl _ rfl rfl X0.out ?_)|(refine e0a (b:=w.heap.size+1+1) (m:=M.zero) (m':=m0) rfl _ _ rfl rfl rfl R0.out ?_))
   exact bodyPost_ret (v := .agg (M.cells (m0))) (q0a rfl _ _ (w.heap.size+1+1) _ rfl shM' (R0.out.put (m':=m0)) rfl) rfl ⟨by rw[HK.out],Box.below_setRow HB.out (by omega) _⟩
 have hm2:(u.metric==65535)=false:=by simpa using hm
 have hm3:(u.metric != 65535)=true:=by rw[bne,hm2];rfl
 obtain⟨f,hf,hf2⟩:∃ f:Nat,fam u.ae=f∧f<2:=by
  have h0:=g.ae0;have h3:=g.ae3;have h4:=ht.resolve_left hm
  rcases(show u.ae=1∨u.ae=2∨u.ae=3 by omega)with e|e|e<;>rw[e]
  · exact⟨0,rfl,by decide⟩
  · exact⟨1,rfl,by decide⟩
  · exact⟨1,rfl,by decide⟩
 have HK:=Lib.hid (show({ updM c u a with sa:=u.sa,sc:=u.sc}:M)={ m0 with id:=c.id,next:=c.nx f} from by
  rw[hm0];unfold updM
  rw[if_neg hm,if_neg hm,hf])
 rw[hf]at PF;have HM0:=Lib.hid hm0;clear hm0 ht g hf;refine' qzi;refine' qzaa;have c0:=U0.out.cell 0 (.int .i64 u.ae) rfl;have c2:=U0.out.cell 2 (.int .i64 u.plen) rfl;have c4:=U0.out.cell 4 (.int .i64 u.iv) rfl;have c5:=U0.out.cell 5 (.int .i64 u.seq) rfl;have c6:=U0.out.cell 6 (.int .i64 u.metric) rfl;have c9:=U0.out.cell 9 (.slice u.sa u.sl.length u.sc) rfl;have hlt:=R0.out.lt;refine' qz2u;rw[World.setRow_alloc_new,←HM0.out];have bel:=balloc (Below.refl W.heap.size W) (.cells m0.cells 29);have S0:=Lib.hid (S0.out.below bel);have U0:=Lib.hid (U0.out.below bel);refine' qzd;have X0:=Lib.hid (Bx.new W m0);clear bel c0 c2 c4 c5 c6 c9;generalize W.alloc (.cells m0.cells 29)=Y at *;generalize W.heap.size=gx at *;have c6:=U0.out.cell 6 (.int .i64 u.metric) rfl;have s6:=S0.out.cell 6 (.string c.id) rfl;have d:=X0.out.cs.c11;have fd:=X0.out.frozen 11;refine' qzco;clear c6 s6 hm hm2 hm3
 have X0:=Lib.hid (X0.out.set (i:=11) (v := .string c.id) (m':={ m0 with id:=c.id}) rfl)
 have S0:=Lib.hid (S0.out.off (p:=⟨gx,11,none⟩) (by show w.heap.size≠gx;omega) (.string c.id))
 have U0:=Lib.hid (U0.out.off (p:=⟨gx,11,none⟩) (by show w.heap.size+1≠gx;omega) (.string c.id))
 have R0:=Lib.hid (R0.out.off (p:=⟨gx,11,none⟩) (by show w.heap.size+1+1≠gx;omega) (.string c.id))
 have HB:=Lib.hid (HB.out.setCell (p:=⟨gx,11,none⟩) (by show w.heap.size≤gx;omega) (.string c.id))
 clear d fd;generalize Y.setCell ⟨gx,11,none⟩ (.string c.id)=Y1 at *;have c0:=U0.out.cell 0 (.int .i64 u.ae) rfl;refine' qzg;refine(PF.out _).mono ?_;refine' qz2k;have s4:=e1o S0.out hf2;have d:=X0.out.cs.c9;have fd:=X0.out.frozen 9
 go_upto_region 5 with(first|(refine p0a (v := .pointer (some ⟨w.heap.size,4+f,none⟩)) (by rfl) rfl (h0j rfl rfl rfl (e1j w.heap.size f hf2 _)) ?_))
 clear c0 s4
 have X0:=Lib.hid (X0.out.set (i:=9) (v := .string (c.nx f)) (m':={ m0 with id:=c.id,next:=c.nx f}) rfl)
 have S0:=Lib.hid (S0.out.off (p:=⟨gx,9,none⟩) (by show w.heap.size≠gx;omega) (.string (c.nx f)))
 have U0:=Lib.hid (U0.out.off (p:=⟨gx,9,none⟩) (by show w.heap.size+1≠gx;omega) (.string (c.nx f)))
 have R0:=Lib.hid (R0.out.off (p:=⟨gx,9,none⟩) (by show w.heap.size+1+1≠gx;omega) (.string (c.nx f)))
 have HB:=Lib.hid (HB.out.setCell (p:=⟨gx,9,none⟩) (by show w.heap.size≤gx;omega) (.string (c.nx f)))
 clear d fd;generalize Y1.setCell ⟨gx,9,none⟩ (.string (c.nx f))=Y2 at *
 go_wp2_with (first|(refine j0a (b:=gx) (m:={ m0 with id:=c.id,next:=c.nx f}) rfl _ rfl rfl X0.out ?_)|(refine e0a (b:=w.heap.size+1+1) (m:=M.zero) (m':={ m0 with id:=c.id,next:=c.nx f}) rfl _ _ rfl rfl rfl R0.out ?_))
 exact bodyPost_ret (v := .agg (M.cells ({ m0 with id:=c.id,next:=c.nx f}))) (q0a rfl _ _ (w.heap.size+1+1) _ rfl shM' (R0.out.put (m':={ m0 with id:=c.id,next:=c.nx f})) rfl) rfl ⟨by rw[HK.out],Box.below_setRow HB.out (by omega) _⟩
end K4
namespace K5
open Ms Box S1 J1
open J2 (nil_eq k0f size_eq)
open J4 (shU u0c z0b)
open J6 (AnsU e0e)
open An Tc K1 Kb K2 K3 K4
open F1 (bt d0b o0b)
open F2 (idx sl_m sl_l)
open Hx (i0e)
open Tl (cellsT)
open Bk (Bk Sh b0a f0a a0a o0a m0a q0a loadVarK d0a)
open Hs
open Go.Proofs.YtllhobicfclheaaGreatDoor.Or (p0a)
theorem MOwn.cell {B:Nat}{w:World}{a:Option Addr}{l:List M}(h:MOwn B w a l){p:Addr}(hp:p.block<B)(x:Value):MOwn B (w.setCell p x) a l:=fun i hi=>by
  obtain⟨q,h1,h2,h3,h4,h5,h6⟩:=h i hi
  refine⟨q,h1,h2,by simpa using h3,fun j v hv=>?_,h5,e0e h6 hp⟩
  have hne:((q.add (i*25)).add j).block≠p.block:=by rw[b0b,b0b];omega
  have:=h4 j v hv
  unfold World.cell? at this⊢
  rw[heap_setCell_other w p _ x hne]
  exact this
theorem _root_.Go.Proofs.YtllhobicfclheaaGreatDoor.Tc.Tab.row {w:World}(h:Tab w){g:Nat}(hg:2<g)(cs:Array Value):Tab (w.setRow g cs):=h.under (B:=3) (Box.below_setRow (Below.refl 3 w) hg cs) (by decide)
def AnsSt (p:Kx×List M×Int)(w:World)(e:Ending)(w':World):Prop:=
  ∃ a k l,e = .returned (.tuple #[.agg (stC p.1 (.slice a l.length k)),.int .i64 p.2.2])∧PlL l p.2.1∧MOwn w.heap.size w' a l∧Below w.heap.size w w'
theorem AnsSt.no {p:Kx×List M×Int}{w w':World}{c:Kx}{d:Int}(h:p=(c,[],d))(hb:Below w.heap.size w w'):AnsSt p w (.returned (.tuple #[.agg (stC c nilV),.int .i64 d])) w':=by
 subst h;exact⟨none,0,[],rfl,PlL.nil,MOwn.nil _ _ _,hb⟩
theorem AnsSt.one {p:Kx×List M×Int}{w w':World}{a:Option Addr}{c:Kx}{m n:M}{k:Nat}(h:p=(c,[m],0))(hp:Pl n m)(hn:MOwn w.heap.size w' a [n])(hb:Below w.heap.size w w'):AnsSt p w (.returned (.tuple #[.agg (stC c (.slice a 1 k)),.int .i64 0])) w':=by
 subst h;exact⟨a,k,[n],rfl,PlL.one hp,hn,hb⟩
theorem AnsSt.boxed {p:Kx×List M×Int}{w W w1:World}{e:Ending}{g:Nat}(h:AnsSt p W e w1)(hg:w.heap.size≤g)(hz:g<W.heap.size)(hb:Below w.heap.size w W) :
    ∃ a n k,e = .returned (.tuple #[.agg (stC p.1 (.slice a n k)),.int .i64 p.2.2])∧Below W.heap.size W w1∧AnsSt p w (.returned (.tuple #[.agg (stC p.1 (.slice a n k)),.int .i64 p.2.2])) (w1.setRow g (stC p.1 (.slice a n k))):=by
 obtain⟨a,k,l,h1,h2,h3,h4⟩:=h;exact⟨a,l.length,k,h1,h4,a,k,l,rfl,h2,(h3.under hz _).mono hb.size,Box.below_setRow (hb.trans (h4.mono hb.size)) hg _⟩
theorem n0u (c:Kx)(d:ByteArray)(w:World)(hs:d.size≤100000) :
    Calls Tryz.prog 321 #[.agg (stC c nilV),.string d] w (AnsSt (out6 c d) w):=by
 by_cases hz:d.size<10
 · have HY:=Lib.hid (show out6 c d=(c,[],2) by unfold out6;rw[d0i hz,if_neg (fun h=>by cases h.2)])
   have hz2:(d.size:Int)<10:=by omega
   refine' qzi;refine' qzm;refine' qz1n;refine' qz19;generalize (w.alloc (.cells (stC c nilV) 211)).alloc (.cells (stC Kx.zero nilV) 211)=W at *;refine' qzx
 have hz2:¬(d.size:Int)<10:=by omega
 have hf:=j0i hz;have he:=g0p (d:=d) (z:=10)
 have PS:=Lib.hid (fun V=>S5.c0e (d.extract 10 d.size) V (by simp;omega))
 have slt:=sl_l d 10 10 d.size rfl (by omega) rfl
 have sla:=sl_m d 2 10 2 10 rfl rfl (by omega) (by omega)
 obtain⟨⟨l,kn,er⟩,ho⟩:∃ q,outS (d.extract 10 d.size)=q:=⟨_,rfl⟩;rw[ho]at PS hf
 cases kn with
 | false=>
  have HY:=Lib.hid (show out6 c d=(c,[],er) by unfold out6;rw[hf,if_neg (fun h=>by cases h.2)])
  clear hf he ho hz hs sla;generalize d.extract 10 d.size=ea at *;refine' qzi;refine' qzm;refine' qz1n;refine' qz19;refine' qz1v;refine(PS.out _).mono ?_;refine' qz4k;refine' qz1m;clear hb hl PS;refine' qz1d
 | true=>
  obtain rfl:er=0:=by
   by_cases h:er=0
   · exact h
   · have:=he (by rw[hf];exact h)
     rw[hf]at this;cases this
  have HY:=Lib.hid (show out6 c d=({ c with id:=d.extract 2 10},[],0) by unfold out6;rw[hf,if_pos ⟨rfl,rfl⟩])
  clear hf he ho hz hs;generalize d.extract 10 d.size=ea at *;generalize d.extract 2 10=eb at *;refine' qzi;refine' qzm;refine' qz1n;refine' qz19;refine' qz1v;refine(PS.out _).mono ?_;refine' qz4k;refine' qz1m;clear hb hl PS;have d0:=S0.out.cell 6 _ rfl;have fd:=S0.out.frozen 6;refine' qzcp
  have XS:=S0.out.set (i:=6) (v := .string eb) (cs':=stC { c with id:=eb} nilV) rfl
  have XR:=R0.out.off (p:=⟨w.heap.size,6,none⟩) (by show w.heap.size+1≠w.heap.size;omega) (.string eb)
  have XB:=HB.out.setCell (p:=⟨w.heap.size,6,none⟩) (by show w.heap.size≤w.heap.size;omega) (.string eb)
  have S0:=Lib.hid XS;refine' qz8p;clear XS XR XB d0 fd;generalize w1.setCell ⟨w.heap.size,6,none⟩ (.string eb)=W2 at *
  go_wp2_with (first|(refine n0b (b:=w.heap.size) (c:=({ c with id:=eb}:Kx)) (v:=nilV) rfl _ rfl rfl S0.out ?_)|(refine f0b (b:=w.heap.size+1) (c:=Kx.zero) (c':=({ c with id:=eb}:Kx)) (v:=nilV) (q:=none) (n:=0) (k:=0) rfl _ _ rfl rfl rfl R0.out ?_))
  exact bodyPost_ret (v := .tuple #[.agg (stC ({ c with id:=eb}:Kx) nilV),.int .i64 0]) (m0a rfl _ _ (w.heap.size+1) _ rfl (loadVarK shS (R0.out.put (stC ({ c with id:=eb}:Kx) nilV)) rfl) (.int .i64 0) rfl) rfl (AnsSt.no HY.out (Box.below_setRow HB.out (by omega) _))
theorem m0x (c:Kx)(d:ByteArray)(w:World)(hs:d.size≤100000)(ht:Tab w) :
    Calls Tryz.prog 322 #[.agg (stC c nilV),.string d] w (AnsSt (out7 c d) w):=by
 by_cases hz:d.size<2
 · have HY:=Lib.hid (show out7 c d=(c,[],2) by unfold out7;rw[if_pos hz])
   have hz2:(d.size:Int)<2:=by omega
   refine' qzi;refine' qzm;refine' qz1n;refine' qz19;generalize (w.alloc (.cells (stC c nilV) 211)).alloc (.cells (stC Kx.zero nilV) 211)=W at *;refine' qzx
 have hz2:¬(d.size:Int)<2:=by omega
 have i0:=idx d 0 0 rfl (by omega)
 have b0:=d0b d 0;have b1:=o0b d 0;have v0:=i0e (bt d 0) b0 b1
 have PF:=Lib.hid (fun V=>n0l (bt d 0) V)
 by_cases hn:bt d 0=0∨3<bt d 0
 · have HY:=Lib.hid (show out7 c d=(c,[],0) by unfold out7;rw[if_neg hz,if_pos hn])
   have hf:fam (bt d 0) = -1:=by unfold fam;rw[if_neg (by omega),if_neg (by omega)]
   rw[hf]at PF;clear hn hf hz hs b0 b1;generalize bt d 0=y0 at *;refine' qzi;refine' qzm;refine' qz1n;refine' qz19;refine' qz1v;refine' qz5o;refine' qzw
   exact bodyPost_ret (v := .tuple #[.agg (stC c nilV),.int .i64 0]) (m0a rfl _ _ (w.heap.size+1) _ rfl (loadVarK shS (R0.out.put (stC c nilV)) rfl) (.int .i64 0) rfl) rfl (AnsSt.no HY.out (Box.below_setRow HB.out (by omega) _))
 have HT:=Lib.hid ht
 rcases(show bt d 0=1∨bt d 0=2∨bt d 0=3 by omega)with e|e|e
 · rw[e]at i0 v0 PF hn
   have PF:=Lib.hid (show ∀ V,Calls Tryz.prog 245 #[.int .i64 1] V fun e w'=>e = .returned (.int .i64 0)∧V=w' from PF.out)
   have hsz:sizeA (bt d 0)=4:=by rw[e];rfl
   by_cases hy:d.size<6
   · refine' qzdf
     have hy2:(d.size:Int)<6:=by omega
     clear hz hs b0 b1 hn e hsz hy;refine' qzi;refine' qzm;refine' qz1n;refine' qz6t;have tz:=HT.out.z1;refine' qz1v;refine' qz5o;refine' qzx
   have hy2:¬(d.size:Int)<6:=by omega
   have hf:=j0i hy;have he:=g0p (d:=d) (z:=6)
   have PS:=Lib.hid (fun V=>S5.c0e (d.extract 6 d.size) V (by simp;omega))
   have slt:=sl_l d 6 6 d.size rfl (by omega) rfl
   have sla:=sl_m d 2 6 2 6 rfl rfl (by omega) (by omega)
   have PL:=Lib.hid (fun V=>a0g 1 (d.extract 2 6) V)
   have HH:=Lib.hid (show lgC 1 (d.extract 2 6)=hopA (bt d 0) d by rw[e];rfl)
   obtain⟨⟨l,kn,er⟩,ho⟩:∃ q,outS (d.extract 6 d.size)=q:=⟨_,rfl⟩;rw[ho]at PS hf
   cases kn with
   | false=>
    refine' qz6b;generalize d.extract 6 d.size=ea at *;refine' qzi;refine' qzm;refine' qz1n;refine' qz6t;have tz:=HT.out.z1;refine' qz1v;refine' qz5o;refine' qz5y;refine' qz4k;refine' qz1m;clear hb hl PS;refine' qz1d
   | true=>
    refine' qz3c;rw[←HH.out,e]at HY
    have HY:=Lib.hid (show out7 c d=({ c with n0:=lgC 1 (d.extract 2 6)},[],0)from HY.out)
    clear hf he ho hz hs b0 b1 hn e hsz hy HH;generalize d.extract 6 d.size=ea at *;generalize d.extract 2 6=es at *;generalize lgC 1 es=eb at *;refine' qzi;refine' qzm;refine' qz1n;refine' qz6t;have tz:=HT.out.z1;refine' qz1v;refine' qz5o;refine' qz5y;refine' qz4k;refine' qz1m;clear hb hl PS;refine' qzg;refine(PL.out _).mono ?_;refine' qz2g;have d0:=S0.out.cell 4 _ rfl;have fd:=S0.out.frozen 4
    go_upto_region 13 with fail
    have XS:=S0.out.set (i:=4) (v := .string eb) (cs':=stC { c with n0:=eb} nilV) rfl
    have XR:=R0.out.off (p:=⟨w.heap.size,4,none⟩) (by show w.heap.size+1≠w.heap.size;omega) (.string eb)
    have XB:=HB.out.setCell (p:=⟨w.heap.size,4,none⟩) (by show w.heap.size≤w.heap.size;omega) (.string eb)
    have S0:=Lib.hid XS;refine' qz8p;clear XS XR XB d0 fd;generalize w1.setCell ⟨w.heap.size,4,none⟩ (.string eb)=W2 at *
    go_wp2_with (first|(refine n0b (b:=w.heap.size) (c:=({ c with n0:=eb}:Kx)) (v:=nilV) rfl _ rfl rfl S0.out ?_)|(refine f0b (b:=w.heap.size+1) (c:=Kx.zero) (c':=({ c with n0:=eb}:Kx)) (v:=nilV) (q:=none) (n:=0) (k:=0) rfl _ _ rfl rfl rfl R0.out ?_))
    exact bodyPost_ret (v := .tuple #[.agg (stC ({ c with n0:=eb}:Kx) nilV),.int .i64 0]) (m0a rfl _ _ (w.heap.size+1) _ rfl (loadVarK shS (R0.out.put (stC ({ c with n0:=eb}:Kx) nilV)) rfl) (.int .i64 0) rfl) rfl (AnsSt.no HY.out (Box.below_setRow HB.out (by omega) _))
 · rw[e]at i0 v0 PF hn
   have PF:=Lib.hid (show ∀ V,Calls Tryz.prog 245 #[.int .i64 2] V fun e w'=>e = .returned (.int .i64 1)∧V=w' from PF.out)
   have hsz:sizeA (bt d 0)=16:=by rw[e];rfl
   by_cases hy:d.size<18
   · refine' qzdf
     have hy2:(d.size:Int)<18:=by omega
     clear hz hs b0 b1 hn e hsz hy;refine' qzi;refine' qzm;refine' qz1n;refine' qz6t;have tz:=HT.out.z2;refine' qz1v;refine' qz5o;refine' qzx
   have hy2:¬(d.size:Int)<18:=by omega
   have hf:=j0i hy;have he:=g0p (d:=d) (z:=18)
   have PS:=Lib.hid (fun V=>S5.c0e (d.extract 18 d.size) V (by simp;omega))
   have slt:=sl_l d 18 18 d.size rfl (by omega) rfl
   have sla:=sl_m d 2 18 2 18 rfl rfl (by omega) (by omega)
   have PL:=Lib.hid (fun V=>a0g 2 (d.extract 2 18) V)
   have HH:=Lib.hid (show lgC 2 (d.extract 2 18)=hopA (bt d 0) d by rw[e];rfl)
   obtain⟨⟨l,kn,er⟩,ho⟩:∃ q,outS (d.extract 18 d.size)=q:=⟨_,rfl⟩;rw[ho]at PS hf
   cases kn with
   | false=>
    refine' qz6b;generalize d.extract 18 d.size=ea at *;refine' qzi;refine' qzm;refine' qz1n;refine' qz6t;have tz:=HT.out.z2;refine' qz1v;refine' qz5o;refine' qz5y;refine' qz4k;refine' qz1m;clear hb hl PS;refine' qz1d
   | true=>
    refine' qz3c;rw[←HH.out,e]at HY
    have HY:=Lib.hid (show out7 c d=({ c with n1:=lgC 2 (d.extract 2 18)},[],0)from HY.out)
    clear hf he ho hz hs b0 b1 hn e hsz hy HH;generalize d.extract 18 d.size=ea at *;generalize d.extract 2 18=es at *;generalize lgC 2 es=eb at *;refine' qzi;refine' qzm;refine' qz1n;refine' qz6t;have tz:=HT.out.z2;refine' qz1v;refine' qz5o;refine' qz5y;refine' qz4k;refine' qz1m;clear hb hl PS;refine' qzg;refine(PL.out _).mono ?_;refine' qz2g;have d0:=S0.out.cell 5 _ rfl;have fd:=S0.out.frozen 5
    go_upto_region 13 with fail
    have XS:=S0.out.set (i:=5) (v := .string eb) (cs':=stC { c with n1:=eb} nilV) rfl
    refine' qzag;have S0:=Lib.hid XS;refine' qz8p;clear XS XR XB d0 fd;generalize w1.setCell ⟨w.heap.size,5,none⟩ (.string eb)=W2 at *;refine' qz3k
 · rw[e]at i0 v0 PF hn
   have PF:=Lib.hid (show ∀ V,Calls Tryz.prog 245 #[.int .i64 3] V fun e w'=>e = .returned (.int .i64 1)∧V=w' from PF.out)
   have hsz:sizeA (bt d 0)=8:=by rw[e];rfl
   by_cases hy:d.size<10
   · refine' qzdf
     have hy2:(d.size:Int)<10:=by omega
     clear hz hs b0 b1 hn e hsz hy;refine' qzi;refine' qzm;refine' qz1n;refine' qz6t;have tz:=HT.out.z3;refine' qz1v;refine' qz5o;refine' qzx
   have hy2:¬(d.size:Int)<10:=by omega
   have hf:=j0i hy;have he:=g0p (d:=d) (z:=10)
   have PS:=Lib.hid (fun V=>S5.c0e (d.extract 10 d.size) V (by simp;omega))
   have slt:=sl_l d 10 10 d.size rfl (by omega) rfl
   have sla:=sl_m d 2 10 2 10 rfl rfl (by omega) (by omega)
   have PL:=Lib.hid (fun V=>a0g 3 (d.extract 2 10) V)
   have HH:=Lib.hid (show lgC 3 (d.extract 2 10)=hopA (bt d 0) d by rw[e];rfl)
   obtain⟨⟨l,kn,er⟩,ho⟩:∃ q,outS (d.extract 10 d.size)=q:=⟨_,rfl⟩;rw[ho]at PS hf
   cases kn with
   | false=>
    refine' qz6b;generalize d.extract 10 d.size=ea at *;refine' qzi;refine' qzm;refine' qz1n;refine' qz6t;have tz:=HT.out.z3;refine' qz1v;refine' qz5o;refine' qz5y;refine' qz4k;refine' qz1m;clear hb hl PS;refine' qz1d
   | true=>
    refine' qz3c;rw[←HH.out,e]at HY
    have HY:=Lib.hid (show out7 c d=({ c with n1:=lgC 3 (d.extract 2 10)},[],0)from HY.out)
    clear hf he ho hz hs b0 b1 hn e hsz hy HH;generalize d.extract 10 d.size=ea at *;generalize d.extract 2 10=es at *;generalize lgC 3 es=eb at *;refine' qzi;refine' qzm;refine' qz1n;refine' qz6t;have tz:=HT.out.z3;refine' qz1v;refine' qz5o;refine' qz5y;refine' qz4k;refine' qz1m;clear hb hl PS;refine' qzg;refine(PL.out _).mono ?_;refine' qz2g;have d0:=S0.out.cell 5 _ rfl;have fd:=S0.out.frozen 5
    go_upto_region 13 with fail
    have XS:=S0.out.set (i:=5) (v := .string eb) (cs':=stC { c with n1:=eb} nilV) rfl
    refine' qzag;have S0:=Lib.hid XS;refine' qz8p;clear XS XR XB d0 fd;generalize w1.setCell ⟨w.heap.size,5,none⟩ (.string eb)=W2 at *;refine' qz3k
theorem w1i {d:ByteArray}{u:Up}(g:Cnt d u)(a:Option Addr)(k:Nat):Cnt d { u with sa:=a,sc:=k}:=⟨g.ae0,g.ae3,g.len,g.om0,g.omle,g.size,g.subs,g.iv,g.seq,g.metric,g.fl0,g.fl1⟩
theorem b0h (c:Kx)(a:Int)(d:ByteArray)(w:World)(hc:okC c=true)(hs:d.size≤100000)(ht:Tab w) :
    Calls Tryz.prog 323 #[.agg (stC c nilV),.agg (cellsT (a,(d,8)))] w (AnsSt (out8 c d) w):=by
 have ho:=(o0f c).1 hc
 rcases outK_two d with⟨er,hq⟩|⟨u,g,hq⟩
 · have HY:=Lib.hid (d0v (c:=c) hq);obtain⟨q,hqq⟩:∃ q:Up,q=Up.zero:=⟨_,rfl⟩
   have P1:=Lib.hid (fun V (y:Tab V)=>show Calls Tryz.prog 342 #[.agg (cellsT (a,(d,8)))] V (fun e w'=>∃ sa sc,e = .returned (.tuple #[.agg (Up.cells { q with sa:=sa,sc:=sc}),.bool false,.int .i64 er])∧Below V.heap.size V w')from
    (J6.g0y a d V hs y).mono (fun e w' h=>by
     rw[hq]at h;obtain⟨sa,sc,h1,_,h3⟩:=h;rw[hqq]
     exact⟨sa,sc,h1,h3⟩))
   clear hq hqq ho hc hs;refine' qzi;refine' qz3z;have T0:=Bk.Bk.new 110 (w.alloc (.cells (stC c nilV) 211)) (cellsT (a,(d,8)));rw[b0a]at T0;refine' qz6u;refine' qz70;refine' qz6k;have h1:=ht.pos;have hlt:=R0.out.lt;refine' qz8d
   go_wp2_with (first|(refine Bk.f0a (b:=w.heap.size+1) Tl.shT rfl _ rfl rfl T0.out rfl ?_))
   refine(P1.out _ HT.out).mono ?_;rintro e w1 ⟨sa,sc,rfl,hb⟩;have S0:=Lib.hid (S0.out.below hb);refine' qza;refine' qz6
   go_upto_region 2 with(refine z0b (b:=w1.heap.size) (m:=Up.zero) (m':={ q with sa:=sa,sc:=sc}) rfl _ _ rfl rfl rfl (Bk.Bk.new 223 w1 Up.zero.cells) ?_)
   change Code.wp _ _ _ _ ((w1.alloc (.cells Up.zero.cells 223)).setRow w1.heap.size (Up.cells { q with sa:=sa,sc:=sc}))
   refine' qz33
   have bel:=balloc (Below.refl w1.heap.size w1) (.cells (Up.cells { q with sa:=sa,sc:=sc}) 223)
   have hlt1:=R0.out.lt;have S0:=Lib.hid (S0.out.below bel);refine' qzb;refine' qz5s;clear hb bel T0 P1
   generalize w1.alloc (.cells (Up.cells { q with sa:=sa,sc:=sc}) 223)=V1 at *
   generalize w1.heap.size=g1 at *;refine' qz58
   exact bodyPost_ret (v := .tuple #[.agg (stC c nilV),.int .i64 er]) (m0a rfl _ _ (w.heap.size+1+1) _ rfl (loadVarK shS (R0.out.put (stC c nilV)) rfl) (.int .i64 er) rfl) rfl (AnsSt.no HY.out (Box.below_setRow HB.out (by omega) _))
 have P1:=Lib.hid (fun V (y:Tab V)=>show Calls Tryz.prog 342 #[.agg (cellsT (a,(d,8)))] V (fun e w'=>∃ v:Up,Cnt d v∧out8 c d=stU c v∧e = .returned (.tuple #[.agg v.cells,.bool true,.int .i64 0])∧Sx.Lst V.heap.size w' (.slice v.sa v.sl.length v.sc) v.sl∧Below V.heap.size V w')from
  (J6.g0y a d V hs y).mono (fun e w' h=>by
   rw[hq]at h;obtain⟨sa,sc,h1,h2,h3⟩:=h
   exact⟨{ u with sa:=sa,sc:=sc},w1i g sa sc,(q0m hq).trans rfl,h1,h2,h3⟩))
 clear hq g u;refine' qzi;refine' qz3z;have T0:=Bk.Bk.new 110 (w.alloc (.cells (stC c nilV) 211)) (cellsT (a,(d,8)));rw[b0a]at T0;refine' qz6u;refine' qz70;refine' qz6k;have h1:=ht.pos;have hlt:=R0.out.lt;refine' qz8d
 go_wp2_with (first|(refine Bk.f0a (b:=w.heap.size+1) Tl.shT rfl _ rfl rfl T0.out rfl ?_))
 refine(P1.out _ HT.out).mono ?_;rintro e w1 ⟨v,g,hy,rfl,hl,hb⟩;have S0:=Lib.hid (S0.out.below hb);refine' qza;refine' qz6
 go_upto_region 2 with(refine z0b (b:=w1.heap.size) (m:=Up.zero) (m':=v) rfl _ _ rfl rfl rfl (Bk.Bk.new 223 w1 Up.zero.cells) ?_)
 change Code.wp _ _ _ _ ((w1.alloc (.cells Up.zero.cells 223)).setRow w1.heap.size (Up.cells v));refine' qz33;have bel:=balloc (Below.refl w1.heap.size w1) (.cells (Up.cells v) 223);have hlt1:=R0.out.lt;have S0:=Lib.hid (S0.out.below bel);refine' qzb;refine' qz5s;have HL:=Lib.hid (hl.below bel);have U0:=Lib.hid (Bk.Bk.new 223 w1 v.cells);obtain⟨B1,hB1⟩:∃ B,W.heap.size=B:=⟨_,rfl⟩;rw[hB1]at HL hlt
 have hg1:B1≤w1.heap.size:=by rw[←hB1];exact hb.size
 have hwB:w.heap.size≤B1:=by omega
 clear hb hl bel T0 P1 hB1;generalize w1.alloc (.cells v.cells 223)=V1 at *;generalize w1.heap.size=g1 at *
 obtain⟨k,hk⟩:∃ k:Nat,v.ae=k:=⟨v.ae.toNat,by have:=g.ae0;omega⟩
 have hk4:k<4:=by have:=g.ae3;omega
 have c3:=U0.out.cell 3 (.int .i64 v.om) rfl;by_cases h0:0<v.om;rotate_left
 · have e0:v.om=0:=by have:=g.om0;omega
   have hx:¬(0<v.om∧(c.pf v.ae).size=0):=fun h=>h0 h.1
   rw[e0]at c3;clear h0 e0;refine' qzcp;clear c3 hk hk4;have HY:=Lib.hid (hy.trans (s0m hx));have hi:=m1a ho g hx
   have hz16:(adrC c v).size≤1000:=by have:=J2.k0i hi;omega
   have P2:=Lib.hid (fun V (y:Tab V)=>u0h c nilV d v V ho g hx y)
   have P3:=Lib.hid (fun V=>v0o c d v (adrC c v) V g hz16)
   have P4:=Lib.hid (fun V=>q0s (flagC c v (adrC c v)) v V)
   have P5:=Lib.hid (fun V h=>q0o (flagC c v (adrC c v)) d v (adrC c v) V g h)
   have HTE:=Lib.hid (h0v (flagC c v (adrC c v)) v);clear hx hi hz16 ho hc hy;generalize adrC c v=ad at *;refine' qzca;refine(P2.out _ HT.out).mono ?_;refine' qz4b;refine' qz9;refine' qza;refine' qz8;clear hb P2;refine' qzc9;refine(P3.out _).mono ?_;refine' qzct;refine' qz9;refine' qza;refine' qz8;clear hb P3;have hlt3:=R0.out.lt;refine' qza9;have HT:=Lib.hid (HT.out.row (g:=w.heap.size) h1 (stC cf nilV))
   have U0:=Lib.hid (U0.out.row (g:=w.heap.size) (by omega) (stC cf nilV))
   have R0:=Lib.hid (R0.out.row (g:=w.heap.size) (by omega) (stC cf nilV))
   have S0:=Lib.hid (S0.out.put (stC cf nilV));have HB:=Lib.hid (Box.below_setRow HB.out (Nat.le_refl _) (stC cf nilV));refine' qzap;refine(P4.out _).mono ?_;rintro e w5 ⟨rfl,hb⟩;refine' qz9;refine' qza;refine' qz8;refine' qze
 have n1:=nil_eq (c.pf k);have n2:=k0f (c.pf k);have c0:=U0.out.cell 0 (.int .i64 v.ae) rfl;rw[hk]at c0;have p0:=b0u S0.out hk4;by_cases hz:(c.pf k).size=0
 · have HY:=Lib.hid (hy.trans (s0u ⟨h0,by rw[hk];exact hz⟩))
   rw[decide_eq_true hz]at n1 n2;clear hz hy hk ho hc g
   go_wp2_with (first|(refine p0a (v := .pointer (some ⟨w.heap.size,k,none⟩)) (by rfl) rfl (h0j rfl rfl rfl (w0p w.heap.size k hk4 _)) ?_)|(refine n0b (b:=w.heap.size) (c:=c) (v:=nilV) rfl _ rfl rfl S0.out ?_)|(refine f0b (b:=w.heap.size+1+1) (c:=Kx.zero) (c':=c) (v:=nilV) (q:=none) (n:=0) (k:=0) rfl _ _ rfl rfl rfl R0.out ?_))
   exact bodyPost_ret (v := .tuple #[.agg (stC c nilV),.int .i64 9]) (m0a rfl _ _ (w.heap.size+1+1) _ rfl (loadVarK shS (R0.out.put (stC c nilV)) rfl) (.int .i64 9) rfl) rfl (AnsSt.no HY.out (Box.below_setRow HB.out (by omega) _))
 have hx:¬(0<v.om∧(c.pf v.ae).size=0):=fun h=>hz (by rw[←hk];exact h.2)
 rw[decide_eq_false hz]at n1 n2;clear hz hk
 go_upto_region 6 with(first|(refine p0a (v := .pointer (some ⟨w.heap.size,k,none⟩)) (by rfl) rfl (h0j rfl rfl rfl (w0p w.heap.size k hk4 _)) ?_))
 clear c3 c0 p0 n1 n2 h0 hk4;have HY:=Lib.hid (hy.trans (s0m hx));have hi:=m1a ho g hx
 have hz16:(adrC c v).size≤1000:=by have:=J2.k0i hi;omega
 have P2:=Lib.hid (fun V (y:Tab V)=>u0h c nilV d v V ho g hx y)
 have P3:=Lib.hid (fun V=>v0o c d v (adrC c v) V g hz16)
 have P4:=Lib.hid (fun V=>q0s (flagC c v (adrC c v)) v V)
 have P5:=Lib.hid (fun V h=>q0o (flagC c v (adrC c v)) d v (adrC c v) V g h)
 have HTE:=Lib.hid (h0v (flagC c v (adrC c v)) v);clear hx hi hz16 ho hc hy;generalize adrC c v=ad at *;refine' qzca;refine(P2.out _ HT.out).mono ?_;refine' qz4b;refine' qz9;refine' qza;refine' qz8;clear hb P2;refine' qzc9;refine(P3.out _).mono ?_;refine' qzct;refine' qz9;refine' qza;refine' qz8;clear hb P3;have hlt3:=R0.out.lt;refine' qza9;have HT:=Lib.hid (HT.out.row (g:=w.heap.size) h1 (stC cf nilV))
 have U0:=Lib.hid (U0.out.row (g:=w.heap.size) (by omega) (stC cf nilV))
 have R0:=Lib.hid (R0.out.row (g:=w.heap.size) (by omega) (stC cf nilV))
 have S0:=Lib.hid (S0.out.put (stC cf nilV));have HB:=Lib.hid (Box.below_setRow HB.out (Nat.le_refl _) (stC cf nilV));refine' qzap;refine(P4.out _).mono ?_;rintro e w5 ⟨rfl,hb⟩;refine' qz9;refine' qza;refine' qz8;refine' qze
end K5
end Go.Proofs.YtllhobicfclheaaGreatDoor
