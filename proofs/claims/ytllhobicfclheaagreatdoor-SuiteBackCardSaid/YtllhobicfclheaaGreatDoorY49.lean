/-
  A part of a proof. No conditions.
-/
import Derived.Test.YtllhobicfclheaaGreatDoorY48
namespace Go.Proofs.YtllhobicfclheaaGreatDoor
open Go.ChangeShapes Go.WideShapes Go.ChangeAt Go.RowKit
set_option linter.unusedVariables false
set_option maxRecDepth 100000
set_option maxHeartbeats 51200000
namespace U2
open Ms Box All Tc
open O3 (Sp)
open U1
def AnsS (p:Int)(q:List M×Int×Int)(w:World)(e:Ending)(w':World):Prop:=
  ∃ a c l,e = .returned (.tuple #[.slice a l.length c,.int .i64 q.2.1,.int .i64 q.2.2])∧Rel p l q.1∧MRow w' a l∧Below w.heap.size w w'
def AnsE (p:ByteArray×Int×Int)(w:World)(e:Ending)(w':World):Prop:=e = .returned (.tuple #[.string p.1,.int .i64 p.2.1,.int .i64 p.2.2])∧Below w.heap.size w w'
theorem h1p {p:Int}(hp:p≤2){q:List M×Int×Int}{w w':World}{e:Ending}(h:∃ a c,e = .returned (.tuple #[.slice a q.1.length c,.int .i64 q.2.1,.int .i64 q.2.2])∧MRow w' a q.1∧Below w.heap.size w w'):AnsS p q w e w':=by
 obtain⟨a,c,h1,h2,h3⟩:=h;exact⟨a,c,q.1,h1,Rel.eq hp _,h2,h3⟩
theorem a1s {q:List M×Int×Int}{w w':World}{e:Ending}(h:A2.AnsL q w e w'):AnsS 3 q w e w':=by
 obtain⟨a,c,l,h1,h2,h3,h4⟩:=h;exact⟨a,c,l,h1,Rel.aodv h2,h3,h4⟩
theorem a1t {q:List M×Int×Int}{w w':World}{e:Ending}(h:Fq.AnsP q w e w'):AnsS 4 q w e w':=by
 obtain⟨a,c,l,h1,h2,h3,h4⟩:=h;exact⟨a,c,l,h1,Rel.babel h2,h3.row,h4⟩
def fv (n:FuncId):Value := .func (.func n) #[] #[]
def callsV (p:Int):Value:=
  if p=1 then .agg #[fv 31,fv 32,fv 33]
  else if p=2 then .agg #[fv 34,fv 35,fv 36]
  else if p=3 then .agg #[fv 37,fv 38,fv 39]
  else if p=4 then .agg #[fv 40,fv 41,fv 42]
  else .agg #[.nilFunc,.nilFunc,.nilFunc]
theorem shS:Bk.Sh Tryz.prog 43 3:=⟨_,Tryz.underlying43,by kernel_rfl⟩
theorem l0q (a b c:FuncId):((#[fv a,fv b,fv c]).all fun x=>x.oneCell')=true:=by simp[fv,Value.oneCell']
theorem e1b:((#[.nilFunc,.nilFunc,.nilFunc]:Array Value).all fun x=>x.oneCell')=true:=by simp[Value.oneCell']
theorem made (w:World)(cs:Array Value):Bk.Bk 43 ((w.alloc (.cells #[.nilFunc,.nilFunc,.nilFunc] 43)).setRow w.heap.size cs) w.heap.size cs∧
    Below w.heap.size w ((w.alloc (.cells #[.nilFunc,.nilFunc,.nilFunc] 43)).setRow w.heap.size cs):=
  ⟨(Bk.Bk.new 43 w _).put cs,Bk.below_setRow ((Below.refl w.heap.size w).alloc (Nat.le_refl _) _) (Nat.le_refl _) cs⟩
theorem j1f (p:Int)(w:World):Calls Tryz.prog 17 #[.int .i64 p] w fun e w'=>e = .returned (.tuple #[callsV p,.bool (decide (1≤p∧p≤4))])∧Below w.heap.size w w':=by
 by_cases h1:p=1
 · subst h1;go_in
   go_wp2_with (first|(refine Bk.d0a rfl 43 _ rfl #[fv 31,fv 32,fv 33] (by kernel_rfl) ?_)|(refine Bk.a0a (b:=w.heap.size) shS rfl _ _ rfl rfl rfl (Bk.Bk.new _ _ _) rfl rfl (l0q _ _ _) ?_))
   refine bodyPost_ret (v := .tuple #[callsV 1,.bool true]) (Bk.m0a (ty:=43) rfl _ _ w.heap.size _ rfl (Bk.loadVarK shS (made w _).1 rfl) _ rfl) rfl ⟨rfl,(made w _).2⟩
 by_cases h2:p=2
 · subst h2;go_in
   go_wp2_with (first|(refine Bk.d0a rfl 43 _ rfl #[fv 34,fv 35,fv 36] (by kernel_rfl) ?_)|(refine Bk.a0a (b:=w.heap.size) shS rfl _ _ rfl rfl rfl (Bk.Bk.new _ _ _) rfl rfl (l0q _ _ _) ?_))
   refine bodyPost_ret (v := .tuple #[callsV 2,.bool true]) (Bk.m0a (ty:=43) rfl _ _ w.heap.size _ rfl (Bk.loadVarK shS (made w _).1 rfl) _ rfl) rfl ⟨rfl,(made w _).2⟩
 by_cases h3:p=3
 · subst h3;go_in
   go_wp2_with (first|(refine Bk.d0a rfl 43 _ rfl #[fv 37,fv 38,fv 39] (by kernel_rfl) ?_)|(refine Bk.a0a (b:=w.heap.size) shS rfl _ _ rfl rfl rfl (Bk.Bk.new _ _ _) rfl rfl (l0q _ _ _) ?_))
   refine bodyPost_ret (v := .tuple #[callsV 3,.bool true]) (Bk.m0a (ty:=43) rfl _ _ w.heap.size _ rfl (Bk.loadVarK shS (made w _).1 rfl) _ rfl) rfl ⟨rfl,(made w _).2⟩
 by_cases h4:p=4
 · subst h4;go_in
   go_wp2_with (first|(refine Bk.d0a rfl 43 _ rfl #[fv 40,fv 41,fv 42] (by kernel_rfl) ?_)|(refine Bk.a0a (b:=w.heap.size) shS rfl _ _ rfl rfl rfl (Bk.Bk.new _ _ _) rfl rfl (l0q _ _ _) ?_))
   refine bodyPost_ret (v := .tuple #[callsV 4,.bool true]) (Bk.m0a (ty:=43) rfl _ _ w.heap.size _ rfl (Bk.loadVarK shS (made w _).1 rfl) _ rfl) rfl ⟨rfl,(made w _).2⟩
 have hv:Hid (callsV p = .agg #[.nilFunc,.nilFunc,.nilFunc]∧decide (1≤p∧p≤4)=false):=Lib.hid ⟨by unfold callsV;rw[if_neg h1,if_neg h2,if_neg h3,if_neg h4],decide_eq_false (by omega)⟩
 go_in
 go_wp2_with (first|(refine Bk.d0a rfl 43 _ rfl #[.nilFunc,.nilFunc,.nilFunc] (by kernel_rfl) ?_)|(refine Bk.a0a (b:=w.heap.size) shS rfl _ _ rfl rfl rfl (Bk.Bk.new _ _ _) rfl rfl e1b ?_))
 refine bodyPost_ret (v := .tuple #[.agg #[.nilFunc,.nilFunc,.nilFunc],.bool false]) (Bk.m0a (ty:=43) rfl _ _ w.heap.size _ rfl (Bk.loadVarK shS (made w _).1 rfl) _ rfl) rfl ⟨by rw[hv.out.1,hv.out.2],(made w _).2⟩
theorem t0m (p:Int)(m:M)(w:World)(a b c:FuncId)(r:Bool)(hp:callsV p = .agg #[fv a,fv b,fv c]∧decide (1≤p∧p≤4)=true)(hcf:∀ v V,(callFunc a #[v]).run Tryz.prog V = .ok (.enter a #[v]) V)
    (P:∀ V,Below w.heap.size w V→Calls Tryz.prog a #[.agg m.cells] V fun e w'=>e = .returned (.bool r)∧Below V.heap.size V w') :
    Calls Tryz.prog 9 #[.int .i64 p,.agg m.cells] w fun e w'=>e = .returned (.bool r)∧Below w.heap.size w w':=by
 refine' qz9e;have P0:=Lib.hid P0;have PF:=Lib.hid P;have HB:=Lib.hid (balloc (Below.refl _ w) (.cells m.cells 29));have HX:=Lib.hid (Bx.new w m);clear hp P;refine' qz2f;refine' qzg;refine' qzah;have HX:=Lib.hid (HX.out.below hb);refine' qz6;clear hb P0;refine' qz6o;have HX:=Lib.hid (HX.out.below (made V1 #[fv a,fv b,fv c]).2);refine' qz71;have c0:=HK.out.cell 0 (fv a) rfl;unfold fv at c0
 go_wp2_with (first|(refine Or.p0a (v := .agg m.cells) (by rfl) rfl (Hs.a0b (x := .tmp 3) rfl rfl HX.out) ?_))
 refine(PF.out _ HB.out).mono ?_;rintro e V2 ⟨rfl,hb⟩;refine' qz63;refine' qz7g
theorem g0m (p:Int)(s:ByteArray)(w:World)(a b c:FuncId)(q:List M×Int×Int)(hp:callsV p = .agg #[fv a,fv b,fv c]∧decide (1≤p∧p≤4)=true)(hcf:∀ v V,(callFunc b #[v]).run Tryz.prog V = .ok (.enter b #[v]) V)
    (P:∀ V,Below w.heap.size w V→Calls Tryz.prog b #[.string s] V (AnsS p q V)) :
    Calls Tryz.prog 11 #[.int .i64 p,.string s] w (AnsS p q w):=by
 refine' qz9e;have P0:=Lib.hid P0;have PF:=Lib.hid P;clear hp P;refine' qz16;refine' qzah;refine' qz4n;clear hb P0;refine' qz6o;refine' qz71;have c0:=HK.out.cell 1 (fv b) rfl;unfold fv at c0;refine' qzg;refine(PF.out _ HB.out).mono ?_;rintro e V2 ⟨x,n,l,rfl,h1,h2,hb⟩
 have HE:=Lib.hid (show Rel p l q.1∧MRow V2 x l∧Below w.heap.size w V2 from⟨h1,h2,bcall HB.out hb⟩)
 clear h1 h2 hb;refine' qz5w;exact⟨x,n,l,rfl,HE.out⟩
theorem h0l (p:Int)(x:Option Addr)(n k:Nat)(w:World)(a b c:FuncId)(q:ByteArray×Int×Int)(hp:callsV p = .agg #[fv a,fv b,fv c]∧decide (1≤p∧p≤4)=true)(hcf:∀ v V,(callFunc c #[v]).run Tryz.prog V = .ok (.enter c #[v]) V)
    (P:∀ V,Below w.heap.size w V→Calls Tryz.prog c #[.slice x n k] V (AnsE q V)) :
    Calls Tryz.prog 13 #[.int .i64 p,.slice x n k] w (AnsE q w):=by
 refine' qz9e;have P0:=Lib.hid P0;have PF:=Lib.hid P;clear hp P;refine' qz16;refine' qzah;refine' qz4n;clear hb P0;refine' qz6o;refine' qz71;have c0:=HK.out.cell 2 (fv c) rfl;unfold fv at c0;refine' qzg;refine(PF.out _ HB.out).mono ?_;rintro e V2 ⟨rfl,hb⟩;refine' qz63;refine' qz5w;exact⟨rfl,HB.out⟩
theorem i1h {p:Int}(h:¬(1≤p∧p≤4)):callsV p = .agg #[.nilFunc,.nilFunc,.nilFunc]∧decide (1≤p∧p≤4)=false:=⟨by unfold callsV;rw[if_neg (by omega),if_neg (by omega),if_neg (by omega),if_neg (by omega)],decide_eq_false h⟩
theorem z1k (p:Int)(m:M)(w:World)(hp:callsV p = .agg #[.nilFunc,.nilFunc,.nilFunc]∧decide (1≤p∧p≤4)=false) :
    Calls Tryz.prog 9 #[.int .i64 p,.agg m.cells] w fun e w'=>e = .returned (.bool false)∧Below w.heap.size w w':=by
 refine' qz9e;have P0:=Lib.hid P0;have HB:=Lib.hid (balloc (Below.refl _ w) (.cells m.cells 29));clear hp;refine' qz2f;refine' qzg;refine' qzah;refine' qz6;clear hb P0;refine' qz8w;refine' qz7g
theorem v1f (p:Int)(s:ByteArray)(w:World)(hp:callsV p = .agg #[.nilFunc,.nilFunc,.nilFunc]∧decide (1≤p∧p≤4)=false) :
    Calls Tryz.prog 11 #[.int .i64 p,.string s] w (AnsS p ([],0,1) w):=by
 refine' qz9e;have P0:=Lib.hid P0;clear hp;refine' qz16;refine' qzah;refine' qz4n;clear hb P0;refine' qz8w;refine' qz5w;exact⟨none,0,[],rfl,Rel.nil p,MRow.nil _ _,HB.out⟩
theorem b1e (p:Int)(x:Option Addr)(n k:Nat)(w:World)(hp:callsV p = .agg #[.nilFunc,.nilFunc,.nilFunc]∧decide (1≤p∧p≤4)=false) :
    Calls Tryz.prog 13 #[.int .i64 p,.slice x n k] w (AnsE (⟨#[]⟩,0,1) w):=by
 refine' qz9e;have P0:=Lib.hid P0;clear hp;refine' qz16;refine' qzah;refine' qz4n;clear hb P0;refine' qz8w;refine' qz5w;exact⟨rfl,HB.out⟩
theorem l0a (p:Int)(m:M)(w:World)(hm:m.In w)(hc:Cond p m)(ht:Tab w):Calls Tryz.prog 9 #[.int .i64 p,.agg m.cells] w fun e w'=>e = .returned (.bool (okS p m))∧Below w.heap.size w w':=by
 by_cases h:1≤p∧p≤4
 · rcases range h.1 h.2 with rfl|rfl|rfl|rfl
   · exact t0m 1 m w _ _ _ _ ⟨rfl,rfl⟩ (fun v V=>by kernel_rfl) fun V hb=>PRt.l0a m V (hm.below hb)
   · exact t0m 2 m w _ _ _ _ ⟨rfl,rfl⟩ (fun v V=>by kernel_rfl) fun V hb=>NRt.l0a m V (hm.below hb)
   · exact t0m 3 m w _ _ _ _ ⟨rfl,rfl⟩ (fun v V=>by kernel_rfl) fun V hb=>A2.l0a m V (hm.below hb) (hc.2.1 rfl).2.2
   · exact t0m 4 m w _ _ _ _ ⟨rfl,rfl⟩ (fun v V=>by kernel_rfl) fun V hb=>L5.l0a m V (hm.below hb) (hc.2.2 rfl).2.2.1 (hc.2.2 rfl).2.2.2 (ht.below hb)
 · rw[q0l h];exact z1k p m w (i1h h)
theorem n0c (p:Int)(s:ByteArray)(w:World)(hs:s.size≤70000)(ht:Tab w):Calls Tryz.prog 11 #[.int .i64 p,.string s] w (AnsS p (outS p s) w):=by
 by_cases h:1≤p∧p≤4
 · rcases range h.1 h.2 with rfl|rfl|rfl|rfl
   · exact g0m 1 s w _ _ _ _ ⟨rfl,rfl⟩ (fun v V=>by kernel_rfl) fun V hb=>(Pa.n0c s V (by omega)).mono fun e w' h=>h1p (by decide) h
   · exact g0m 2 s w _ _ _ _ ⟨rfl,rfl⟩ (fun v V=>by kernel_rfl) fun V hb=>(NPa.n0c s V (by omega)).mono fun e w' h=>h1p (by decide) h
   · exact g0m 3 s w _ _ _ _ ⟨rfl,rfl⟩ (fun v V=>by kernel_rfl) fun V hb=>(A2.n0c s V (by omega)).mono fun e w' h=>a1s h
   · exact g0m 4 s w _ _ _ _ ⟨rfl,rfl⟩ (fun v V=>by kernel_rfl) fun V hb=>(I8.n0c s V hs (ht.below hb)).mono fun e w' h=>a1t h
 · rw[u0e h];exact v1f p s w (i1h h)
theorem p0c (p:Int)(x:Option Addr)(k:Nat)(l:List M)(w:World)(hl:MRow w x l)(hc:∀ m∈l,Cond p m)(hn:l.length≤3000)(hn4:p=4∨l.length≤1000)(ht:Tab w):Calls Tryz.prog 13 #[.int .i64 p,.slice x l.length k] w (AnsE (encS p l) w):=by
 by_cases h:1≤p∧p≤4
 · rcases range h.1 h.2 with rfl|rfl|rfl|rfl
   · exact h0l 1 x l.length k w _ _ _ _ ⟨rfl,rfl⟩ (fun v V=>by kernel_rfl) fun V hb=>Ec.p0c x k l V (hl.below hb) (fun m hm=>(hc m hm).1) (by omega)
   · exact h0l 2 x l.length k w _ _ _ _ ⟨rfl,rfl⟩ (fun v V=>by kernel_rfl) fun V hb=>NEc.p0c x k l V (hl.below hb) (fun m hm=>(hc m hm).1) (by omega)
   · exact h0l 3 x l.length k w _ _ _ _ ⟨rfl,rfl⟩ (fun v V=>by kernel_rfl) fun V hb=>A3.p0c x k l V (hl.below hb) (fun m hm=>(hc m hm).2.1 rfl) (by omega)
   · exact h0l 4 x l.length k w _ _ _ _ ⟨rfl,rfl⟩ (fun v V=>by kernel_rfl) fun V hb=>O5.p0c x k l V (hl.below hb) (fun m hm=>(hc m hm).2.2 rfl) (by omega) (ht.below hb)
 · rw[q1q h];exact b1e p x l.length k w (i1h h)
end U2
namespace A5
open Ms Box Xv All Am A1 A2 A3 Hs
open Go.Proofs.YtllhobicfclheaaGreatDoor.Or (p0a)
def exB:ByteArray:=⟨#[4,0]⟩
end A5
namespace U4
open Ms Box All Tc U1 U2
open Bk (d0a b0a)
def b0:ByteArray:=⟨#[42,2,0,0]⟩
theorem p4:outS 4 b0=([],0,0):=(O1.e0x (a:=[]) (fun x hx=>absurd hx (by simp)) (by decide) (r:=[]) (c:=K1.Kx.zero) rfl).1
theorem p1:(outS 1 b0).2.2=4:=by kernel_rfl
theorem p5 (b:ByteArray):outS 5 b=([],0,1):=u0e (by decide)
theorem m1g:A1.okA Z1.ackM=true∧A1.encA Z1.ackM=A5.exB:=by
 have h4:Xv.bt A5.exB 0=4:=by decide
 have hP:Z1.outP A5.exB=({ Z1.ackM with sl:=[]},0,0):=Z1.u0a (Z1.h0m h4 (by decide) (by decide)) (Xv.u0a (l:=[]) rfl (by decide))
 obtain⟨k1,k2,_⟩:=Z6.i0l (s:=A5.exB) (by rw[hP]) (.inr h4)
 rw[hP]at k1 k2;have k1:Z1.okP Z1.ackM=true:=k1
 exact⟨by unfold A1.okA;rw[k1];simp,by rw[A1.x0z k1];exact k2⟩
theorem k1m:encS 3 [Z1.ackM]=(A5.exB,0,0):=by
 obtain⟨h1,h2⟩:=m1g
 rw[a1p,A1.v0k h1 (by rw[h2];decide),h2]
theorem q0w:∀ m∈[Z1.ackM],Cond 3 m:=fun m hm=>by
  obtain rfl:m=Z1.ackM:=by simpa using hm
  exact⟨⟨Nat.zero_le _,Nat.zero_le _⟩,fun _=>⟨Nat.zero_le _,Nat.zero_le _,fun x hx=>absurd hx (by show ¬x∈([]:List El);simp)⟩,fun k=>absurd k (by decide)⟩
theorem q1l (m:M)(w:World)(h1:m.ll = [])(h2:m.sl = []):MRow (w.alloc (.cells m.cells 29)) (some ⟨w.heap.size,0,none⟩) [m]:=by
 intro i hi
 obtain rfl:i=0:=by simpa using hi
 refine⟨⟨w.heap.size,0,none⟩,rfl,by rw[b0a];exact Nat.lt_succ_self _,fun j v hv=>?_,by show DRow _ m.la m.ll;rw[h1];exact DRow.nil _ _,by show SRow _ m.sa m.sl;rw[h2];exact SRow.nil _ _⟩
 rw[Ap.p0b,Nat.zero_mul];exact Ap.z0a m w j v hv
theorem b0l (w:World)(ht:Tab w):Calls Tryz.prog 8 #[] w fun e w'=>e = .returned (.bool true)∧Below w.heap.size w w':=by
 have P1:=fun V (y:Tab V)=>n0c 4 b0 V (by decide) y
 rw[p4]at P1
 have P2:=fun V (y:Tab V)=>n0c 1 b0 V (by decide) y
 obtain⟨⟨l2,i2,e2⟩,hq⟩:∃ q,outS 1 b0=q:=⟨_,rfl⟩;have h2:=p1;rw[hq]at P2 h2;obtain rfl:e2=4:=h2
 have P3:=fun V (y:Tab V)=>n0c 5 ⟨#[]⟩ V (by decide) y
 rw[p5]at P3
 have P4:=fun(g:Nat) V (h:MRow V (some ⟨g,0,none⟩) [Z1.ackM]) (y:Tab V)=>p0c 3 (some ⟨g,0,none⟩) 1 [Z1.ackM] V h q0w (by decide) (by decide) y
 rw[k1m]at P4
 have P4:=Lib.hid (show ∀ (g:Nat) V,MRow V (some ⟨g,0,none⟩) [Z1.ackM]→Tab V→Calls Tryz.prog 13 #[.int .i64 3,.slice (some ⟨g,0,none⟩) 1 1] V fun e w'=>e = .returned (.tuple #[.string A5.exB,.int .i64 0,.int .i64 0])∧Below V.heap.size V w' from P4)
 have P5:=fun V (y:Tab V)=>l0a 3 Z1.ackM V ⟨DRow.nil _ _,SRow.nil _ _,Nat.zero_le _,Nat.zero_le _⟩ (q0w _ (by simp)) y
 rw[show okS 3 Z1.ackM=true from m1g.1]at P5
 have P1:=Lib.hid P1;have P2:=Lib.hid P2;have P3:=Lib.hid P3;have P5:=Lib.hid P5;have HT:=Lib.hid ht
 have q1:(A5.exB.toList == [4,0])=true:=by rw[ByteArray.toList_eq];rfl
 clear ht hq;generalize A5.exB=x1 at *;unfold b0 at P1 P2;refine' qz16;refine(P1.out _ HT.out).mono ?_;rintro e w1 ⟨a1,n1,l1,rfl,h1,-,hb⟩;obtain rfl:l1 = []:=List.length_eq_zero_iff.1 h1.len;refine' qz4n;clear hb P1 h1;dsimp only[List.length_nil];refine' qzg;refine(P2.out _ (HT.out.below HB.out)).mono ?_;rintro e w2 ⟨a2,n2,l3,rfl,-,-,hb⟩;refine' qz6;clear hb P2;dsimp only;refine' qzg;refine(P3.out _ (HT.out.below HB.out)).mono ?_;rintro e w3 ⟨a3,n3,l4,rfl,-,-,hb⟩;refine' qz6;clear hb P3;dsimp only
 go_wp2_with (first|(refine d0a rfl 29 _ rfl (M.cells Z1.ackM) (by kernel_rfl) ?_)|(refine Ap.j0c rfl _ rfl (m:=Z1.ackM) rfl ?_))
 have bel:=balloc (Below.refl w3.heap.size w3) (.cells Z1.ackM.cells 29);have HR:=Lib.hid (q1l Z1.ackM w3 rfl rfl);refine' qzc;clear bel;generalize w3.alloc (.cells Z1.ackM.cells 29)=V at *;generalize w3.heap.size=g at *;refine(P4.out _ _ HR.out (HT.out.below HB.out)).mono ?_;rintro e w4 ⟨rfl,hb⟩;refine' qz6;clear hb P4 HR
 go_wp2_with (first|(refine Or.p0a (v := .agg (M.cells Z1.ackM)) (by rfl) rfl (Hx.r0c rfl (by kernel_rfl)) ?_))
 refine(P5.out _ (HT.out.below HB.out)).mono ?_;rintro e w5 ⟨rfl,hb⟩;refine' qz6;clear hb P5;refine' qz7g
end U4
namespace Ol
open Go.Deep Ms Box Few All Go.Proofs.YtllhobicfclheaaGreatDoor.Open
open Kb (t0n)
open O3 (Sp)
section
variable {H:Type} {enc:TypeId×Value→H} {W:World}
theorem y1j {base:Nat}{v:Value}{d:DataW H}{p:List MemPlace}(hv:Value.okWide Tryz.prog W .any base 22 v)(h:DataW.Trod enc Tryz.prog W 0 (fun _=>true) true 22 v d p) :
    ∃ (a:Option Addr) (l:List M) (c:Nat),v = .slice a l.length c∧MRow W a l∧l.length≤9223372036854775807∧l.length≤c∧∀ m∈l,m.pfx.size≤maxLen:=by
 obtain⟨fuel,hf⟩:=h;have hvc:=okWide_slice Tryz.underlying22 hv;obtain⟨va,vn,vc,rfl⟩:=hvc
 rcases open_slice Tryz.underlying22 hf with h0|⟨a,len,cap,m,n,D,Pl,hcs,hb,hl,hm,hmm,hx,hi⟩
 · have e:=h0.1;simp[Value.cells]at e;obtain⟨rfl,rfl,rfl⟩:=e
   exact⟨none,[],0,rfl,MRow.nil _ _,by simp,Nat.le_refl _,fun m hm=>absurd hm (by simp)⟩
 · simp[Value.cells]at hcs;obtain⟨rfl,rfl,rfl⟩:=hcs
   obtain⟨l,hll,hr⟩:=els (n:=vn) (R:=fun i (u:M)=>(∀ j v,(u.cells.toList)[j]?=some v→W.cell? ((a.add (i*25)).add j)=some v)∧DRow W u.la u.ll∧SRow W u.sa u.sl∧u.pfx.size≤maxLen) (fun i hin=>by
    obtain⟨cs',hc,ht'⟩:=hi i (by rw[hmm];split<;>omega)
    rw[cellsM]at hc;obtain⟨u,rfl,hd,hs,hp⟩:=t0n ht';obtain⟨_,hcl,hat⟩:=World.cells?_some hc
    refine⟨u,fun j v hv=>?_,hd,hs,hp⟩
    have hj:j<25:=by
     have:=(List.getElem?_eq_some_iff.1 hv).1;simpa[M.cells]using this
    rw[hat j hj];exact hv)
   refine⟨some a,l,vc,by rw[hll],fun i hin=>⟨a,rfl,?_,(hr i hin).1,(hr i hin).2.1,(hr i hin).2.2.1⟩,by unfold maxLen at hm;omega,by omega,fun m hm=>?_⟩
   · have:=block_lt_of_cell ((hr i hin).1 0 _ rfl);rwa [b0b,b0b]at this
   · obtain⟨i,hi,rfl⟩:=List.getElem_of_mem hm;exact(hr i hi).2.2.2
end
theorem g1o {l:List M}{n:Int}(h:fewL l n=true)(hp:∀ m∈l,m.pfx.size≤maxLen):(l.length:Int)≤n∧∀ m∈l,Sp m:=by
 unfold fewL at h;refine' qzcs
 exact⟨h.1,fun m hm=>Sp.few (List.all_eq_true.1 h.2 m hm) (hp m hm)⟩
end Ol
end Go.Proofs.YtllhobicfclheaaGreatDoor
