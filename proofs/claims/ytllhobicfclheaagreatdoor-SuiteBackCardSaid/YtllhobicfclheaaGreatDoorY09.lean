/-
  A part of a proof. No conditions.
-/
import Derived.Test.YtllhobicfclheaaGreatDoorY08
namespace Go.Proofs.YtllhobicfclheaaGreatDoor
open Go.ChangeShapes Go.WideShapes Go.ChangeAt Go.RowKit
set_option linter.unusedVariables false
set_option maxRecDepth 100000
set_option maxHeartbeats 51200000
namespace Wr
open Ms Box Rp Ps Es Hs Hx All PRt Tg
open Oct (cellsL l0w)
open Bk (E Bk shE q0a f0a)
open Go.Proofs.YtllhobicfclheaaGreatDoor.Or (p0a)
theorem n0d {a b:ByteArray}(h:a=b):Ending.returned (.string a) = .returned (.string b):=by rw[h]
theorem z1j (m:M)(w:World):Calls Tryz.prog 223 #[.agg m.cells] w fun e w'=>e = .returned (.string (maskM m))∧Below w.heap.size w w':=by
 obtain⟨b0,bel⟩:=boxed w m
 have P1:=Lib.hid (fun W=>Mask.j1h m.plen W)
 have HA:=Lib.hid (show maskM m=if m.family=2∧m.ver=2 then Mask.ofB m.plen else⟨#[0,0,0,0]⟩from rfl)
 refine' qz2f;have c2:=b0.cs.c2;have c4:=b0.cs.c4;have c7:=b0.cs.c7;clear b0
 rcases(show m.family≠2∨m.family=2 by omega)with h1|h1
 · have HZ:=Lib.hid (show maskM m=⟨#[0,0,0,0]⟩ by rw[HA.out,if_neg (fun h=>h1 h.1)])
   have e1:(m.family==2)=false:=by simpa using h1
   have e2:(m.family != 2)=true:=by rw[bne,e1];rfl
   clear HA h1;refine' qzj;exact⟨n0d HZ.out.symm,bel⟩
 have e1:(m.family==2)=true:=by simpa using h1
 have e2:(m.family != 2)=false:=by rw[bne,e1];rfl
 rcases(show m.ver≠2∨m.ver=2 by omega)with h2|h2
 · have HZ:=Lib.hid (show maskM m=⟨#[0,0,0,0]⟩ by rw[HA.out,if_neg (fun h=>h2 h.2)])
   have e3:(m.ver==2)=false:=by simpa using h2
   have e4:(m.ver != 2)=true:=by rw[bne,e3];rfl
   clear HA h1 h2;refine' qzj;exact⟨n0d HZ.out.symm,bel⟩
 have e3:(m.ver==2)=true:=by simpa using h2
 have e4:(m.ver != 2)=false:=by rw[bne,e3];rfl
 have HZ:=Lib.hid (show maskM m=Mask.ofB m.plen by rw[HA.out,if_pos ⟨h1,h2⟩])
 clear HA h1 h2;generalize Mask.ofB m.plen=t at *;generalize Mask.isLen m.plen=tb at *;refine' qzh;refine' qz8l;clear hb c2 c4 c7;refine' qzj;exact⟨n0d HZ.out.symm,bel⟩
structure Ev (w W:World)(m:M):Prop where
  m:Bx W w.heap.size m
  res:∃ cs:Array Value,cs.size=6∧Bk 59 W (w.heap.size+1) cs
  bel:Below w.heap.size w W
theorem Ev.call {w W w':World}{m:M}(h:Ev w W m)(hb:Below W.heap.size W w'):Ev w w' m:=⟨h.m.below hb,by obtain⟨cs,h1,h2⟩:=h.res;exact⟨cs,h1,h2.below hb⟩,h.bel.trans (hb.mono h.bel.size)⟩
theorem Ev.put {w W:World}{m:M}(h:Ev w W m)(cs:Array Value)(hc:cs.size=6):Ev w (W.setRow (w.heap.size+1) cs) m:=⟨h.m.row (by omega) _,by obtain⟨c0,h1,h2⟩:=h.res;exact⟨cs,hc,h2.put _⟩,below_setRow h.bel (by omega) _⟩
theorem heldE {P:Program}{f:Nat}{args:Array Value}{v:Ending}{w W:World}{m:M}(h:Calls P f args W fun e w'=>e=v∧Below W.heap.size W w')(hS:Ev w W m):Calls P f args W fun e w'=>e=v∧Ev w w' m:=
  h.mono fun _ _ ⟨he,hb⟩=>⟨he,hS.call hb⟩
theorem c1e (m:M)(w:World):Calls Tryz.prog 162 #[.agg m.cells] w fun e w'=>e = .returned (.agg (entryM m).cells)∧Below w.heap.size w w':=by
 have P1:=Lib.hid (fun W=>z1j m W)
 have HE:=Lib.hid (show entryM m=⟨m.family,m.tag,m.pfx,maskM m,m.next,m.metric⟩from rfl)
 have st:Ev w ((w.alloc (.cells m.cells 29)).alloc (.cells E.zero.cells 59)) m:=by
  obtain⟨b0,bel⟩:=boxed w m;refine⟨b0.old _,⟨E.zero.cells,rfl,?_⟩,balloc bel _⟩;have:=Bk.Bk.new 59 (w.alloc (.cells m.cells 29)) E.zero.cells;rwa [Bk.b0a]at this
 generalize maskM m=mk at *;refine' qzi;change Code.wp _ _ _ _ ((w.alloc (.cells m.cells 29)).alloc (.cells E.zero.cells 59));generalize (w.alloc (.cells m.cells 29)).alloc _=V at *
 refine wp_region_held_drew (S:=fun W=>Ev w W m) (by kernel_rfl) (st.call (Below.refl _ _).drew) (fun hS=>?_)
 clear st;generalize V.drew=w0 at *;refine' qz1g;refine H.tk (i:=1) (v:=?v1) ?h1 hS ?_
 case h1=>(intro w hw;have c:=hw.m.cs.c4;go_simp;first|done|(with_reducible rfl))
 refine' qz0;refine' qz2n;refine H.tk (i:=3) (v:=?v3) ?h3 hS ?_
 case h3=>(intro w hw;have c:=hw.m.cs.c8;go_simp;first|done|(with_reducible rfl))
 refine' qz20;refine' qz0;refine H.tk (i:=5) (v:=?v5) ?h5 hS ?_
 case h5=>(intro w hw;have c:=hw.m.cs.c6;go_simp;first|done|(with_reducible rfl))
 refine' qz0;refine H.tk (i:=6) (v := .agg (M.cells m)) ?h6 hS ?_
 case h6=>exact fun w hw=>a0b (x := .tmp 1) rfl rfl (hw.m)
 refine' qz84;refine H.tk (i:=9) (v:=?v9) ?h9 hS ?_
 case h9=>(intro w hw;have c:=hw.m.cs.c9;go_simp;first|done|(with_reducible rfl))
 refine' qz0;refine H.tk (i:=10) (v:=?v10) ?h10 hS ?_
 case h10=>(intro w hw;go_simp;first|done|(with_reducible rfl))
 refine' qz0;refine H.tk (i:=11) (v:=?v11) ?h11 hS ?_
 case h11=>(intro w hw;have c:=hw.m.cs.c10;go_simp;first|done|(with_reducible rfl))
 refine' qz1s;refine' qzk;refine(heldE (P1.out _) hS).mono ?_;rintro e w7 ⟨rfl,hS7⟩
 refine hK.out _ _ hS7 (fun _=>?_)
 clear hK K hS;have hS:=hS7;clear hS7;refine' qz0
 refine H.tk (i:=12) (v := .agg (E.cells ⟨m.family,m.tag,m.pfx,mk,m.next,m.metric⟩)) ?h12 hS ?_
 case h12=>(intro w hw;exact r0c rfl (by kernel_rfl))
 refine' qz0;obtain⟨cs,hcs,hres⟩:=hS.res
 refine Hx.H.storeRow (i:=13) (by simp only[List.getElem?_toArray,List.getElem?_cons_succ,List.getElem?_cons_zero];rfl) (by kernel_rfl) rfl rfl (by kernel_rfl) (w.heap.size+1) (E.cells ⟨m.family,m.tag,m.pfx,mk,m.next,m.metric⟩) rfl rfl 59 cs hres (by kernel_rfl) hcs (Bk.E.one _) (hS.put _ rfl) ?_
 refine wpAnyH_done (by kernel_rfl) ?_ _
 refine' qzg;rw[HE.out]
 exact bodyPost_ret (v := .agg (E.cells ⟨m.family,m.tag,m.pfx,mk,m.next,m.metric⟩)) (q0a (n:=6) (ty:=59) rfl _ _ (w.heap.size+1) _ rfl shE (hres.put _) rfl) rfl ⟨rfl,below_setRow hS.bel (by omega) _⟩
def Own (B:Nat)(w:World)(v:Value)(bs:List UInt8):Prop:=w.ownsRow B 5 1 v bs.length (cellsL bs)
theorem Own.below {B:Nat}{w w':World}{v:Value}{bs:List UInt8}(h:Own B w v bs)(hb:Below w.heap.size w w'):Own B w' v bs:=by
 refine' qz1h
theorem Own.conv {B:Nat}{w:World}{v:Value}{bs:List UInt8}(h:Own B w v bs):(convert 96 9 v).run Tryz.prog w = .ok (.string ⟨bs.toArray⟩) w:=by
 obtain⟨ao,cap,rfl⟩:∃ ao cap,v = .slice ao bs.length cap:=by
  rcases h.2 with⟨hv,h0⟩|⟨g,cap,cur,hv,_⟩
  · exact⟨_,_,by rw[hv,h0]⟩
  · exact⟨_,_,hv⟩
 exact Ent.n0i w bs h
theorem n0h {ops:Array Oper}{rest:List Oper}{o:Oper}{a:Act}{w:World}{Q:Exit→Act→World→Prop}(hgd:o.guard=none)(s x:Operand)
    (ho:o.op = .call { callee := .builtin .append,args:=#[s,x],argTypes:=#[96,9]}) (B:Nat) (v:Value) (bs:List UInt8) (t:ByteArray)
    (hs:a.eval s=v) (hown:Own B w v bs) (hx:a.eval x = .string t) (hl:bs.length+t.size≤1000000) (hB:B≤w.heap.size)
    (h:∀ v' w',Own B w' v' (bs++t.data.toList)→Below B w w'→w.heap.size≤w'.heap.size→wpList Tryz.prog ops Q rest (a.put o.dst v') w'):wpList Tryz.prog ops Q (o::rest) a w:=by
 refine' qz4m;refine' qza7;unfold Own;rw[Ent.x0c,List.length_append];exact h2
structure Wb (w W:World)(f:M)(v:Value)(bs:List UInt8):Prop where
  fst:Bx W w.heap.size f
  own:Own (w.heap.size+1) W v bs
  bel:Below w.heap.size w W
theorem Wb.call {w W w':World}{f:M}{v:Value}{bs:List UInt8}(h:Wb w W f v bs)(hb:Below W.heap.size W w'):Wb w w' f v bs:=⟨h.fst.below hb,h.own.below hb,h.bel.trans (hb.mono h.bel.size)⟩
theorem Wb.app {w W w':World}{f:M}{v v':Value}{bs bs':List UInt8}(h:Wb w W f v bs)(ho:Own (w.heap.size+1) w' v' bs')(hb:Below (w.heap.size+1) W w'):Wb w w' f v' bs':=⟨(hb.block _ (Nat.lt_succ_self _)).trans h.fst,ho,h.bel.trans (hb.mono (by omega))⟩
theorem cmd_or {n:Int}(h:isCmd n=true):n=1∨n=2:=by
 unfold isCmd at h;simpa[beq_iff_eq]using h
theorem c0z {c v:Int}(hc:isCmd c=true)(hv:isCmd v=true):#[Value.int .u8 (c%256),Value.int .u8 (v%256)].toList=cellsL (Ent.layN c 1++Ent.layN v 1)∧(Ent.layN c 1++Ent.layN v 1).length=2:=by
 rcases cmd_or hc with rfl|rfl<;>rcases cmd_or hv with rfl|rfl<;>exact⟨rfl,rfl⟩
theorem t0k {m:M}(h:rightB m=true):isCmd m.cmd=true∧isCmd m.ver=true:=by
 unfold rightB headB at h;simp only[Bool.and_eq_true]at h;exact⟨h.2.2.1.1,h.2.2.1.2.1⟩
theorem e0g {m:M}(h:rightB m=true):routeB m=true:=by
 unfold rightB at h;simp only[Bool.and_eq_true]at h;exact h.2.2.2
theorem h0s:∀ n,n≤32→(Mask.maskB n).size=4:=by decide +kernel
theorem p1i (n:Int):(Mask.ofB n).size≤4:=by
 unfold Mask.ofB;split
 · rename_i h;unfold Mask.isLen at h;refine' qzcs
   rw[h0s n.toNat (by omega)]
   decide
 · decide
theorem q0y (m:M):(maskM m).size≤4:=by
 unfold maskM;split
 · exact p1i _
 · decide
theorem b1i {m:M}(h:rightB m=true):Ent.OkE (entryM m):=by
 obtain⟨h1,h2⟩:=Rn.l0o (e0g h);have:=q0y m;constructor
 · show m.pfx.size≤maxLen
   unfold maxLen;omega
 · show(maskM m).size≤maxLen
   unfold maxLen;omega
 · show m.next.size≤maxLen
   unfold maxLen;omega
theorem f0y (m:M):(lineL m).length≤20:=by
 unfold lineL Ent.putE;split
 · unfold Ent.laidE;simp only[List.length_append];have h1:=Ent.i0a (entryM m).fam 2;have h2:=Ent.i0a (entryM m).tag 2;have h3:=Ent.e0c (entryM m).addr;have h4:=Ent.e0c (entryM m).mask
   have h5:=Ent.e0c (entryM m).next
   have h6:=Ent.i0a (entryM m).met 4;omega
 · simp
theorem k0s (s:ByteArray):(AuR.putA s).size≤20:=by
 unfold AuR.putA;split
 · rename_i h;simp only[ByteArray.size_append,AuR.mk2];rw[h];decide
 · simp
theorem o0k (f:M):(hdL f).length≤24:=by
 unfold hdL;simp only[List.length_append];have h1:=Ent.i0a f.cmd 1;have h2:=Ent.i0a f.ver 1;have h3:=k0s f.auth
 have h4:(AuR.putA f.auth).data.toList.length=(AuR.putA f.auth).size:=by simp
 simp only[List.length_cons,List.length_nil];omega
def bsK (f:M)(l:List M)(k:Nat):List UInt8:=hdL f++(l.take k).flatMap lineL
theorem c0n (f:M)(l:List M):bsK f l 0=hdL f:=by simp[bsK]
theorem j0n (f:M)(l:List M)(k:Nat)(h:k<l.length):bsK f l (k+1)=bsK f l k++lineL l[k]:=by
 unfold bsK;rw[List.take_succ_eq_append_getElem h,List.flatMap_append,List.append_assoc];simp
theorem q0q (f:M)(l:List M):∀ k,k≤l.length→(bsK f l k).length≤24+20*k
  | 0,_=>by rw[c0n];exact o0k f
  | k+1,h=>by
    rw[j0n f l k h,List.length_append]
    have:=q0q f l k (by omega)
    have:=f0y l[k]
    omega
theorem y0z (l:List M):bsK (at0 l 0) l l.length=wrtL l:=by unfold bsK wrtL;rw[List.take_length]
theorem v1e (a:Option Addr)(c:Nat)(l:List M)(w:World)(hl:MRow w a l)(hn:l.length≤1000)(h0:0<l.length)(hr:∀ m∈l,rightB m=true) :
    Calls Tryz.prog 87 #[.slice a l.length c] w fun e w'=>e = .returned (.string ⟨(wrtL l).toArray⟩)∧Below w.heap.size w w':=by
 obtain⟨p,rfl,hp,hc0,_,_⟩:=hl 0 h0;have HA0:=Lib.hid (m0d l 0 h0)
 have HC0:=Lib.hid (show ∀ j v,((at0 l 0).cells.toList)[j]?=some v→w.cell? ((p.add (0*25)).add j)=some v from j0s hl h0)
 have ix0:=indexM p l.length c 0 h0;have HMr:=Lib.hid hl
 have hr0:rightB (at0 l 0)=true:=by rw[HA0.out];exact hr _ (List.getElem_mem h0)
 clear hc0 hl;generalize hf:at0 l 0=f at *;have HF:=Lib.hid hf;clear hf;go_in
 go_upto_region 2 with(first|(refine k0d (m:=f) rfl _ rfl rfl HC0.out ?_)|(refine e0a (b:=w.heap.size) (m:=M.zero) (m':=f) rfl _ _ rfl rfl rfl (heap_alloc_new w _) ?_))
 change Code.wp _ _ _ _ ((w.alloc (.cells M.zero.cells 29)).setRow w.heap.size f.cells);refine' qz33;obtain⟨b0,bel⟩:=boxed w f;generalize w.alloc (.cells f.cells 29)=V at *;have c1:=b0.cs.c1;have c2:=b0.cs.c2;refine' qzcn;have HH:=Lib.hid (c0z (t0k hr0).1 (t0k hr0).2)
 have W0:Hid (Wb w (V.alloc (.cells #[.int .u8 (f.cmd%256),.int .u8 (f.ver%256)] 5)) f (.slice (some ⟨V.heap.size,0,none⟩) 2 2) (Ent.layN f.cmd 1++Ent.layN f.ver 1)):=Lib.hid ⟨b0.old _,by
  unfold Own;rw[HH.out.2,←HH.out.1]
  exact World.ownsRow_lit V _ 2 b0.lt (by unfold maxLen;omega) rfl,balloc bel _⟩
 have HL2:Hid ((Ent.layN f.cmd 1++Ent.layN f.ver 1).length=2):=Lib.hid HH.out.2
 have HHd:Hid (hdL f=((Ent.layN f.cmd 1++Ent.layN f.ver 1) ++ [0,0])++(AuR.putA f.auth).data.toList):=Lib.hid (by unfold hdL;simp)
 clear b0 bel c1 c2 HH;generalize V.alloc _=W2 at *;generalize V.heap.size=g at *;generalize Ent.layN f.cmd 1++Ent.layN f.ver 1=b1 at *;refine' qzg
 refine(Oct.y0e 2 _ (by omega)).mono ?_
 refine' qzct;have W1:=Lib.hid (W0.out.call hb);clear W0 hb;have hz2:(ByteArray.mk (List.replicate 2 (0:UInt8)).toArray).data.toList = [0,0]:=rfl
 have HSz:Hid (b1.length+(ByteArray.mk (List.replicate 2 (0:UInt8)).toArray).size≤1000000):=Lib.hid (by rw[HL2.out];decide)
 have HT2:=Lib.hid hz2;clear hz2;generalize ByteArray.mk (List.replicate 2 (0:UInt8)).toArray=t2 at *
 go_upto_region 4 with(at_builtin;refine n0h rfl _ _ rfl (w.heap.size+1) _ b1 t2 rfl W1.out.own rfl HSz.out ?c1 ?_)
 case c1=>exact W1.out.fst.lt
 intro v3 w4 hown hb hsz;rw[HT2.out]at hown;have W3:=Lib.hid (W1.out.app hown hb);clear hown hb hsz W1 HSz HT2
 have HL4:Hid ((b1 ++ [0,0]).length=4):=Lib.hid (by rw[List.length_append,HL2.out];rfl)
 generalize b1 ++ [0,0]=b2 at *;refine' qzco;have c3:=W3.out.fst.cs.c3;refine' qzg;refine(AuR.c0b f.auth _).mono ?_;rintro e w5 ⟨rfl,rfl⟩;clear c3
 have HSz:Hid (b2.length+(AuR.putA f.auth).size≤1000000):=Lib.hid (by have:=HL4.out;have:=k0s f.auth;omega)
 generalize AuR.putO f.auth=po at *;generalize AuR.putA f.auth=pa at *;refine' qzcv
 go_upto_region 6 with(at_builtin;refine n0h rfl _ _ rfl (w.heap.size+1) _ b2 pa rfl W3.out.own rfl HSz.out ?c2 ?_)
 case c2=>exact W3.out.fst.lt
 intro v5 w6 hown hb hsz;rw[←HHd.out]at hown
 have W5:=Lib.hid (show Wb w w6 f v5 (bsK f l 0)from c0n f l▸W3.out.app hown hb)
 clear hown hb hsz W3 HSz HHd HL2 HL4 HC0 ix0
 have hrow:=Lib.hid (fun(W:World) (h:Below w.heap.size w W)=>HMr.out.below h)
 have PE:=Lib.hid (fun(u:M) W=>c1e u W)
 have PP:=Lib.hid (fun(u:M) (h:rightB u=true) W=>Ent.c0b (entryM u) W (b1i h))
 have HRr:=Lib.hid hr;clear hr HMr hr0 hp;go_wp2
 go_loopw [4,35] (fun v i wr=>∃ k:Nat,k≤l.length∧i = .int .i64 k∧Hid (Wb w wr f v (bsK f l k))) (fun _ i _=>l.length - (intOf i).toNat)
 case atStart=>exact⟨0,Nat.zero_le _,rfl,W5⟩
 case round=>
  obtain⟨k,hk,rfl,HW⟩:=hrel;by_cases hlt:k<l.length
  · obtain⟨p2,hp2,_,hc,_,_⟩:=hrow.out _ HW.out.bel k hlt
    obtain rfl:p=p2:=by simpa using hp2
    clear hp2;have HCk:=Lib.hid hc;have ixk:=indexM p l.length c k hlt;have HBs:=Lib.hid (j0n f l k hlt)
    have HLn:=Lib.hid (q0q f l k (by omega))
    have PE1:=Lib.hid (PE.out l[k]);have PP1:=Lib.hid (PP.out l[k] (HRr.out _ (List.getElem_mem hlt)));have HLi:Hid (lineL l[k]=(Ent.putE (entryM l[k])).data.toList∧(lineL l[k]).length≤20):=Lib.hid ⟨rfl,f0y _⟩;clear hc;refine' qz11;refine' qzbz;have HW:=Lib.hid (HW.out.call (balloc (Below.refl _ wr) (.cells u.cells 29)));have BU:=Lib.hid (Bx.new wr u);clear HCk ixk;generalize wr.alloc (.cells u.cells 29)=W7 at *;refine' qzad;refine(PE1.out _).mono ?_;rintro e w8 ⟨rfl,hb⟩;have HW:=Lib.hid (HW.out.call hb);clear hb BU PE1;refine' qzg;refine(PP1.out _).mono ?_;rintro e w9 ⟨rfl,hb⟩;have HW:=Lib.hid (HW.out.call hb);clear hb PP1
    have HSz:Hid ((bsK f l k).length+(Ent.putE (entryM u)).size≤1000000):=Lib.hid (by
     have h1:=HLn.out;have h2:=HLi.out.2;rw[HLi.out.1]at h2
     have h3:(Ent.putE (entryM u)).data.toList.length=(Ent.putE (entryM u)).size:=by simp
     omega)
    have HBs:=Lib.hid (show bsK f l (k+1)=bsK f l k++(Ent.putE (entryM u)).data.toList by rw[HBs.out,HLi.out.1])
    clear HLi HLn;generalize Ent.putE (entryM u)=s at *;generalize Ent.okE (entryM u)=so at *
    go_upto_region 10 with fail
    go_wp2_with (at_builtin;refine n0h rfl _ _ rfl (w.heap.size+1) _ (bsK f l k) s rfl HW.out.own rfl HSz.out ?c3 ?_)
    case c3=>exact HW.out.fst.lt
    intro v9 w10 hown hb hsz;rw[←HBs.out]at hown;have HW2:=Lib.hid (HW.out.app hown hb);clear hown hb hsz HBs HSz HW;go_wp2;go_roundw
    case rel=>exact⟨k+1,hlt,by go_num,HW2⟩
    case measure=>simp[intOf];omega
  · refine' qz12
    have hcv:=HW.out.own.conv
    have HZ:=Lib.hid (show bsK f l l.length=wrtL l by rw[←HF.out];exact y0z l)
    rw[HZ.out]at hcv;clear HZ;refine' qzj;exact⟨rfl,HW.out.bel⟩
end Wr
end Go.Proofs.YtllhobicfclheaaGreatDoor
