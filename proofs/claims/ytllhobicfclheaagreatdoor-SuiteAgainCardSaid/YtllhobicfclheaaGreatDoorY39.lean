/-
  A part of a proof. No conditions.
-/
import Derived.Test.YtllhobicfclheaaGreatDoorY28
import Derived.Test.YtllhobicfclheaaGreatDoorY38
namespace Go.Proofs.YtllhobicfclheaaGreatDoor
open Go.ChangeShapes Go.WideShapes Go.ChangeAt Go.RowKit
set_option linter.unusedVariables false
set_option maxRecDepth 100000
set_option maxHeartbeats 51200000
namespace NEc
open Ms Box NRp NRt Hs All Ap NSt NWr
open Bk (E Bk Sh d0a f0a a0a)
def idxW (l:List M):Int:=match bad (ckW l) l.length with|some i=>((i:Nat):Int)|none=>-1
theorem h0h {l:List M}{k:Nat}(hk:k<l.length)(h:∀ i,i<k→ckW l i=0)(hn:ckW l k≠0):idxW l=((k:Nat):Int):=by
 unfold idxW;rw[j0e hk h hn]
theorem v0j {l:List M}(h:∀ i,i<l.length→ckW l i=0):idxW l = -1:=by
 unfold idxW;rw[d0d h]
theorem x0j {w:World}{a:Option Addr}{l:List M}(h:MRow w a l)(hs:∀ m∈l,Short m){k:Nat}(hk:k<l.length):l[k].In w:=by
 obtain⟨p,_,_,_,hd,hss⟩:=h k hk;have:=hs _ (List.getElem_mem hk);exact⟨hd,hss,this.1,this.2⟩
theorem e0i (a:Option Addr)(c:Nat)(l:List M)(w:World)(hl:MRow w a l)(hs:∀ m∈l,Short m)(hn:l.length≤1048576) :
    Calls Tryz.prog 84 #[.slice a l.length c,.func (.func 96) #[] #[]] w fun e w'=>e = .returned (.int .i64 (idxW l))∧Below w.heap.size w w':=by
 go_in;refine' qz13
def AnsE (p:ByteArray×Int×Int)(w:World)(e:Ending)(w':World):Prop:=e = .returned (.tuple #[.string p.1,.int .i64 p.2.1,.int .i64 p.2.2])∧Below w.heap.size w w'
theorem AnsE.of {p:ByteArray×Int×Int}{w w':World}{b:ByteArray}{x y:Int}(h:p=(b,x,y))(hb:Below w.heap.size w w'):AnsE p w (.returned (.tuple #[.string b,.int .i64 x,.int .i64 y])) w':=by
 subst h;exact⟨rfl,hb⟩
theorem enc_cases (l:List M) :
    (∃ k,k<l.length∧(∀ i,i<k→ckW l i=0)∧ckW l k≠0)∨((∀ i,i<l.length→ckW l i=0)∧(l.length=0∨0<l.length)):=by
 rcases first_of (ckW l) l.length with h|h
 · exact .inl h
 · exact .inr ⟨h,by omega⟩
theorem w0j {m:M}(h:rightB m=true):(m.cmd=1∨m.cmd=2)∧m.pfx.size=16∧m.next.size=16:=by
 unfold rightB pfxB at h;refine' qzcs;exact⟨cmd_or h.2.2.1,h.2.2.2.2.2.1.1,o0s h.2.2.2.2.2.2⟩
theorem x1p {m:M}(h:rightB m=true):Rte.OkE (hopE m.next):=by
 have:=(w0j h).2.2
 exact⟨by show m.next.size≤maxLen;unfold maxLen;omega,by show(0:Nat)≤maxLen;omega,by show(0:Nat)≤maxLen;omega⟩
theorem s1q {m:M}(h:rightB m=true):Rte.OkE (entM m):=by
 have:=(w0j h).2.1
 exact⟨by show m.pfx.size≤maxLen;unfold maxLen;omega,by show(0:Nat)≤maxLen;omega,by show(0:Nat)≤maxLen;omega⟩
theorem p0c (a:Option Addr)(c:Nat)(l:List M)(w:World)(hl:MRow w a l)(hs:∀ m∈l,Short m)(hn:l.length≤1000) :
    Calls Tryz.prog 36 #[.slice a l.length c] w (AnsE (enc l) w):=by
 have P1:=Lib.hid (e0i a c l w hl hs (by omega))
 refine' qzd6
 rcases enc_cases l with⟨k,h1,h2,h3⟩|⟨hw,h0|h0⟩
 · have HZ:=Lib.hid (g0d h1 h2 h3);have hx:=h0h h1 h2 h3;rw[hx]at P1;clear hx h1 h2 h3;refine' qz16;refine' qz78;refine' qzbc
 · have HZ:=Lib.hid (q0e h0);refine' qzb4;have HL:=Lib.hid h0
   have e1:((l.length:Int)==0)=true:=by rw[beq_iff_eq];omega
   clear hx h0 hw;refine' qz16;refine' qz78;refine' qzbc
 · refine' qzb4;have HR:=Lib.hid (c0i hw)
   have HC1:Hid ((at0 l 0).cmd=1∨(at0 l 0).cmd=2):=Lib.hid (by rw[m0d l 0 h0];exact(w0j (HR.out _ (List.getElem_mem h0))).1)
   have HAp:=Lib.hid (fun k (h1:k<l.length) h2 h3=>z0h (l:=l) (k:=k) hw h1 h2 h3)
   have HOk:=Lib.hid (fun h=>u0l (l:=l) hw (by omega) h)
   have e1:((l.length:Int)==0)=false:=by rw[beq_eq_false_iff_ne];omega
   clear hx hw hl hs;refine' qz16;refine' qz78;obtain⟨p,rfl,_,hc,_,_⟩:=(HMr.out _ hb) 0 h0;have ix0:=indexM p l.length c 0 h0
   have cm:w1.cell? ⟨p.block,p.off+1,none⟩=some (.int .i64 (at0 l 0).cmd):=hc 1 (.int .i64 (at0 l 0).cmd) (by rw[←m0d l 0 h0];rfl)
   have HBe:=Lib.hid hb;clear hc hb P1;generalize hcm:(at0 l 0).cmd=cc at *;have HCm:=Lib.hid hcm;clear hcm
   go_upto_region 7 with(first|(refine d0a rfl 98 _ rfl #[.int .i64 cc,.string ⟨#[0,0,0,0,0,0,0,0,0,0,0,0,0,0,0,0]⟩,.slice none 0 0] (by kernel_rfl) ?_)|(refine a0a (b:=w1.heap.size) shW rfl _ _ rfl rfl rfl (Bk.Bk.new 98 w1 #[.int .i64 0,.string ⟨#[]⟩,.slice none 0 0]) rfl rfl rfl ?_))
   have HW0:Hid (Wri w.heap.size w1.heap.size cc a0c [] (w1.alloc (.cells #[.int .i64 cc,.string ⟨#[0,0,0,0,0,0,0,0,0,0,0,0,0,0,0,0]⟩,.slice none 0 0] 98))):=Lib.hid ⟨HBe.out.size,.slice none 0 0,Bk.Bk.new _ w1 _,Own.nil _ _⟩;have HB0:=Lib.hid (balloc HBe.out (.cells #[.int .i64 cc,.string ⟨#[0,0,0,0,0,0,0,0,0,0,0,0,0,0,0,0]⟩,.slice none 0 0] 98));have hsz:w.heap.size≤(w1.alloc (.cells #[.int .i64 cc,.string ⟨#[0,0,0,0,0,0,0,0,0,0,0,0,0,0,0,0]⟩,.slice none 0 0] 98)).heap.size:=HB0.out.size;clear ix0 cm HBe;generalize w1.alloc _=V at *;generalize w1.heap.size=b at *;refine' qzg
   refine(NWr.q0c w.heap.size b cc a0c [] V HW0.out hsz (by decide) HC1.out).mono ?_
   rintro e w2 ⟨rfl,hw2,hb2⟩
   have HW:Hid (Wri w.heap.size b cc (laK l 0) (bsK l 0) w2):=Lib.hid (by rw[c0n,HCm.out];exact hw2)
   have HB:=Lib.hid (HB0.out.trans hb2);clear hw2 hb2 HW0 HB0 hsz;go_wp2
   go_loopw [26] (fun i wr=>∃ k:Nat,k≤l.length∧i = .int .i64 k∧Hid (Wri w.heap.size b cc (laK l k) (bsK l k) wr)∧Hid (∀ i,i<k→ckC l i=0)∧Hid (Below w.heap.size w wr)) (fun i _=>l.length - (intOf i).toNat)
   case atStart=>exact⟨0,Nat.zero_le _,rfl,HW,Lib.hid (fun i hi=>absurd hi (by omega)),HB⟩
   case round=>
    obtain⟨k,hk,rfl,HL,HK,HB⟩:=hrel;clear HW;by_cases hlt:k<l.length
    · obtain⟨p2,hp2,_,hc,_,_⟩:=HMr.out _ HB.out k hlt
      obtain rfl:p=p2:=by simpa using hp2
      clear hp2;have ixk:=indexM p l.length c k hlt;have HCk:=Lib.hid hc;have HBs:=Lib.hid (j0n l k hlt);have HLa:=Lib.hid (r1l l k hlt)
      have HLn:=Lib.hid (q0q l k (by omega))
      have HRk:=Lib.hid (HR.out _ (List.getElem_mem hlt))
      have HCe:Hid (ckC l k=ckA cc l[k]):=Lib.hid (by unfold ckC ckA;rw[m0d l k hlt,HCm.out])
      have HAk:=Lib.hid (fun h=>HAp.out k hlt HK.out h)
      have HJ:=Lib.hid (fun(h:ckC l k=0)=>show ∀ i,i<k+1→ckC l i=0 from fun i hi=>by
       by_cases hik:i<k
       ·
        exact HK.out i hik
       ·
        obtain rfl:i=k:=by omega
        exact h)
      clear hc HK;refine' qz11
      go_upto_region 11 with(first|(refine k0d (m:=u) rfl _ rfl rfl HCk.out ?_)|(refine e0a (b:=wr.heap.size) (m:=M.zero) (m':=u) rfl _ _ rfl rfl rfl (heap_alloc_new wr _) ?_))
      refine' qz5b;have HL:=Lib.hid (HL.out.below (balloc (Below.refl _ wr) (.cells u.cells 29)));have HB:=Lib.hid (balloc HB.out (.cells u.cells 29));have BU:=Lib.hid (Bx.new wr u);clear HCk ixk;generalize wr.alloc (.cells u.cells 29)=W7 at *;refine' qzad
      refine(m1o w.heap.size b cc (laK l k) (bsK l k) u _ HL.out HB.out.size (by have:=HLn.out;omega) (x1p HRk.out) (s1q HRk.out)).mono ?_
      rintro e w8 ⟨rfl,hw8,hb8⟩;have HW8:=Lib.hid hw8;have HB:=Lib.hid (HB.out.trans hb8);clear hw8 hb8 HL BU HLn HRk;by_cases hc:ckA cc u=0;rotate_left
      · have HZ:=Lib.hid (HAk.out (by rw[HCe.out];exact hc))
        have h7:ckA cc u=7:=by
         unfold ckA at hc⊢;split at hc
         · exact absurd rfl hc
         · rw[if_neg (by assumption)]
        rw[h7];clear hc h7 HAk HJ HW8 HBs HLa HCe;refine' qz5w;exact AnsE.of HZ.out HB.out
      · have HK1:=Lib.hid (HJ.out (by rw[HCe.out];exact hc))
        have HL:=Lib.hid (show Wri w.heap.size b cc (laK l (k+1)) (bsK l (k+1)) w8 by rw[HLa.out,HBs.out];exact HW8.out hc)
        rw[hc];clear hc HAk HJ HW8 HBs HLa HCe;go_wp2;go_roundw
        case rel=>exact⟨k+1,hlt,by go_num,HL,HK1,HB⟩
        case measure=>simp[intOf];omega
    · refine' qz12;have HZ:=Lib.hid (HOk.out HK.out);obtain⟨_,v,hbk,hown⟩:=HL.out;rw[y0z]at hown
      have hcv:=hown.conv
      have d2:=hbk.cell 2 _ rfl;clear hbk hown HL HK hlt;generalize wrtL l=ws at *;refine' qz5w;exact AnsE.of HZ.out HB.out
end NEc
namespace Rg
open Ms Box
open Cur (numL p0d u0n e0d r0g hasB)
open Bk (Bk cur w0a)
def okR (s:ByteArray)(p:Nat×Bool)(k:Nat):Bool:=!p.2&&decide (p.1+k≤s.size)
def nx (s:ByteArray)(k:Nat)(p:Nat×Bool):Nat×Bool:=if okR s p k then(p.1+k,false)else(p.1,true)
def rdV (s:ByteArray)(p:Nat×Bool)(k:Nat):Int:=if okR s p k then((numL ((s.data.toList.drop p.1).take k):Nat):Int)else 0
def rdT (s:ByteArray)(p:Nat×Bool)(k:Nat):ByteArray:=if okR s p k then s.extract p.1 (p.1+k)else⟨#[]⟩
theorem d0u {s:ByteArray}{a k:Nat}(h:a+k≤s.size):okR s (a,false) k=true:=by unfold okR;simp[h]
theorem q0l {s:ByteArray}{a k:Nat}(h:¬a+k≤s.size):okR s (a,false) k=false:=by unfold okR;simp;omega
theorem q1p (s:ByteArray)(a k:Nat):okR s (a,true) k=false:=rfl
theorem ok_cases {s:ByteArray}{a k:Nat}{y:Bool}(h:okR s (a,y) k=true):y=false∧a+k≤s.size:=by unfold okR at h;simpa using h
theorem i0c {s:ByteArray}{a k:Nat}(h:a+k≤s.size):nx s k (a,false)=(a+k,false):=by unfold nx;rw[if_pos (d0u h)]
theorem y0j {s:ByteArray}{a k:Nat}(h:¬a+k≤s.size):nx s k (a,false)=(a,true):=by unfold nx;rw[q0l h];rfl
theorem y0g {s:ByteArray}{k:Nat}{p:Nat×Bool}(h:p.2=true):(nx s k p).2=true:=by
 obtain⟨a,y⟩:=p;simp only[]at h;subst h;unfold nx;rw[q1p];rfl
theorem z0x {s:ByteArray}{a k:Nat}(h:a+k≤s.size):rdV s (a,false) k=((numL ((s.data.toList.drop a).take k):Nat):Int):=by unfold rdV;rw[if_pos (d0u h)]
theorem r0w {s:ByteArray}{a k:Nat}(h:a+k≤s.size):rdT s (a,false) k=s.extract a (a+k):=by unfold rdT;rw[if_pos (d0u h)]
theorem v_no {s:ByteArray}{p:Nat×Bool}{k:Nat}(h:okR s p k=false):rdV s p k=0:=by unfold rdV;rw[h];rfl
theorem t_no {s:ByteArray}{p:Nat×Bool}{k:Nat}(h:okR s p k=false):rdT s p k=⟨#[]⟩:=by unfold rdT;rw[h];rfl
theorem t1o {s:ByteArray}{k:Nat}{p:Nat×Bool}(h:p.1≤s.size):(nx s k p).1≤s.size:=by
 obtain⟨a,y⟩:=p;unfold nx;cases hk:okR s (a,y) k
 · exact h
 · obtain⟨_,h2⟩:=ok_cases hk;exact h2
theorem m1c {s:ByteArray}{p:Nat×Bool}{k:Nat}(n:Int)(hn:n=((256 ^ k:Nat):Int))(h:0<n):0≤rdV s p k∧rdV s p k<n:=by
 cases hk:okR s p k
 · rw[v_no hk];exact⟨by omega,h⟩
 · unfold rdV;rw[if_pos hk]
   refine⟨by omega,?_⟩
   have h1:=Cur.r0h ((s.data.toList.drop p.1).take k)
   have h2:256 ^ ((s.data.toList.drop p.1).take k).length≤256 ^ k:=Nat.pow_le_pow_right (by decide) (by simp;omega)
   rw[hn];omega
theorem o1h {s:ByteArray}{a k:Nat}{y:Bool}(hk:okR s (a,y) k=false):hasB a s.size k y=false:=by
 cases y with
 | true=>rfl
 | false=>
  have h:¬a+k≤s.size:=fun h=>by rw[d0u h]at hk;cases hk
  unfold hasB;simp;omega
theorem cnum (s:ByteArray)(p:Nat×Bool)(k:Nat)(ki:Int)(hki:ki=k)(hs:s.size≤maxLen)(hp:p.1≤s.size)(h1:1≤k)(h7:k≤7)(w:World) :
    Calls Tryz.prog 270 #[.agg #[.string s,.int .i64 (p.1:Int),.int .i64 (s.size:Int),.bool p.2],.int .i64 ki] w fun e w'=>e = .returned (.tuple #[.int .i64 (rdV s p k),.agg #[.string s,.int .i64 ((nx s k p).1:Int),.int .i64 (s.size:Int),.bool (nx s k p).2]])∧Below w.heap.size w w':=by
 subst hki;obtain⟨a,y⟩:=p;cases hk:okR s (a,y) k
 · have:=u0n s a s.size k y w hs hp (Nat.le_refl _) (o1h hk) (by omega) (by omega)
   rw[v_no hk,show nx s k (a,y)=(a,true) by unfold nx;rw[hk];rfl]
   exact this
 · obtain⟨rfl,h⟩:=ok_cases hk;have:=p0d s a s.size k w hs hp (Nat.le_refl _) h h1 h7;rw[z0x h,i0c h];exact this
theorem ctext (s:ByteArray)(p:Nat×Bool)(k:Nat)(ki:Int)(hki:ki=k)(hs:s.size≤maxLen)(hp:p.1≤s.size)(w:World) :
    Calls Tryz.prog 247 #[.agg #[.string s,.int .i64 (p.1:Int),.int .i64 (s.size:Int),.bool p.2],.int .i64 ki] w fun e w'=>e = .returned (.tuple #[.string (rdT s p k),.agg #[.string s,.int .i64 ((nx s k p).1:Int),.int .i64 (s.size:Int),.bool (nx s k p).2]])∧Below w.heap.size w w':=by
 subst hki;obtain⟨a,y⟩:=p;cases hk:okR s (a,y) k
 · have:=r0g s a s.size k y w hs hp (Nat.le_refl _) (o1h hk)
   rw[t_no hk,show nx s k (a,y)=(a,true) by unfold nx;rw[hk];rfl]
   exact this
 · obtain⟨rfl,h⟩:=ok_cases hk;have:=e0d s a s.size k w hs hp (Nat.le_refl _) h;rw[r0w h,i0c h];exact this
structure Bel (B b:Nat)(w w':World):Prop where
  os:w'.os=w.os
  tape:w'.tape=w.tape
  output:w'.output=w.output
  size:w.heap.size≤w'.heap.size
  block:∀ k,k<B→k≠b→w'.heap[k]?=w.heap[k]?
section
variable {B b:Nat} {w w' w'':World}
theorem Bel.trans (h:Bel B b w w')(k:Bel B b w' w''):Bel B b w w'':=⟨k.os.trans h.os,k.tape.trans h.tape,k.output.trans h.output,Nat.le_trans h.size k.size,fun i hi hn=>(k.block i hi hn).trans (h.block i hi hn)⟩
theorem Bel.mono {B':Nat}(h:Bel B b w w')(hB:B'≤B):Bel B' b w w':=⟨h.os,h.tape,h.output,h.size,fun k hk=>h.block k (by omega)⟩
theorem Bel.of (h:Below B w w'):Bel B b w w':=⟨h.os,h.tape,h.output,h.size,fun k hk _=>h.block k hk⟩
theorem Bel.to {C:Nat}(h:Bel B b w w')(hB:C≤B)(hb:C≤b):Below C w w':=⟨h.os,h.tape,h.output,h.size,fun k hk=>h.block k (by omega) (by omega)⟩
theorem Bel.rowb (B:Nat)(cs:Array Value):Bel B b w (w.setRow b cs):=⟨rfl,rfl,rfl,by simp,fun k _ hn=>setRow_other w b k cs hn⟩
theorem Bel.row {g:Nat}(h:Bel B b w w')(hg:B≤g)(cs:Array Value):Bel B b w (w'.setRow g cs):=h.trans ⟨rfl,rfl,rfl,by simp,fun k hk _=>setRow_other w' g k cs (by omega)⟩
theorem Bel.cell {p:Addr}(h:Bel B b w w')(hg:B≤p.block)(v:Value):Bel B b w (w'.setCell p v):=h.trans ⟨rfl,rfl,rfl,by simp[World.setCell],fun k hk _=>heap_setCell_other w' p k v (by omega)⟩
theorem Bel.bx {g:Nat}{m:M}(h:Bel w.heap.size b w w')(hn:g≠b)(hm:Bx w g m):Bx w' g m:=(h.block g hm.lt hn).trans hm
theorem Bel.bk {T:TypeId}{g:Nat}{cs:Array Value}(h:Bel w.heap.size b w w')(hn:g≠b)(hm:Bk T w g cs):Bk T w' g cs:=(h.block g hm.lt hn).trans hm
end
def cu (s:ByteArray)(p:Nat×Bool):Array Value:=cur s (p.1:Int) (s.size:Int) p.2
end Rg
namespace Rg
open Tc
theorem Bel.tab {B b:Nat}{w w':World}(h:Bel B b w w')(hB:2<B)(hb:2<b)(ht:Tab w):Tab w':=ht.under (h.to (C:=3) (by omega) (by omega)) (by omega)
end Rg
end Go.Proofs.YtllhobicfclheaaGreatDoor
