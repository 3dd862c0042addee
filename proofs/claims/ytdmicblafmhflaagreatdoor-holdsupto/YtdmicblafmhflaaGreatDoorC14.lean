/- axiomref: schedule. -/
import Derived.Test.YtdmicblafmhflaaGreatDoorC13
set_option linter.unusedSimpArgs false
set_option linter.unusedVariables false
set_option maxHeartbeats 8000000
set_option maxRecDepth 100000
namespace Go.Proofs.YtdmicblafmhflaaGreatDoor
open Go.Proofs.Tryz Go.RowKit
variable{n:Nat}{w W:World}
theorem Tryz.E2:(prog.info? 3).map (λi=>(i.zero,i.size,i.bytes))=some (some (.int .i64 0),1,8):=by kernel_rfl
theorem IC(l):∀u∈du l,u.oneCell'=true:=by
 intro u e;obtain⟨z,_,rfl⟩:=aax.1 e;rfl
theorem Jw(l):(du l).length=l.length:=by simp[du]
def ei(w W:World)(v:Value)(n:Nat):Prop:=Below w.heap.size w W/\∃xs:List Int,xs.length=n/\W.ownsRow w.heap.size 3 1 v n (du xs)
theorem ei.at{d c}(h:ei w W (.slice d n c) n)(q:0<n):∃(g:Nat) (f:Nat->Int),d=some ⟨g,0,none⟩/\g<W.heap.size/\n<=c/\w.heap.size<=g/\∀k,k<n->W.cell? ⟨g,k,none⟩=some (.int .i64 (f k)):=by
 obtain⟨y,xs,u,e⟩:=h;obtain⟨g,rfl,i,j,t⟩:=aA e q;refine⟨g,λk=>xs[k]?.getD 0,rfl,i,j,(e.lt g rfl).1,λk x=>?_⟩;refine t k _ ?_;rw[IV xs k (by omega)];simp[AS (show k<xs.length by omega)]
theorem ei.below{W' v}(h:ei w W v n)(e:Below W.heap.size W W'):ei w W' v n:=by
 obtain⟨i,xs,q,j⟩:=h;exact⟨i.trans (e.mono i.size),xs,q,ae j e⟩
theorem ei.app{w2 v i z o}(h:ei w W v n)(x:(W.alloc o).grownBy w2 v.ownBlock)(xs)(j:xs.length=n)(t:w2.ownsRow w.heap.size 3 1 i (n+1) (du xs++[.int .i64 z]))(u:∀q,v.ownBlock=some q->w.heap.size<=q):ei w w2 i (n+1):=by
 refine⟨(h.1.alloc h.1.size _).grown x (by have:=h.1.size;simp;omega) u,xs++[z],by simp[j], ?_⟩;have e:du (xs++[z])=du xs++[.int .i64 z]:=by simp[du]
 rw[e];exact t
theorem wN{x z}(j:0<=z:=by decide)(i:z<=32:=by decide):Calls prog 159 #[.int .i64 x,.int .i64 z] W λe w'=>e=.returned (.int .i64 (Vp x z.toNat))/\∃q,w'=W.drewN q:=by
 have h:=xQ W x z.toNat (by omega);rw[show((z.toNat:Nat):Int)=z by omega]at h;exact h
theorem Df(p z)(i:z<p.size)(j:0<=z:=by omega):∃b:Int,∀W,(Instr.index 9 (.string p) (.int .i64 z)).run prog W=.ok (.int .u8 b) W:=by
 have e:=abK;refine⟨(p[z.toNat]'(by omega)).toNat,λW=>?_⟩;go_simp
theorem Ek(w p)(I:p.size=64):Calls prog 158 #[.string p] w λe w'=>∃d c,e=.returned (.slice d 64 c)/\ei w w' (.slice d 64 c) 64:=by
 obtain⟨D,fC,cE,ch,cz⟩:=abF Tryz.E2;have t:Hid (prog.info? 3=some D/\D.zero=some (.int .i64 0)/\D.size=1/\D.bytes=8):=⟨fC,cE,ch,cz⟩;clear fC cE ch cz
 go_enter func158,ntmps158
 go_wp2_with fail
 go_loopw [3,4] (λsv iv wr=>∃(i:Nat) (d:Option Addr) (c:Nat),i<=16/\iv=.int .i64 i/\sv=.slice d i c/\Hid (ei w wr (.slice d i c) i)) (λ_ iv _=>16-(intOf iv).toNat)
 ·exact⟨0,none,0,IS _,rfl,rfl,aaj _ _,[],rfl,aaM _ _ _ _⟩
 ·
  obtain⟨i,d,c,hi,rfl,rfl,H⟩:=hrel;by_cases h1:i<16
  ·have gD:decide ((i:Int)<16)=true:=aap (by omega);obtain⟨xs,F,J⟩:=H.out.2;have E:Hid (xs.length=i/\wr.ownsRow w.heap.size 3 1 (.slice d i c) i (du xs)):=⟨F,J⟩;have cp:=H.out.1.size;clear F J;have m0:IntKind.i64.wrap (4*(i:Int))=4*(i:Int):=by rw[aaR];omega
   have m1:IntKind.i64.wrap (4*(i:Int)+1)=4*(i:Int)+1:=by rw[aaR];omega
   have m2:IntKind.i64.wrap (4*(i:Int)+2)=4*(i:Int)+2:=by rw[aaR];omega
   have m3:IntKind.i64.wrap (4*(i:Int)+3)=4*(i:Int)+3:=by rw[aaR];omega
   obtain⟨b0,q0⟩:=Df p (4*(i:Int)) (by rw[I];omega);obtain⟨b1,q1⟩:=Df p (4*(i:Int)+1) (by rw[I];omega);obtain⟨b2,q2⟩:=Df p (4*(i:Int)+2) (by rw[I];omega);obtain⟨b3,q3⟩:=Df p (4*(i:Int)+3) (by rw[I];omega);clear I
   go_upto_block 1 with fail
   go_cut [3]from 12 to 43 (λv3 wx=>∃d' c',v3=.slice d' (i+1) c'/\Hid (ei w wx (.slice d' (i+1) c') (i+1)))
   ·
    go_upto_region 5 with fail
    refine wp_region_held_drew (S:=λ_=>True) (by kernel_rfl) trivial (λVh=>?_);refine tk 0 ⟨some 12,.move (.tmp 3),31,"digest.go:44",#[],none⟩ ?_
    try simp only[Act.put,IT,aaE,aaH]
    refine tk 1 ⟨some 13,.move (.tmp 0),9,"digest.go:44",#[],none⟩ ?_
    try simp only[Act.put,IT,aaE,aaH]
    refine tk 2 ⟨some 14,.move (.tmp 4),3,"digest.go:44",#[],none⟩ ?_
    try simp only[Act.put,IT,aaE,aaH]
    refine tk 3 ⟨some 15,.binOp .mul 3 (.const (.int .i64 4)) (.tmp 14) 3,3,"digest.go:44",#[⟨2,.data⟩],none⟩ ?_
    try simp only[Act.put,IT,aaE,aaH]
    refine tk 4 ⟨some 16,.index 9 (.tmp 13) (.tmp 15),5,"digest.go:44",#[⟨1,.data⟩,⟨3,.data⟩],none⟩ ?_
    try simp only[Act.put,IT,aaE,aaH]
    refine tk 5 ⟨some 17,.convert 5 3 (.tmp 16),3,"digest.go:44",#[⟨4,.data⟩],none⟩ ?_
    try simp only[Act.put,IT,aaE,aaH]
    refine tk 6 ⟨some 18,.binOp .mul 3 (.tmp 17) (.const (.int .i64 16777216)) 3,3,"digest.go:44",#[⟨5,.data⟩],none⟩ ?_
    try simp only[Act.put,IT,aaE,aaH]
    refine tk 7 ⟨some 19,.move (.tmp 0),9,"digest.go:44",#[],none⟩ ?_
    try simp only[Act.put,IT,aaE,aaH]
    refine tk 8 ⟨some 20,.move (.tmp 4),3,"digest.go:44",#[],none⟩ ?_
    try simp only[Act.put,IT,aaE,aaH]
    refine tk 9 ⟨some 21,.binOp .mul 3 (.const (.int .i64 4)) (.tmp 20) 3,3,"digest.go:44",#[⟨8,.data⟩],none⟩ ?_
    try simp only[Act.put,IT,aaE,aaH]
    refine tk 10 ⟨some 22,.binOp .add 3 (.tmp 21) (.const (.int .i64 1)) 3,3,"digest.go:44",#[⟨9,.data⟩],none⟩ ?_
    try simp only[Act.put,IT,aaE,aaH]
    refine tk 11 ⟨some 23,.index 9 (.tmp 19) (.tmp 22),5,"digest.go:44",#[⟨7,.data⟩,⟨10,.data⟩],none⟩ ?_
    try simp only[Act.put,IT,aaE,aaH]
    refine tk 12 ⟨some 24,.convert 5 3 (.tmp 23),3,"digest.go:44",#[⟨11,.data⟩],none⟩ ?_
    try simp only[Act.put,IT,aaE,aaH]
    refine tk 13 ⟨some 25,.binOp .mul 3 (.tmp 24) (.const (.int .i64 65536)) 3,3,"digest.go:44",#[⟨12,.data⟩],none⟩ ?_
    try simp only[Act.put,IT,aaE,aaH]
    refine tk 14 ⟨some 26,.binOp .add 3 (.tmp 18) (.tmp 25) 3,3,"digest.go:44",#[⟨6,.data⟩,⟨13,.data⟩],none⟩ ?_
    try simp only[Act.put,IT,aaE,aaH]
    refine tk 15 ⟨some 27,.move (.tmp 0),9,"digest.go:44",#[],none⟩ ?_
    try simp only[Act.put,IT,aaE,aaH]
    refine tk 16 ⟨some 28,.move (.tmp 4),3,"digest.go:44",#[],none⟩ ?_
    try simp only[Act.put,IT,aaE,aaH]
    refine tk 17 ⟨some 29,.binOp .mul 3 (.const (.int .i64 4)) (.tmp 28) 3,3,"digest.go:44",#[⟨16,.data⟩],none⟩ ?_
    try simp only[Act.put,IT,aaE,aaH]
    refine tk 18 ⟨some 30,.binOp .add 3 (.tmp 29) (.const (.int .i64 2)) 3,3,"digest.go:44",#[⟨17,.data⟩],none⟩ ?_
    try simp only[Act.put,IT,aaE,aaH]
    refine tk 19 ⟨some 31,.index 9 (.tmp 27) (.tmp 30),5,"digest.go:44",#[⟨15,.data⟩,⟨18,.data⟩],none⟩ ?_
    try simp only[Act.put,IT,aaE,aaH]
    refine tk 20 ⟨some 32,.convert 5 3 (.tmp 31),3,"digest.go:44",#[⟨19,.data⟩],none⟩ ?_
    try simp only[Act.put,IT,aaE,aaH]
    refine tk 21 ⟨some 33,.binOp .mul 3 (.tmp 32) (.const (.int .i64 256)) 3,3,"digest.go:44",#[⟨20,.data⟩],none⟩ ?_
    try simp only[Act.put,IT,aaE,aaH]
    refine tk 22 ⟨some 34,.binOp .add 3 (.tmp 26) (.tmp 33) 3,3,"digest.go:44",#[⟨14,.data⟩,⟨21,.data⟩],none⟩ ?_
    try simp only[Act.put,IT,aaE,aaH]
    refine tk 23 ⟨some 35,.move (.tmp 0),9,"digest.go:44",#[],none⟩ ?_
    try simp only[Act.put,IT,aaE,aaH]
    refine tk 24 ⟨some 36,.move (.tmp 4),3,"digest.go:44",#[],none⟩ ?_
    try simp only[Act.put,IT,aaE,aaH]
    refine tk 25 ⟨some 37,.binOp .mul 3 (.const (.int .i64 4)) (.tmp 36) 3,3,"digest.go:44",#[⟨24,.data⟩],none⟩ ?_
    try simp only[Act.put,IT,aaE,aaH]
    refine tk 26 ⟨some 38,.binOp .add 3 (.tmp 37) (.const (.int .i64 3)) 3,3,"digest.go:44",#[⟨25,.data⟩],none⟩ ?_
    try simp only[Act.put,IT,aaE,aaH]
    refine tk 27 ⟨some 39,.index 9 (.tmp 35) (.tmp 38),5,"digest.go:44",#[⟨23,.data⟩,⟨26,.data⟩],none⟩ ?_
    try simp only[Act.put,IT,aaE,aaH]
    refine tk 28 ⟨some 40,.convert 5 3 (.tmp 39),3,"digest.go:44",#[⟨27,.data⟩],none⟩ ?_
    try simp only[Act.put,IT,aaE,aaH]
    refine tk 29 ⟨some 41,.binOp .add 3 (.tmp 34) (.tmp 40) 3,3,"digest.go:44",#[⟨22,.data⟩,⟨28,.data⟩],none⟩ ?_
    try simp only[Act.put,IT,aaE,aaH]
    refine wpAnyH_ready (rs:=[30]) (by kernel_rfl) (by simp) ?_;refine AllReadyH.cons (o:=⟨some 42,.buildSlice 31 1 #[(0,.tmp 41)],31,"digest.go:44",#[⟨29,.data⟩],none⟩) rfl (λK M=>?_) AllReadyH.nil;go_simp;refine M.out _ _ trivial (λPM=>?_);clear M K
    try simp only[Act.put,IT,aaE,aaH]
    refine wpAnyH_ready (rs:=[31]) (by kernel_rfl) (by simp) ?_;refine AllReadyH.cons (o:=⟨some 43,.call {callee:=.builtin .append,args:=#[.tmp 12,.tmp 42],argTypes:=#[31,31]},31,"digest.go:44",#[⟨0,.data⟩,⟨30,.data⟩],none⟩) rfl (λK M=>?_) AllReadyH.nil;refine aed _ rfl (.tmp 12) (.tmp 42) 31 rfl w.heap.size 3 D _ 1 8 Tryz.underlying31 t.out.1 t.out.2.1 t.out.2.2.1 t.out.2.2.2 rfl (by decide) (.slice d i c) i (du xs) (by simp[Act.eval,Act.put]) (by exact E.out.2.alloc _) ⟨wr.heap.size,0,none⟩ 1 1 [.int .i64 _] (by simp[Act.eval,Act.put]) rfl (by exact dn _ _ _) (by simp[Value.oneCell']) (by decide) eI (by omega) (by simp;omega) (wr.heap.size+1) (by simp) ?_;intro g4 Gw w4 dL dv _ agr;refine M.out _ _ trivial (λYs=>?_);clear M K
    try simp only[Act.put,IT,aaE,aaH]
    refine tk 32 ⟨some 3,.assign (.tmp 43),31,"digest.go:44",#[⟨31,.data⟩,⟨31,.chain⟩,⟨0,.phase⟩,⟨1,.phase⟩,⟨2,.phase⟩,⟨3,.phase⟩,⟨4,.phase⟩,⟨5,.phase⟩,⟨6,.phase⟩,⟨7,.phase⟩,⟨8,.phase⟩,⟨9,.phase⟩,⟨10,.phase⟩,⟨11,.phase⟩,⟨12,.phase⟩,⟨13,.phase⟩,⟨14,.phase⟩,⟨15,.phase⟩,⟨16,.phase⟩,⟨17,.phase⟩,⟨18,.phase⟩,⟨19,.phase⟩,⟨20,.phase⟩,⟨21,.phase⟩,⟨22,.phase⟩,⟨23,.phase⟩,⟨24,.phase⟩,⟨25,.phase⟩,⟨26,.phase⟩,⟨27,.phase⟩,⟨28,.phase⟩,⟨29,.phase⟩,⟨30,.phase⟩,⟨31,.phase⟩],none⟩ ?_
    try simp only[Act.put,IT,aaE,aaH]
    refine wpAnyH_done (by kernel_rfl) ?_ _
    all_goals (go_wp2_with fail;go_meet;exact⟨some ⟨g4,0,none⟩,Gw,rfl,H.out.app (cJ dv) xs E.out.1 dL (λq hq=>(E.out.2.lt q hq).1)⟩)
   ·
    obtain⟨d',c',rfl,H'⟩:=hcut;clear m0 m1 m2 m3 q0 q1 q2 q3
    go_wp2_with fail
    go_roundw
    ·exact⟨i+1,d',c',h1,by go_num,rfl,H'⟩
    ·(simp[intOf];omega)
  ·have gD:decide ((i:Int)<16)=false:=aab (by omega);have H9:=aj H;have X:Hid (i=16):=(show i=16 by omega);clear H h1
   go_wp2_with fail
   go_loopw [3,5] (λsv iv wq=>∃(i:Nat) (d:Option Addr) (c:Nat),16<=i/\i<=64/\iv=.int .i64 i/\sv=.slice d i c/\Hid (ei w wq (.slice d i c) i)) (λ_ iv _=>64-(intOf iv).toNat)
   ·exact⟨16,d,c,OF _,by omega,rfl,by rw[X.out],by have h9:=H9.out;rw[X.out]at h9;exact h9⟩
   ·
    clear H9;obtain⟨i,d,c,h16,hi,rfl,rfl,H⟩:=hrel;by_cases h1:i<64
    ·have gD:decide ((i:Int)<64)=true:=aap (by omega);obtain⟨g,f,rfl,hg,wQ,YL,V⟩:=H.out.at (by omega);obtain⟨xs,F,J⟩:=H.out.2;have E:Hid (xs.length=i/\wr.ownsRow w.heap.size 3 1 (.slice (some ⟨g,0,none⟩) i c) i (du xs)):=⟨F,J⟩;have cp:=H.out.1.size;have HTU:Hid (∀W x n,n<=32->Calls prog 159 #[.int .i64 x,.int .i64 (n:Nat)] W λe w'=>∃y,e=.returned (.int .i64 y)/\∃q,w'=W.drewN q):=λW x n hn=>(xQ W x n hn).mono (λe w' h=>⟨_,h.1,h.2⟩);have c15:=V (i-15) (by omega);have c2:=V (i-2) (by omega);have U:=V (i-16) (by omega);have c7:=V (i-7) (by omega);generalize f (i-15)=x15 at*;generalize f (i-2)=x2 at*;generalize f (i-16)=j at*;generalize f (i-7)=x7 at*;clear F J V;have s15:IntKind.i64.wrap ((i:Int)-15)=(i:Int)-15:=by rw[aaR];omega
     have s2:IntKind.i64.wrap ((i:Int)-2)=(i:Int)-2:=by rw[aaR];omega
     have s16:IntKind.i64.wrap ((i:Int)-16)=(i:Int)-16:=by rw[aaR];omega
     have s7:IntKind.i64.wrap ((i:Int)-7)=(i:Int)-7:=by rw[aaR];omega
     have a15:(0:Int)<=(i:Int)-15:=by omega
     have a2:(0:Int)<=(i:Int)-2:=by omega
     have a16:(0:Int)<=(i:Int)-16:=by omega
     have a7:(0:Int)<=(i:Int)-7:=by omega
     have b15:(i:Int)-15<(i:Int):=by omega
     have u16:(16:Int)<=(i:Int):=by omega
     have u7:(7:Int)<=(i:Int):=by omega
     have b2:(i:Int)-2<(i:Int):=by omega
     have b16:(i:Int)-16<(i:Int):=by omega
     have b7:(i:Int)-7<(i:Int):=by omega
     have t15:((i:Int)-15).toNat=i-15:=by omega
     have t2:((i:Int)-2).toNat=i-2:=by omega
     have t16:((i:Int)-16).toNat=i-16:=by omega
     have t7:((i:Int)-7).toNat=i-7:=by omega
     go_upto_region 9 with fail
     go_cut [6]from 48 to 67 (λv6 wx=>∃a,v6=.int .i64 a/\(wx.cell? ⟨g,i-2,none⟩=some (.int .i64 x2)/\wx.cell? ⟨g,i-16,none⟩=some (.int .i64 j)/\wx.cell? ⟨g,i-7,none⟩=some (.int .i64 x7)/\g<wx.heap.size)/\Hid (Below wr.heap.size wr wx/\wx.heap=wr.heap))
     ·
      go_quiet (first | (go_at_call 159;exact Calls.quiet_of (wN)))
      go_wp2_with fail
      go_meet;exact⟨_,rfl,⟨c2,U,c7,hg⟩,below_drewN (aaj _ _) _,rfl⟩
     ·
      obtain⟨a6,rfl,⟨O,Z,N,nW⟩,B⟩:=hcut;obtain⟨w6,rfl⟩:∃x,x=wc:=⟨wc,rfl⟩
      go_upto_region 10 with fail
      go_cut [7]from 68 to 87 (λv7 wx=>∃a,v7=.int .i64 a/\(wx.cell? ⟨g,i-2,none⟩=some (.int .i64 x2)/\wx.cell? ⟨g,i-16,none⟩=some (.int .i64 j)/\wx.cell? ⟨g,i-7,none⟩=some (.int .i64 x7)/\g<wx.heap.size)/\Hid (Below wr.heap.size wr wx/\wx.heap=wr.heap))
      ·
       go_quiet (first | (go_at_call 159;exact Calls.quiet_of (wN)))
       go_wp2_with fail
       go_meet;exact⟨_,rfl,⟨O,Z,N,nW⟩,below_drewN B.out.1 _,B.out.2⟩
      ·
       obtain⟨a9,rfl,⟨d2,d16,d7,sk⟩,A⟩:=hcut;have u:Hid (xs.length=i/\wc.ownsRow w.heap.size 3 1 (.slice (some ⟨g,0,none⟩) i c) i (du xs)):=⟨E.out.1,ae E.out.2 A.out.1⟩;have HIR:Hid (ei w wc (.slice (some ⟨g,0,none⟩) i c) i):=H.out.below A.out.1;have R7:w.heap.size<=wc.heap.size:=by rw[A.out.2];exact cp
       clear c15 c2 U c7 O Z N nW hg B
       go_upto_region 11 with fail
       go_region_held3 (λW=>W.cell? ⟨g,i-16,none⟩=some (.int .i64 j)/\W.cell? ⟨g,i-7,none⟩=some (.int .i64 x7)) (go_keep) ((refine iV _ rfl (.tmp 88) (.tmp 105) 31 rfl w.heap.size 3 D _ 1 8 Tryz.underlying31 t.out.1 t.out.2.1 t.out.2.2.1 t.out.2.2.2 rfl (by decide) (.slice (some ⟨g,0,none⟩) i c) i (du xs) (by simp[Act.eval,Act.put]) (by exact u.out.2.alloc _) ⟨wc.heap.size,0,none⟩ 1 1 [.int .i64 _] (by simp[Act.eval,Act.put]) rfl (by exact dn _ _ _) (by simp[Value.oneCell']) (by decide) eI (by omega) (by simp;omega) ?_;intro g4 Gw w4 dL dv _ Y;have z16:w4.cell? ⟨g,i-16,none⟩=some (.int .i64 j):=(((Y g rfl).2 (i-16) (by omega)).trans (Below.cell aM.drew sk)).trans d16;have z7:w4.cell? ⟨g,i-7,none⟩=some (.int .i64 x7):=(((Y g rfl).2 (i-7) (by omega)).trans (Below.cell aM.drew sk)).trans d7))
       all_goals (go_wp2_with fail)
       all_goals (go_roundw;(case rel=>exact⟨i+1,some ⟨g4,0,none⟩,Gw,by omega,h1,by go_num,rfl,HIR.out.app (cJ dv) xs u.out.1 dL (λq hq=>(u.out.2.lt q hq).1)⟩);(case measure=>simp[intOf];omega))
    ·have gD:decide ((i:Int)<64)=false:=aab (by omega);obtain rfl:i=64:=by omega
     have H9:=aj H;clear H
     go_wp2_with fail
     go_ret;exact⟨d,c,rfl,H9.out⟩
/- axiomref: number, text. -/
theorem BB(w:World)(b z)(e:z=(b.toNat:Int)):(convert 63 9 (.slice (some ⟨w.heap.size,0,none⟩) 1 1)).run prog (w.alloc (.cells #[.int .u8 z] 5))=.ok (.string ⟨#[b]⟩) (w.alloc (.cells #[.int .u8 z] 5)):=by
 refine run_convert_bytes_back (w.alloc (.cells #[.int .u8 z] 5)) 63 9 5 ⟨w.heap.size,0,none⟩ 1 [b] aci adY abK ?_;intro j i;have t:j=0:=by simpa using i
 subst t;have q:(⟨w.heap.size,0,none⟩:Addr).add 0=⟨w.heap.size,0,none⟩:=by unfold Addr.add;split<;>simp_all
 rw[q,aaB _ _ _ _ _ _ (By w _),e];rfl
theorem uZ(w i)(B:i<=1000000000000:=by omega):Calls prog 174 #[.int .i64 (i:Nat)] w λe w'=>e=.returned (.string ⟨(Rc.ew i).toArray⟩)/\Below w.heap.size w w':=by
 generalize u:Rc.ew i=R
 go_enter func174,ntmps174
 go_wp2_with fail
 go_loopw [0,3] (λt y wr=>∃(n:Nat) (s:ByteArray),t=.int .i64 (n:Nat)/\y=.string s/\n<=1000000000000/\s.size+n<=1000000000000/\Hid (s.data.toList++Rc.ew n=R)/\Below w.heap.size w wr) (λt _ _=>(intOf t).toNat)
 ·exact⟨i,⟨#[]⟩,rfl,rfl,B,(by show 0+i<=_;omega),u,aaj _ _⟩
 ·
  obtain⟨n,s,rfl,rfl,N,hs,H,q⟩:=hrel;clear u;by_cases M:127<n
  ·have D:decide ((127:Int)<(n:Int))=true:=aap (by omega);have J:=BB wr (UInt8.ofNat (n%128+128)) (128+(n:Int)%128) (by rw[UInt8.toNat_ofNat'];omega);have A:IntKind.i64.wrap ((n:Int).tdiv 128)=((n/128:Nat):Int):=by rw[Int.tdiv_eq_ediv_of_nonneg (by omega),aaR];omega
   have x:(⟨#[UInt8.ofNat (n%128+128)]⟩:ByteArray).size=1:=rfl;have F:Hid ((s++(⟨#[UInt8.ofNat (n%128+128)]⟩:ByteArray)).data.toList++Rc.ew (n/128)=R):=by
    have j:=H.out;rw[Rc.ew,aaD (by omega)]at j;show _=R;rw[<-j,adv,aeo];simp
   have E:Hid ((s++(⟨#[UInt8.ofNat (n%128+128)]⟩:ByteArray)).size+n/128<=1000000000000):=by
    show _<=_;rw[acn,x];omega
   clear H;generalize UInt8.ofNat (n%128+128)=b at*
   go_wp2_with fail
   go_roundw
   ·exact⟨n/128,s++⟨#[b]⟩,by first | rfl | (rw[A]) | go_num,rfl,by omega,E.out,F,q.alloc q.size _⟩
   ·(simp[intOf];omega)
  ·have D:decide ((127:Int)<(n:Int))=false:=aab (by omega);have J:=BB wr (UInt8.ofNat n) (n:Int) (by rw[UInt8.toNat_ofNat'];omega);have x:(⟨#[UInt8.ofNat n]⟩:ByteArray).size=1:=rfl;have I:Hid (s++(⟨#[UInt8.ofNat n]⟩:ByteArray)=⟨R.toArray⟩):=by
    have j:=H.out;rw[Rc.ew,aa3 (by omega)]at j;show _=_;rw[<-j];apply ByteArray.ext;rw[adv];apply Array.toList_inj.1;simp
   clear H;generalize UInt8.ofNat n=b at*
   go_wp2_with fail
   go_ret;exact⟨by rw[<-I.out];rfl,q.alloc q.size _⟩
theorem B3(w s)(hs:s.size<=100000000000):Calls prog 173 #[.string s] w λe w'=>e=.returned (.string ⟨(Rc.bU s).toArray⟩)/\Below w.heap.size w w':=by
 have q:Hid (Calls prog 174 #[.int .i64 (s.size:Nat)] w λe w'=>e=.returned (.string ⟨(Rc.ew s.size).toArray⟩)/\Hid (Below w.heap.size w w')):=uZ w s.size;have t:Hid ((⟨(Rc.ew s.size).toArray⟩:ByteArray)++s=⟨(Rc.bU s).toArray⟩):=by
  show _=_;unfold Rc.bU;apply ByteArray.ext;rw[adv];apply Array.toList_inj.1;simp
 have i:=Rc.tf 10 s.size (by have e:(128:Nat)^10=1180591620717411303424:=(by decide);rw[e];omega) (by decide)
 have u:(⟨(Rc.ew s.size).toArray⟩:ByteArray).size<=10:=by
  show(Rc.ew s.size).toArray.size<=10;rw[abz];exact i
 clear i;generalize (⟨(Rc.ew s.size).toArray⟩:ByteArray)=N at*
 go_enter func173,ntmps173
 go_wp2_with (go_at_call 174;refine q.out.mono ?_;rintro e w1 ⟨rfl,j⟩)
 go_ret;exact⟨by rw[<-t.out];rfl,j.out⟩
/- axiomref: inBytes. -/
def mf(n size:Nat):List UInt8:=(List.range size).map λj=>UInt8.ofNat (n/2^(8*(size-1-j))%256)
theorem Tryz.Ut:(prog.info? 5).map (λi=>(i.zero,i.size,i.bytes))=some (some (.int .u8 0),1,1):=by kernel_rfl
theorem vo(w n size)(hs:size<=8:=by omega)(Y:0<size:=by omega)(hn:n<18446744073709551616:=by omega):Calls prog 160 #[.int .u64 (n:Nat),.int .i64 (size:Nat)] w λe w'=>e=.returned (.string ⟨(mf n size).toArray⟩)/\Below w.heap.size w w':=by
 obtain⟨i,H,M,J,I⟩:=abF Tryz.Ut;have x:Hid (prog.info? 5=some i/\i.zero=some (.int .u8 0)/\i.size=1/\i.bytes=1):=⟨H,M,J,I⟩;clear H M J I;have cZ:IntKind.i64.wrap ((size:Int)-1)=(size:Int)-1:=by rw[aaR];omega
 go_enter func160,ntmps160
 go_wp2_with fail
 go_loopw [5,6] (λbv iv wr=>∃(j:Nat) (bd:Option Addr) (bc:Nat),j<=size/\iv=.int .i64 ((size:Int)-1-j)/\bv=.slice bd j bc/\Hid (wr.ownsRow w.heap.size 5 1 (.slice bd j bc) j (Rc.dP ((mf n size).take j)))/\Hid (Below w.heap.size w wr)) (λ_ iv _=>(intOf iv+1).toNat)
 ·exact⟨0,none,0,IS _,by simp,rfl,aaM _ _ _ _,aaj _ _⟩
 ·
  obtain⟨j,bd,bc,hj,rfl,rfl,B,y⟩:=hrel;have hlen:(mf n size).length=size:=by simp[mf]
  by_cases F:j<size
  ·have Z:decide ((0:Int)<=(size:Int)-1-(j:Int))=true:=aap (by omega);have cp:=y.out.size;have HE:Hid (Rc.dP ((mf n size).take (j+1))=Rc.dP ((mf n size).take j)++[.int .u8 ((n:Int)/2^(8*(size-1-j))%256)]):=by
    show _=_;rw[aaZ,AS (by rw[hlen];exact F),Rc.qn];congr 1;simp only[Option.toList_some,Rc.dP,abn,adp,mf,adj,List.getElem_range];have e9:((UInt8.ofNat (n/2^(8*(size-1-j))%256)).toNat:Int)=(n:Int)/2^(8*(size-1-j))%256:=by
     rw[UInt8.toNat_ofNat',Nat.mod_mod_of_dvd _ (by decide)]
     push_cast
     rfl
    rw[e9]
   generalize Rc.dP ((mf n size).take j)=X at*
   go_wp2_with (at_builtin;refine abp _ rfl (.tmp 13) (.tmp 19) 63 rfl w.heap.size 5 i _ 1 1 aci x.out.1 x.out.2.1 x.out.2.2.1 x.out.2.2.2 rfl (by decide) (.slice bd j bc) j X rfl (B.out.alloc _) ⟨wr.heap.size,0,none⟩ 1 1 [.int .u8 ((n:Int)/2^(8*(size-1-j))%256)] rfl rfl (abC (By _ _)) (by simp[Value.oneCell']) eI (by omega) (by simp;omega) ?_;intro v2 w2 O bT _;obtain⟨t,u,rfl⟩:=ah O;have U:Hid (Below w.heap.size w w2):=(y.out.alloc y.out.size _).grown bT (by simp;omega) (λq V=>(B.out.lt q V).1);have A:Hid (w2.ownsRow w.heap.size 5 1 (.slice t (j+1) u) (j+1) (X++[.int .u8 ((n:Int)/2^(8*(size-1-j))%256)])):=O)
   go_roundw
   ·exact⟨j+1,t,u,F,by go_num,rfl,by rw[HE.out];exact A,U⟩
   ·(simp[intOf];omega)
  ·have Z:decide ((0:Int)<=(size:Int)-1-(j:Int))=false:=aab (by omega);obtain rfl:j=size:=by omega
   obtain⟨g,rfl,hg,wQ,N⟩:=aA B.out Y;have CQ:(convert 63 9 (.slice (some ⟨g,0,none⟩) j bc)).run prog wr=.ok (.string ⟨(mf n j).toArray⟩) wr:=by
    have E:=run_convert_bytes_back wr 63 9 5 ⟨g,0,none⟩ bc (mf n j) aci adY abK ?_
    ·rw[hlen]at E;exact E
    ·intro k W;have fK:(⟨g,0,none⟩:Addr).add k=⟨g,k,none⟩:=by unfold Addr.add;split<;>simp_all
     rw[fK];refine N k _ ?_;rw[aaP (by omega),Rc.dP,ab3,AS W];rfl
   generalize D:(⟨(mf n j).toArray⟩:ByteArray)=S at*;have HS:=aj D;clear N D
   go_wp2_with fail
   go_ret;exact⟨by rw[HS.out];rfl,y.out⟩
/- axiomref: padded. -/
def oB(m:Nat):Nat:=(56+64-m%64)%64
theorem LH{m}:oB m=0↔m%64=56:=by unfold oB;omega
theorem Lq(m)(h:¬m%64=56):oB m=oB (m+1)+1:=by unfold oB;omega
def lR(s:List UInt8):List UInt8:=s++[128]++List.replicate (oB (s.length+1)) 0++mf (s.length*8) 8
theorem GU(s):(lR s).length%64=0/\(lR s).length<=s.length+80:=by
 unfold lR oB mf;simp only[If,abL,adC,ad9,aaL,List.length_range];omega
theorem I5(w s)(hs:s.size<=100000000000):Calls prog 156 #[.string s] w λe w'=>e=.returned (.string ⟨(lR s.data.toList).toArray⟩)/\Below w.heap.size w w':=by
 generalize t:s.data.toList++[128]++List.replicate (oB (s.data.toList.length+1)) (0:UInt8)=R;have j:s.data.toList.length=s.size:=by show s.data.toList.length=s.data.size;simp
 have u:Hid (∀W,Calls prog 160 #[.int .u64 ((s.size:Int)*8),.int .i64 8] W λe w'=>e=.returned (.string ⟨(mf (s.size*8) 8).toArray⟩)/\Hid (Below W.heap.size W w')):=by
  intro W;have i:=vo W (s.size*8) 8;rw[show((s.size*8:Nat):Int)=(s.size:Int)*8 by omega]at i;exact i
 have y:Hid (∀P:ByteArray,P.data.toList=R->P++(⟨(mf (s.size*8) 8).toArray⟩:ByteArray)=⟨(lR s.data.toList).toArray⟩):=by
  intro P q;apply ByteArray.ext;rw[adv];apply Array.toList_inj.1;unfold lR;rw[t,j];simp[q]
 have A:Hid ((⟨(mf (s.size*8) 8).toArray⟩:ByteArray).size=8):=by
  show(mf (s.size*8) 8).toArray.size=8;simp[mf]
 have X:IntKind.u64.wrap ((s.size:Int)*8)=(s.size:Int)*8:=by rw[IntKind.wrap_u64];omega
 have M:(⟨#[128]⟩:ByteArray).size=1:=rfl;have J:(⟨#[0]⟩:ByteArray).size=1:=rfl;have B:Hid ((s++(⟨#[128]⟩:ByteArray)).data.toList++List.replicate (oB (s++(⟨#[128]⟩:ByteArray)).size) (0:UInt8)=R/\(s++(⟨#[128]⟩:ByteArray)).size+oB (s++(⟨#[128]⟩:ByteArray)).size<=100000000100):=by
  rw[acn,M];refine⟨?_,by unfold oB;omega⟩;rw[<-t,j];simp
 clear t
 go_enter func156,ntmps156
 go_wp2_with fail
 go_loopw [3] (λpv wr=>∃P:ByteArray,pv=.string P/\Hid (P.data.toList++List.replicate (oB P.size) (0:UInt8)=R/\P.size+oB P.size<=100000000100)/\wr=w) (λpv _=>match pv with | .string P=>oB P.size | _=>0)
 ·exact⟨_,rfl,B.out,rfl⟩
 ·
  obtain⟨P,rfl,H,rfl⟩:=hrel;clear B;have E:=H.out.2;by_cases x:P.size%64=56
  ·have q:P.data.toList=R:=by
    have i:=H.out.1;rw[(LH).2 x]at i;simpa using i
   have O:=y.out P q;have hd:(((P.size:Int)%64)==56)=true:=by rw[aeV];omega
   have V:=A.out;clear H y q A;generalize (⟨(mf (s.size*8) 8).toArray⟩:ByteArray)=Y at*
   go_wp2_with (go_at_call 160;refine(u.out _).mono ?_;rintro e U ⟨rfl,I⟩)
   go_ret;exact⟨by rw[<-O];rfl,I.out⟩
  ·have hd:(((P.size:Int)%64)==56)=false:=by rw[ab1];omega
   have F:=Lq P.size x;have D:(P++(⟨#[0]⟩:ByteArray)).size=P.size+1:=by rw[acn,J]
   have N:Hid ((P++(⟨#[0]⟩:ByteArray)).data.toList++List.replicate (oB (P++(⟨#[0]⟩:ByteArray)).size) (0:UInt8)=R/\(P++(⟨#[0]⟩:ByteArray)).size+oB (P++(⟨#[0]⟩:ByteArray)).size<=100000000100):=by
    rw[D];refine⟨?_,by omega⟩;have i:=H.out.1;rw[F,List.replicate_succ]at i;rw[<-i,adv];simp
   clear H
   go_wp2_with fail
   go_roundw
   ·exact⟨P++⟨#[0]⟩,rfl,N,trivial⟩
   ·
    show oB (P++(⟨#[0]⟩:ByteArray)).size<oB P.size;rw[D];omega
variable{g c n t i e:Nat}{w W W':World}
theorem ei.set(h:ei w W (.slice (some ⟨g,0,none⟩) n c) n)(j z)(i:w.heap.size<=g):ei w (W.setCell ⟨g,j,none⟩ (.int .i64 z)) (.slice (some ⟨g,0,none⟩) n c) n:=by
 obtain⟨u,xs,t,q⟩:=h;refine⟨u.setCell i _,xs.set j z,by simpa using t, ?_⟩;have e:du (xs.set j z)=(du xs).set j (.int .i64 z):=by unfold du;rw[List.map_set]
 rw[e];exact ir q j _
theorem ei.other{x}(h:ei w W (.slice (some ⟨g,0,none⟩) n c) n)(e:Kb [x] W W')(q:w.heap.size<=x)(y:g≠x):ei w W' (.slice (some ⟨g,0,none⟩) n c) n:=by
 obtain⟨j,xs,u,t⟩:=h;exact⟨e.aQ j j.size (by simpa using q),xs,u,e.row t (λb i=>by simp[Value.ownBlock]at i;subst i;simpa using y)⟩
theorem ei.ge(h:ei w W (.slice (some ⟨g,0,none⟩) n c) n):w.heap.size<=g/\g<W.heap.size:=by
 obtain⟨_,xs,_,e⟩:=h;exact e.lt g rfl
theorem ei.fz(h:ei w W (.slice (some ⟨g,0,none⟩) n c) n)(j):W.frozen? ⟨g,j,none⟩=false:=by
 obtain⟨_,xs,_,i⟩:=h;obtain⟨q,e⟩:=aP i (b:=g) rfl;exact aJ e j
theorem ui{w':World}(h:w'.heap=w.heap)(a):w'.cell? a=w.cell? a:=by simp only[World.cell?,h]
structure DG(w W:World)(kg hg vg sg sc:Nat):Prop where
 k:ei w W (.slice (some ⟨kg,0,none⟩) 64 64) 64
 h:ei w W (.slice (some ⟨hg,0,none⟩) 8 8) 8
 v:ei w W (.slice (some ⟨vg,0,none⟩) 8 8) 8
 s:ei w W (.slice (some ⟨sg,0,none⟩) 64 sc) 64
 n1:kg≠vg
 n2:hg≠vg
 n3:sg≠vg
theorem DG.below{u j q}(d:DG w W t u i j q)(e:Below W.heap.size W W'):DG w W' t u i j q:=⟨d.k.below e,d.h.below e,d.v.below e,d.s.below e,d.n1,d.n2,d.n3⟩
theorem DG.Wk{x u}(d:DG w W x e i t u)(j:Nat)(z:Int):DG w (W.setCell ⟨i,j,none⟩ (.int .i64 z)) x e i t u:=by
 have q:=Kb.setCell W ⟨i,j,none⟩ (.int .i64 z);have e:=d.v.ge.1;exact⟨d.k.other q e d.n1,d.h.other q e d.n2,d.v.set j z e,d.s.other q e d.n3,d.n1,d.n2,d.n3⟩
structure DC(W:World)(kg vg sg i:Nat)(f:Nat->Int)(ki si:Int):Prop where
 v:∀j,j<8->W.cell? ⟨vg,j,none⟩=some (.int .i64 (f j))
 k:W.cell? ⟨kg,i,none⟩=some (.int .i64 ki)
 s:W.cell? ⟨sg,i,none⟩=some (.int .i64 si)
 lv:vg<W.heap.size
 lk:kg<W.heap.size
 ls:sg<W.heap.size
theorem DC.heap{w}{f:Nat->Int}{u q}(d:DC W w e t i f u q)(h:W'.heap=W.heap):DC W' w e t i f u q:=
 ⟨λj x=>by rw[ui h];exact d.v j x,by rw[ui h];exact d.k,by rw[ui h];exact d.s,by rw[h];exact d.lv,by rw[h];exact d.lk,by rw[h];exact d.ls⟩
theorem DG.dc{B j q}(d:DG w W t B e j q)(u:i<64):∃f A x,DC W t e j i f A x/\64<=q:=by
 obtain⟨U,H,J,l1,_,_,c1⟩:=d.k.at (by omega);obtain⟨O,F,I,l2,_,_,c2⟩:=d.v.at (by omega);obtain⟨N,E,e3,y,D,_,M⟩:=d.s.at (by omega);cases J;cases I;cases e3;exact⟨F,H i,E i,⟨c2,c1 i u,M i u,l2,l1,y⟩,D⟩
theorem F0(w s)(hs:s.size<=10000000000):Calls prog 87 #[.string s] w λe w'=>∃t:ByteArray,e=.returned (.string t)/\t.size=32/\Below w.heap.size w w':=by
 have HPA:Hid (Calls prog 156 #[.string s] w λe w'=>∃P:ByteArray,e=.returned (.string P)/\P.size<=20000000000/\Hid (P.size%64=0/\Below w.heap.size w w')):=by
  refine(I5 w s (by omega)).mono ?_;rintro e w' ⟨rfl,hb⟩;have h9:=GU s.data.toList;refine⟨_,rfl, ?_, ?_,hb⟩
  ·show(lR s.data.toList).toArray.size<=_;rw[abz];have:s.data.toList.length=s.size:=by simp
   omega
  ·show(lR s.data.toList).toArray.size%64=0;rw[abz];exact h9.1
 have Jo:Hid (∀W,Below w.heap.size w W->Calls prog 157 #[] W λe w'=>∃g,e=.returned (.slice (some ⟨g,0,none⟩) 64 64)/\Hid (ei w w' (.slice (some ⟨g,0,none⟩) 64 64) 64)):=by
  intro W hW;refine(Bc W).mono ?_;rintro e w' ⟨g,xs,rfl,hx,ho,hb⟩;exact⟨g,rfl,hW.trans (hb.mono hW.size),xs,hx,aD ho hW.size⟩
 have HSC:Hid (∀W p,ByteArray.size p=64->Calls prog 158 #[.string p] W λe w'=>∃g c,e=.returned (.slice (some ⟨g,0,none⟩) 64 c)/\Hid (ei W w' (.slice (some ⟨g,0,none⟩) 64 c) 64)):=by
  intro W p hp;refine(Ek W p hp).mono ?_;rintro e w' ⟨d,c,rfl,h⟩;obtain⟨g,f,rfl,_⟩:=h.at (by omega);exact⟨g,c,rfl,h⟩
 go_enter func87,ntmps87
 go_wp2_with (first | (go_at_call 156;refine HPA.out.mono ?_;rintro e w1 ⟨P,rfl,hP,H1⟩) | (go_at_call 157;refine(Jo.out _ H1.out.2).mono ?_;rintro e w2 ⟨F,rfl,H2⟩))
 obtain⟨w3,xO⟩:∃w3,w3=w2.alloc (.cells #[.int .i64 1779033703,.int .i64 3144134277,.int .i64 1013904242,.int .i64 2773480762,.int .i64 1359893119,.int .i64 2600822924,.int .i64 528734635,.int .i64 1541459225] 3):=⟨_,rfl⟩;rw[<-xO];obtain⟨A,hhg⟩:∃A,A=w2.heap.size:=⟨_,rfl⟩;rw[<-hhg];have HK:Hid (F≠A/\ei w w3 (.slice (some ⟨F,0,none⟩) 64 64) 64/\ei w w3 (.slice (some ⟨A,0,none⟩) 8 8) 8):=by
  have dp:Below w2.heap.size w2 w3:=by rw[xO];exact aM
  have Nd:=H2.out.below dp;refine⟨?_,Nd, ?_⟩
  ·have:=H2.out.ge;omega
  ·refine⟨Nd.1,[1779033703,3144134277,1013904242,2773480762,1359893119,2600822924,528734635,1541459225],rfl,rfl,.inr ⟨A,8,#[.int .i64 1779033703,.int .i64 3144134277,.int .i64 1013904242,.int .i64 2773480762,.int .i64 1359893119,.int .i64 2600822924,.int .i64 528734635,.int .i64 1541459225],rfl, ?_, ?_,OF _,by decide, ?_, ?_⟩⟩
   ·have:=H2.out.1.size;omega
   ·rw[xO,hhg];exact By _ _
   ·rfl
   ·rfl
 have HPM:=aj H1.out.1;clear xO hhg H1 H2 HPA Jo hs
 go_loopw [6] (λav wr=>∃(n:Nat),av=.int .i64 (64*n:Nat)/\64*n<=P.size/\Hid (ei w wr (.slice (some ⟨F,0,none⟩) 64 64) 64/\ei w wr (.slice (some ⟨A,0,none⟩) 8 8) 8)) (λav _=>P.size-(intOf av).toNat)
 ·exact⟨0,rfl,IS _,HK.out.2⟩
 ·
  obtain⟨n,rfl,hn,H⟩:=hrel;obtain⟨at_,pJ⟩:∃at_,at_=64*n:=⟨_,rfl⟩;rw[<-pJ];rw[<-pJ]at hn;have Vl:=aj pJ;clear pJ;by_cases h1:at_<P.size
  ·have gD:decide ((at_:Int)<P.size)=true:=aap (by omega);have MD:at_+64<=P.size:=by have:=HPM.out;have:=Vl.out;omega
   have ar6:IntKind.i64.wrap ((at_:Int)+64)=(at_:Int)+64:=by rw[aaR];omega
   have a1:(0:Int)<=(at_:Int):=by omega
   have a2:(at_:Int)<=at_+64:=by omega
   have a3:(at_:Int)+64<=(P.size:Int):=by omega
   have a4:((at_:Int)+64).toNat=at_+64:=by omega
   have a0:(0:Int)<=(at_:Int)+64:=by omega
   have HSX:Hid (Calls prog 158 #[.string (P.extract at_ (at_+64))] wr λe w'=>∃g c,e=.returned (.slice (some ⟨g,0,none⟩) 64 c)/\Hid (ei wr w' (.slice (some ⟨g,0,none⟩) 64 c) 64)):=HSC.out wr _ (by rw[aca];omega);obtain⟨MA,hMA,rW⟩:=B5 8;have HMA:=aj hMA;have Q4:∀W:World,(Instr.makeSlice 31 (.int .i64 8) (.int .i64 8)).run prog W=.ok (.slice (some ⟨W.heap.size,0,none⟩) 8 8) (W.alloc (.cells MA 3)):=rW;clear hMA rW HSC
   go_upto_region 9 with(go_at_call 158;refine HSX.out.mono ?_;rintro e w4 ⟨sg,sc,rfl,H4⟩)
   obtain⟨I,Uu⟩:∃I,I=w4.alloc (.cells MA 3):=⟨_,rfl⟩;rw[<-Uu];obtain⟨B,Ww⟩:∃B,B=w4.heap.size:=⟨_,rfl⟩;rw[<-Ww];have hMs:MA.size=8:=by rw[<-abP,HMA.out];rfl
   have Zk:I.heap[B]?=some (.cells MA 3 (0,0)):=by rw[Uu,Ww];exact By _ _
   have S5:Below w4.heap.size w4 I:=by rw[Uu];exact aM
   have jL:Below wr.heap.size wr w4:=H4.out.1;have hh5:=(H.out.2.below jL).below S5;obtain⟨xs,hxs,hxo⟩:=hh5.2;have nP:(du xs).length=8:=by rw[Jw];exact hxs
   have dM:=acw hxo (g:=A) rfl;have qW:∀ty,(Builtin.copy_ #[31,31] ty #[.slice (some ⟨B,0,none⟩) 8 8,.slice (some ⟨A,0,none⟩) 8 8]).run prog I=.ok (goInt 8) (I.setRow B (du xs).toArray):=by
    intro ty;have h9:=fH prog I 31 31 ty 3 B 0 8 8 ⟨A,0,none⟩ 8 8 MA 3 (du xs) 1 8 Tryz.underlying31 (by obtain⟨i0,hi,_,ch,_⟩:=abF Tryz.E2;rw[hi];simp[ch]) Zk rfl nP dM (by omega) (IC xs);rw[h9];have e9:MA.toList.take 0++du xs++MA.toList.drop (0+(du xs).length)=du xs:=by
     rw[List.take_zero,acp,abG (by rw[abP];omega),aby]
    rw[e9];rfl
   have HD0:Hid (DG w (I.setRow B (du xs).toArray) F A B sg sc):=by
    have hk:=Kb.setRow I B (du xs).toArray;have RS:=(H.out.1.below jL).below S5;have hss:=H4.out.below S5;have e1:=H.out.1.ge.2;have e2:=H.out.2.ge.2;have e3:=jL.size;have e4:=H4.out.ge;have e5:=H.out.1.1.size;have Z:w.heap.size<=B:=by omega
    have hs9:ei w I (.slice (some ⟨sg,0,none⟩) 64 sc) 64:=by
     obtain⟨_,ys,q1,q2⟩:=hss;exact⟨RS.1,ys,q1,aD q2 e5⟩
    refine⟨RS.other hk Z (by omega),hh5.other hk Z (by omega),⟨hk.aQ RS.1 RS.1.size (by simpa using Z),xs,hxs,nP.trans (by simp),.inr ⟨B,8,_,rfl,Z,bQ _ _ Zk,OF _,by decide,by rw[abz,nP], ?_⟩⟩,hs9.other hk Z (by omega),by omega,by omega,by omega⟩;rw[aaP (by simp[nP])]
   clear Zk S5 jL hh5 hxo dM hMs Uu Ww H H4
   go_wp2_with (at_builtin;refine jS _ rfl _ _ 31 31 rfl _ _ rfl rfl (qW _) ?_)
   clear qW;generalize I.setRow B (du xs).toArray=w6 at*;clear nP hxs HMA Q4 HSX
   go_loopw [9] (λiv wr=>∃(i:Nat),i<=64/\iv=.int .i64 i/\Hid (DG w wr F A B sg sc)) (λiv _=>64-(intOf iv).toNat)
   ·exact⟨0,IS _,rfl,HD0.out⟩
   ·
    clear HD0;obtain⟨i,hi,rfl,H⟩:=hrel;by_cases h2:i<64
    ·have ib:decide ((i:Int)<64)=true:=aap (by omega);have b1:(0:Int)<=(i:Int):=by omega
     have b2:(i:Int)<64:=by omega
     obtain⟨f,ki,si,hdc,aqi⟩:=H.out.dc h2;have YZ:=aj hdc;obtain⟨w0,rfl⟩:∃x,x=wr:=⟨wr,rfl⟩;obtain⟨q,E,D,lv,lk,ls⟩:=hdc;have X:=q 0 (by omega);have V:=q 1 (by omega);have U:=q 2 (by omega);have O:=q 4 (by omega);have N:=q 5 (by omega);have M:=q 6 (by omega);have J:=q 7 (by omega);clear q
     go_upto_region 13 with fail
     go_cut [10]from 43 to 56 (λY wx=>∃z,Y=.int .i64 z/\Hid (Below w0.heap.size w0 wx/\wx.heap=w0.heap))
     ·
      go_quiet (first | (go_at_call 159;exact Calls.quiet_of (wN)))
      go_wp2_with fail
      go_meet;exact⟨_,rfl,below_drewN (aaj _ _) _,rfl⟩
     ·
      obtain⟨z10,rfl,Tv⟩:=hcut;obtain⟨u10,rfl⟩:∃x,x=wc:=⟨wc,rfl⟩;clear E D X V U O N M J lv lk ls;obtain⟨q,E,D,lv,lk,ls⟩:=YZ.out.heap Tv.out.2;have X:=q 0 (by omega);have V:=q 1 (by omega);have U:=q 2 (by omega);have O:=q 4 (by omega);have N:=q 5 (by omega);have M:=q 6 (by omega);have J:=q 7 (by omega);clear q
      go_upto_region 14 with fail
      go_cut [11]from 57 to 72 (λY wx=>∃z,Y=.int .i64 z/\Hid (Below w0.heap.size w0 wx/\wx.heap=w0.heap))
      ·
       go_quiet (fail)
       go_wp2_with fail
       go_meet;exact⟨_,rfl,below_drewN Tv.out.1 _,Tv.out.2⟩
      ·
       obtain⟨z11,rfl,Tc⟩:=hcut;obtain⟨u11,rfl⟩:∃x,x=wc:=⟨wc,rfl⟩;clear E D X V U O N M J lv lk ls;obtain⟨q,E,D,lv,lk,ls⟩:=YZ.out.heap Tc.out.2;have X:=q 0 (by omega);have V:=q 1 (by omega);have U:=q 2 (by omega);have O:=q 4 (by omega);have N:=q 5 (by omega);have M:=q 6 (by omega);have J:=q 7 (by omega);clear q
       go_upto_region 15 with fail
       go_cut [12]from 73 to 90 (λY wx=>∃z,Y=.int .i64 z/\Hid (Below w0.heap.size w0 wx/\wx.heap=w0.heap))
       ·
        go_quiet (fail)
        go_wp2_with fail
        go_meet;exact⟨_,rfl,below_drewN Tc.out.1 _,Tc.out.2⟩
       ·
        obtain⟨z12,rfl,Ul⟩:=hcut;obtain⟨u12,rfl⟩:∃x,x=wc:=⟨wc,rfl⟩;clear E D X V U O N M J lv lk ls;obtain⟨q,E,D,lv,lk,ls⟩:=YZ.out.heap Ul.out.2;have X:=q 0 (by omega);have V:=q 1 (by omega);have U:=q 2 (by omega);have O:=q 4 (by omega);have N:=q 5 (by omega);have M:=q 6 (by omega);have J:=q 7 (by omega);clear q
        go_upto_region 16 with fail
        go_cut [13]from 91 to 104 (λY wx=>∃z,Y=.int .i64 z/\Hid (Below w0.heap.size w0 wx/\wx.heap=w0.heap))
        ·
         go_quiet (first | (go_at_call 159;exact Calls.quiet_of (wN)))
         go_wp2_with fail
         go_meet;exact⟨_,rfl,below_drewN Ul.out.1 _,Ul.out.2⟩
        ·
         obtain⟨z13,rfl,Uf⟩:=hcut;obtain⟨u13,rfl⟩:∃x,x=wc:=⟨wc,rfl⟩;clear E D X V U O N M J lv lk ls;obtain⟨q,E,D,lv,lk,ls⟩:=YZ.out.heap Uf.out.2;have X:=q 0 (by omega);have V:=q 1 (by omega);have U:=q 2 (by omega);have O:=q 4 (by omega);have N:=q 5 (by omega);have M:=q 6 (by omega);have J:=q 7 (by omega);clear q
         go_upto_region 17 with fail
         go_cut [14]from 105 to 127 (λY wx=>∃z,Y=.int .i64 z/\Hid (Below w0.heap.size w0 wx/\wx.heap=w0.heap))
         ·
          go_quiet (fail)
          go_wp2_with fail
          go_meet;exact⟨_,rfl,below_drewN Uf.out.1 _,Uf.out.2⟩
         ·
          obtain⟨z14,rfl,YE⟩:=hcut;obtain⟨u14,rfl⟩:∃x,x=wc:=⟨wc,rfl⟩;clear E D X V U O N M J lv lk ls;obtain⟨q,E,D,lv,lk,ls⟩:=YZ.out.heap YE.out.2;have X:=q 0 (by omega);have V:=q 1 (by omega);have U:=q 2 (by omega);have O:=q 4 (by omega);have N:=q 5 (by omega);have M:=q 6 (by omega);have J:=q 7 (by omega);clear q;have HDX:Hid (DG w u14 F A B sg sc):=H.out.below YE.out.1;clear H YZ Tv Tc Ul Uf YE E D X V U O N M J lv lk ls
          go_wp2_with fail
          go_loopw [15] (λjv wq=>∃(j:Nat),j<=7/\jv=.int .i64 j/\Hid (DG w wq F A B sg sc)) (λjv _=>(intOf jv).toNat)
          ·exact⟨7,OF _,rfl,HDX.out⟩
          ·
           clear HDX;obtain⟨j,hj,rfl,H⟩:=hrel;cases j with
           | zero=>
            have hz:decide ((0:Int)<((0:Nat):Int))=false:=by simp
            obtain⟨g2,f2,e2,l2,_,ahX,c2⟩:=H.out.v.at (by omega);cases e2;have y4:=c2 4 (by omega);have y0:=c2 0 (by omega);have g4:=H.out.v.fz 4;have g0:=H.out.v.fz 0;have HN:Hid (∀z y,DG w ((wr.setCell ⟨B,4,none⟩ (.int .i64 z)).setCell ⟨B,0,none⟩ (.int .i64 y)) F A B sg sc):=λz y=>(H.out.Wk 4 z).Wk 0 y;clear H c2
            go_wp2_with fail
            go_roundw
            ·exact⟨i+1,h2,by go_num,HN.out _ _⟩
            ·(simp[intOf];omega)
           | succ m=>
            have hz:decide ((0:Int)<((m+1:Nat):Int))=true:=by simp
            obtain⟨g2,f2,e2,l2,_,ahX,c2⟩:=H.out.v.at (by omega);cases e2;have ym:=c2 m (by omega);have ys:=c2 (m+1) (by omega);have gm:=H.out.v.fz (m+1);have q1:IntKind.i64.wrap (((m+1:Nat):Int)-1)=(m:Int):=by rw[aaR];omega
            have q2:(0:Int)<=(m:Int):=by omega
            have q3:(m:Int)<8:=by omega
            have q4:((m+1:Nat):Int)<8:=by omega
            have HN:Hid (∀z,DG w (wr.setCell ⟨B,m+1,none⟩ (.int .i64 z)) F A B sg sc):=λz=>H.out.Wk (m+1) z;clear H c2
            go_wp2_with fail
            go_roundw
            ·exact⟨m,by omega,by go_num,HN.out _⟩
            ·(simp[intOf])
    ·have ib:decide ((i:Int)<64)=false:=aab (by omega);have HDY:Hid (ei w wr (.slice (some ⟨F,0,none⟩) 64 64) 64/\ei w wr (.slice (some ⟨A,0,none⟩) 8 8) 8/\ei w wr (.slice (some ⟨B,0,none⟩) 8 8) 8):=⟨H.out.k,H.out.h,H.out.v⟩;have QM:=aj H.out.n2;clear H
     go_wp2_with fail
     go_loopw [16] (λiv wq=>∃(i:Nat),i<=8/\iv=.int .i64 i/\Hid (ei w wq (.slice (some ⟨F,0,none⟩) 64 64) 64/\ei w wq (.slice (some ⟨A,0,none⟩) 8 8) 8/\ei w wq (.slice (some ⟨B,0,none⟩) 8 8) 8)) (λiv _=>8-(intOf iv).toNat)
     ·exact⟨0,IS _,rfl,HDY.out⟩
     ·
      clear HDY;obtain⟨i,hi,rfl,H⟩:=hrel;by_cases h3:i<8
      ·have Up:decide ((i:Int)<8)=true:=aap (by omega);obtain⟨g2,f2,e2,l2,_,_,c2⟩:=H.out.2.2.at (by omega);cases e2;obtain⟨g3,f3,e3,l3,_,_,c3⟩:=H.out.2.1.at (by omega);cases e3;have yv:=c2 i h3;have yh:=c3 i h3;have gh:=H.out.2.1.fz i;have b1:(0:Int)<=(i:Int):=by omega
       have b2:(i:Int)<8:=by omega
       have HN:Hid (∀z W,Below wr.heap.size wr W->ei w (W.setCell ⟨A,i,none⟩ (.int .i64 z)) (.slice (some ⟨F,0,none⟩) 64 64) 64/\ei w (W.setCell ⟨A,i,none⟩ (.int .i64 z)) (.slice (some ⟨A,0,none⟩) 8 8) 8/\ei w (W.setCell ⟨A,i,none⟩ (.int .i64 z)) (.slice (some ⟨B,0,none⟩) 8 8) 8):=by
        intro z W hb;have hk:=Kb.setCell W ⟨A,i,none⟩ (.int .i64 z);have Z:=H.out.2.1.ge.1;exact⟨(H.out.1.below hb).other hk Z HK.out.1,(H.out.2.1.below hb).set i z Z,(H.out.2.2.below hb).other hk Z (Ne.symm QM.out)⟩
       generalize f3 i=zh at*;generalize f2 i=zv at*;clear H c2 c3
       go_upto_region 27 with fail
       go_region
       all_goals (go_wp2_with fail)
       all_goals (go_roundw;(case rel=>exact⟨i+1,h3,by go_num,HN.out _ _ (aaj _ _).drew⟩);(case measure=>(simp[intOf];omega)))
      ·have Up:decide ((i:Int)<8)=false:=aab (by omega);have kG:Hid (ei w wr (.slice (some ⟨F,0,none⟩) 64 64) 64/\ei w wr (.slice (some ⟨A,0,none⟩) 8 8) 8):=⟨H.out.1,H.out.2.1⟩;have aa5:Hid (at_+64=64*(n+1)):=(show at_+64=_ by have:=Vl.out;omega);clear H
       go_wp2_with fail
       go_roundw
       ·exact⟨n+1,by rw[<-aa5.out];go_num,by rw[<-aa5.out];omega,kG.out⟩
       ·(simp[intOf];omega)
  ·have gD:decide ((at_:Int)<P.size)=false:=aab (by omega);have HH:=aj H.out.2;clear H
   go_wp2_with fail
   go_loopw [17,18] (λov iv wq=>∃(i:Nat) (t:ByteArray),i<=8/\iv=.int .i64 i/\ov=.string t/\t.size=4*i/\Hid (ei w wq (.slice (some ⟨A,0,none⟩) 8 8) 8)) (λ_ iv _=>8-(intOf iv).toNat)
   ·exact⟨0,⟨#[]⟩,IS _,rfl,rfl,rfl,HH.out⟩
   ·
    clear HH;obtain⟨i,t,hi,rfl,rfl,ht,H⟩:=hrel;by_cases h3:i<8
    ·have Up:decide ((i:Int)<8)=true:=aap (by omega);obtain⟨g3,f3,e3,l3,_,_,c3⟩:=H.out.at (by omega);cases e3;have yh:=c3 i h3;generalize f3 i=z at*;have b1:(0:Int)<=(i:Int):=by omega
     have b2:(i:Int)<8:=by omega
     have HIB:Hid (∀y:Int,y=IntKind.u64.wrap z->Calls prog 160 #[.int .u64 y,.int .i64 4] wr λe w'=>∃u:ByteArray,e=.returned (.string u)/\u.size=4/\Hid (ei w w' (.slice (some ⟨A,0,none⟩) 8 8) 8)):=by
      intro y hy;have hy2:0<=y/\y<18446744073709551616:=by rw[hy];simp[IntKind.wrap,IntKind.bits,IntKind.signed];omega
      have h9:=vo wr y.toNat 4;rw[show((y.toNat:Nat):Int)=y by omega]at h9;refine h9.mono ?_;rintro e w' ⟨rfl,hb⟩;exact⟨_,rfl,by show(mf _ 4).toArray.size=4;simp[mf],H.out.below hb⟩
     clear H c3
     go_wp2_with (go_at_call 160;refine(HIB.out _ (by first | rfl | simp)).mono ?_;rintro e w7 ⟨u,rfl,hu,H7⟩)
     go_roundw
     ·exact⟨i+1,t++u,h3,by go_num,rfl,by rw[acn];omega,H7.out⟩
     ·(simp[intOf];omega)
    ·have Up:decide ((i:Int)<8)=false:=aab (by omega);have HBB:Hid (t.size=32/\Below w.heap.size w wr):=⟨by omega,H.out.1⟩;clear H ht
     go_wp2_with fail
     go_ret;exact⟨t,rfl,HBB.out.1,HBB.out.2⟩
/- axiomref: New. -/
theorem Mi(s w)(hm:s.size<=maxLen):Calls prog 85 #[.string s] w λe w'=>((Ax.read s).2.1≠0/\mi w (Ax.read s) e w')\/((Ax.read s).2.1=0/\OA w (Ax.bX s) (Ax.read s).1 e w'):=by
 by_cases u:600<s.size
 ·rw[Ax.xU u];exact(abI s w u hm).mono λ_ _ h=>.inl ⟨by simp,h⟩
 ·have hs:s.size<=600:=by omega
  rcases i:Ax.bI (Ax.split s) (Ax.split s).length 0 []with⟨_ | rs,j⟩
  ·have B:=Ax.qb (Ax.gi s) _ _ _ (by have:=Ax.gi s;obtain⟨m,t,e,_⟩:=this;rw[e];simp) i;have y:(Ax.split s)[j]?=some (Ax.split s)[j]:=AS B;rw[Ax.JL u i y];exact(aam s w hs j i y).mono λ_ _ h=>.inl ⟨by simp,h⟩
  ·rcases q:Ax.bL 0 [] rs with _ | p
   ·rcases x:Ax.dt [] (rs.flatMap Ax.aI.atoms)with _ | p
    ·rcases A:Ax.bE rs with _ | p
     ·rw[Ax.Io u i q x A];have e:Ax.bX s=rs:=by unfold Ax.bX;rw[i];rfl
      rw[e];exact(aaO s w hs rs j i q x A rfl (λt y=>by have:=Ax.lh s t y;omega) rfl).mono λ_ _ h=>.inr ⟨rfl,h⟩
     ·rw[Ax.DH u i q x A];exact(acv s w hs rs j i q x p A).mono λ_ _ h=>.inl ⟨by simp,h⟩
    ·rw[Ax.Dl u i q x];exact(aav s w hs rs j i q p x).mono λ_ _ h=>.inl ⟨by simp,h⟩
   ·rw[Ax.Eg u i q];exact(Z7 s w hs rs j i p q).mono λ_ _ h=>.inl ⟨by simp,h⟩
def tO(rl:List QR)(G out:List FI)(q:Nat):Prop:=(∃r,r∈rl/\∃x,(x=r.head\/x∈r.body)/\(Value.slice (QA.td x) (QA.a x).af.length (QA.tc x)).ownBlock=some q)\/(∃f,(f∈G\/f∈out)/\(FI.av f).ownBlock=some q)
theorem QS{B rl}(h:∀r,r∈rl->r.rK B){G out}(w:∀f,f∈G->∀q,f.av.ownBlock=some q->B<=q)(t:∀f,f∈out->∀q,f.av.ownBlock=some q->B<=q):∀q,tO rl G out q->B<=q:=by
 rintro q (⟨r,j,x,i,e⟩ | ⟨f,u,e⟩)
 ·rcases i with rfl | i
  ·exact(h r j).1 q e
  ·exact(h r j).2 x i q e
 ·grind
def pj(w:World)(s:ByteArray)(e:Ending)(w':World):Prop:=Below w.heap.size w w'/\
 (((Ax.read s).2.1≠0/\e=.returned (.tuple #[.pointer none,.int .i64 (Ax.read s).2.1,.int .i64 (Ax.read s).2.2]))\/
  ((Ax.read s).2.1=0/\match Rf.tN (Ax.bX s) 300 [] true []with
   | none=>e=.returned (.tuple #[.pointer none,.int .i64 7,.int .i64 0])
   | some M=>∃rg rl o out hd rv pv gv mv cv,e=.returned (.tuple #[.pointer (some ⟨rg,0,none⟩),.int .i64 0,.int .i64 0])/\w.heap.size<=rg/\qD w' rg rl o (Ax.read s).1 [] out ⟨#[]⟩ hd rv pv gv mv cv/\rl.map QR.aw=Ax.bX s/\o.Perm (Ax.gX ((Ax.bX s).flatMap Ax.aI.atoms)).1/\out.map FI.f=Rf.cS M/\hd.size=32/\∀q,tO rl [] out q->w.heap.size<=q))
theorem Q7(s w)(hm:s.size<=maxLen)(dR:(Ax.read s).2.1=0->Rf.Ac (Ax.bX s)/\(Ax.read s).1.size<=600):Calls prog 47 #[.string s] w λe w'=>pj w s e w':=by
 have XT:Hid (Calls prog 85 #[.string s] w λe w'=>((Ax.read s).2.1≠0/\mi w (Ax.read s) e w')\/((Ax.read s).2.1=0/\OA w (Ax.bX s) (Ax.read s).1 e w')):=Mi s w hm;by_cases D:(Ax.read s).2.1=0
 ·have I:Hid (∀e w',Below w.heap.size w w'->(match Rf.tN (Ax.bX s) 300 [] true []with
   | none=>e=.returned (.tuple #[.pointer none,.int .i64 7,.int .i64 0])
   | some M=>∃rg rl o out hd rv pv gv mv cv,e=.returned (.tuple #[.pointer (some ⟨rg,0,none⟩),.int .i64 0,.int .i64 0])/\w.heap.size<=rg/\qD w' rg rl o (Ax.read s).1 [] out ⟨#[]⟩ hd rv pv gv mv cv/\rl.map QR.aw=Ax.bX s/\o.Perm (Ax.gX ((Ax.bX s).flatMap Ax.aI.atoms)).1/\out.map FI.f=Rf.cS M/\hd.size=32/\∀q,tO rl [] out q->w.heap.size<=q)->pj w s e w'):=λe w' B h=>⟨B,.inr ⟨D,h⟩⟩
  obtain⟨Qu,Bs⟩:=dR D;have Cy:=aj Qu;have F:Hid (Calls prog 85 #[.string s] w λe w'=>∃u x out i j o,e=.returned (.tuple #[.agg #[.slice u (List.length out) x,.slice i (List.length o) j,.string (Ax.read s).1],.int .i64 0,.int .i64 0])/\Hid (Below w.heap.size w w'/\dz w' u x out/\out.map QR.aw=Ax.bX s/\(∀r,r∈out->QR.rK w.heap.size r)/\w'.ownsRow w.heap.size 264 2 (.slice i o.length j) o.length (cA o)/\o.Perm (Ax.gX ((Ax.bX s).flatMap Ax.aI.atoms)).1)):=by
   refine XT.out.mono ?_;rintro e w' (⟨A,_⟩ | ⟨_,B,u,x,out,i,j,o,rfl,q1,q2,q3,q4,q5⟩)
   ·exact absurd D A
   ·exact⟨u,x,out,i,j,o,rfl,B,q1,q2,q3,q4,q5⟩
  generalize (Ax.read s).1=P at*;clear XT dR D Qu;generalize Ax.bX s=rs at*
  go_enter func47,ntmps47
  go_upto_region 4 with(go_at_call 85;refine F.out.mono ?_;rintro e w1 ⟨u,x,rl,i,j,o,rfl,H1⟩)
  obtain⟨w2,pZ⟩:∃w2,w2=w1.alloc (.cells #[.slice u rl.length x,.slice i o.length j,.string P] 177):=⟨_,rfl⟩;rw[<-pZ];have E:Hid (∀W,Below w2.heap.size w2 W->Below w1.heap.size w1 W/\w1.heap.size<W.heap.size/\W.cell? ⟨w1.heap.size,0,none⟩=some (.slice u rl.length x)/\W.cell? ⟨w1.heap.size,1,none⟩=some (.slice i o.length j)/\W.cell? ⟨w1.heap.size,2,none⟩=some (.string P)):=by
   intro W h;rw[pZ]at h;exact sJ h
  obtain⟨lH,aL,x0,x1,x2⟩:=E.out w2 (aaj _ _);clear pZ;have VN:Hid (∀W,Below w2.heap.size w2 W->Calls prog 87 #[.string P] W λe w'=>∃t:ByteArray,e=.returned (.string t)/\t.size=32/\Below w2.heap.size w2 w'/\w'.cell? ⟨w1.heap.size,0,none⟩=some (.slice u rl.length x)/\w'.cell? ⟨w1.heap.size,1,none⟩=some (.slice i o.length j)/\w'.cell? ⟨w1.heap.size,2,none⟩=some (.string P)):=by
   intro W J;refine(F0 W P (by omega)).mono ?_;rintro e w' ⟨t,rfl,ht,B⟩;have O:=J.trans (B.mono J.size);obtain⟨_,_,y⟩:=E.out w' O;exact⟨t,rfl,ht,O,y⟩
  have Zi:Hid (∀W t,Below w2.heap.size w2 W->Calls prog 86 #[.agg #[.slice u rl.length x,.slice i o.length j,.string P],.slice none 0 0,.string t] W λe w'=>∃pv,e=.returned (.pointer pv)/\(w'.cell? ⟨w1.heap.size,0,none⟩=some (.slice u rl.length x)/\w'.cell? ⟨w1.heap.size,1,none⟩=some (.slice i o.length j)/\w'.cell? ⟨w1.heap.size,2,none⟩=some (.string P))/\Hid (oQ W w.heap.size rs (.slice u rl.length x) (.slice i o.length j) P none 0 [] t (.returned (.pointer pv)) w'/\Below w2.heap.size w2 w')):=by
   intro W t J;obtain⟨g1,g2,U,g4,g5,g6⟩:=H1.out;have Ty:=(E.out W J).1;have UE:=GC W u x rl (g2.below Ty) (by rw[U];exact Cy.out) i o.length j P none 0 [] w.heap.size (aaK g1.size Ty.size) (bl.nil _ _) (by simp) (λ_ h=>by cases h) t;refine UE.mono ?_;intro e w' h;rw[U]at h;have O:=J.trans (h.1.mono J.size);obtain⟨_,_,y⟩:=E.out w' O;have hpv:∃pv,e=.returned (.pointer pv):=by
    have A:=h.2;split at A
    ·exact⟨none,A⟩
    ·obtain⟨rg,_,_,_,_,h8,_⟩:=A;exact⟨_,h8⟩
   obtain⟨pv,rfl⟩:=hpv;exact⟨pv,rfl,y,h,O⟩
  go_cut [8]from 19 (λv8 wx=>∃pv t W,v8=.pointer pv/\Hid (t.size=32/\Below w2.heap.size w2 W/\oQ W w.heap.size rs (.slice u rl.length x) (.slice i o.length j) P none 0 [] t (.returned (.pointer pv)) wx/\Below w2.heap.size w2 wx))
  ·
   go_region_held3 (λW=>W.cell? ⟨w1.heap.size,0,none⟩=some (.slice u rl.length x)/\W.cell? ⟨w1.heap.size,1,none⟩=some (.slice i o.length j)/\W.cell? ⟨w1.heap.size,2,none⟩=some (.string P)) (go_keep) (first | (go_at_call 87;refine(VN.out _ (by exact(aaj _ _).drew)).mono ?_;rintro e w3 ⟨t,rfl,ht,dp,k0,k1,k2⟩) | (go_at_call 86;refine(Zi.out _ _ (by exact dp)).mono ?_;rintro e w4 ⟨pv,rfl,⟨m0,m1,m2⟩,H4⟩))
   all_goals (go_wp2_with fail;go_meet;exact⟨pv,t,w3,rfl,ht,dp,H4.out⟩)
  ·
   obtain⟨pv,t,W,rfl,H⟩:=hcut;have HW:Hid (Below w.heap.size w wc/\Below w1.heap.size w1 wc):=by
    have A:=(E.out wc H.out.2.2.2).1;exact⟨H1.out.1.trans (A.mono H1.out.1.size),A⟩
   rcases N:Rf.tN rs 300 [] true []with _ | M
   ·rw[N]at I;obtain rfl:pv=none:=by
     have A:=H.out.2.2.1.2;simp only[adC,adp,N]at A;simpa using A
    clear H N Zi VN E x0 x1 x2
    go_wp2_with fail
    go_ret3
    exact I.out _ _ HW.out.1 rfl
   ·rw[N]at I;have A:=H.out.2.2.1.2;simp only[adC,adp,N]at A;obtain⟨rg,Z,mc,out,cv,e1,e2,e3,X,V,e6⟩:=A;obtain rfl:pv=some ⟨rg,0,none⟩:=by simpa using e1
    have HE:Hid (W.heap.size<=rg/\wc.heap[rg]?=some (.cells (dN (.slice u rl.length x) (.slice i o.length j) P (.slice none 0 0) (.slice Z out.length mc) cv ByteArray.empty t) 269 (0,0))/\bl wc w.heap.size Z mc out/\out.map FI.f=Rf.cS M/\wc.ownsRow W.heap.size 3 1 cv out.length (bM (Rf.cl (Rf.cS M) (rs.flatMap λr=>Rf.fI r.head (Rf.cS M) r.body [])))/\t.size=32/\w.heap.size<=W.heap.size):=⟨e2,e3,X,V,e6,H.out.1,aaK H1.out.1.size (aaK (E.out W H.out.2.1).1.size (OF _))⟩;clear H N Zi VN E x0 x1 x2 e1 e2 e3 X V e6
    go_wp2_with fail
    go_ret3
    obtain⟨g1,g2,U,g4,g5,g6⟩:=H1.out;obtain⟨e2,e3,X,V,e6,e7,e8⟩:=HE.out;refine I.out _ _ HW.out.1 ⟨rg,rl,o,out,t,.slice u rl.length x,.slice i o.length j,.slice none 0 0,.slice Z out.length mc,cv,rfl,by omega,⟨e3,⟨u,x,rfl,g2.below HW.out.2⟩,⟨i,j,rfl,aD (ae g5 HW.out.2) (IS _)⟩,⟨none,0,rfl,bl.nil _ _⟩,⟨Z,mc,rfl,X.base (IS _)⟩, ?_⟩,U,g6,V,e7, ?_⟩
    ·rw[V,U];exact aD e6 (IS _)
    ·exact QS g4 (λ_ h=>by cases h) (λf hf q hq=>((X.each f hf).lt q hq).1)
 ·have QM:=aj D;have cB:((Ax.read s).2.1 != 0)=true:=by simpa using D
  have F:Hid (Calls prog 85 #[.string s] w λe w'=>∃u on x i Y j,e=.returned (.tuple #[.agg #[.slice u on x,.slice i Y j,.string (Ax.read s).1],.int .i64 (Ax.read s).2.1,.int .i64 (Ax.read s).2.2])/\Hid (Below w.heap.size w w')):=by
   refine XT.out.mono ?_;rintro e w' (⟨_,B,u,on,x,i,Y,j,rfl⟩ | ⟨A,_⟩)
   ·exact⟨u,on,x,i,Y,j,rfl,B⟩
   ·exact absurd A D
  have I:Hid (∀w',Below w.heap.size w w'->pj w s (.returned (.tuple #[.pointer none,.int .i64 (Ax.read s).2.1,.int .i64 (Ax.read s).2.2])) w'):=λw' B=>⟨B,.inl ⟨D,rfl⟩⟩;generalize (Ax.read s).2.2=at_ at*;generalize (Ax.read s).2.1=er at*;generalize (Ax.read s).1=P at*;clear XT dR D
  go_enter func47,ntmps47
  go_wp2_with (go_at_call 85;refine F.out.mono ?_;rintro e w1 ⟨u,on,x,i,Y,j,rfl,H1⟩)
  go_ret3
  exact I.out _ (H1.out.alloc H1.out.size _)
/- axiomref: factsText. -/
theorem Rs{t}{S:ByteArray}(h:S.data.toList=t):S=⟨t.toArray⟩:=by
 apply ByteArray.ext;apply Array.toList_inj.1;simpa using h
theorem qm(S:ByteArray):S.size=S.data.toList.length:=by
 show S.data.size=_;simp
theorem zG(w fd fc l)(h:eV w fd fc l)(hl:l.length<=1000000000)(hB:(Rc.dK l).length<=10000000000):
 Calls prog 218 #[.slice fd l.length fc] w λe w'=>e=.returned (.string ⟨(Rc.dK l).toArray⟩)/\Below w.heap.size w w':=by
 have HF:=aj h;have E:Hid (Calls prog 174 #[.int .i64 (l.length:Nat)] w λe w'=>e=.returned (.string ⟨(Rc.ew l.length).toArray⟩)/\Hid (Below w.heap.size w w')):=uZ w l.length;have QK:Hid ((⟨(Rc.ew l.length).toArray⟩:ByteArray).data.toList++(l.drop 0).flatMap Rc.eL=Rc.dK l):=by
  show _=_;simp[Rc.dK]
 have D:Hid (∀W (s:ByteArray),s.size<=100000000000->Calls prog 173 #[.string s] W λe w'=>e=.returned (.string ⟨(Rc.bU s).toArray⟩)/\Hid (Below W.heap.size W w')):=λW s hs=>B3 W s hs;generalize hR:Rc.dK l=R at*;generalize (⟨(Rc.ew l.length).toArray⟩:ByteArray)=N at*;clear h hR
 go_enter func218,ntmps218
 go_wp2_with (go_at_call 174;refine E.out.mono ?_;rintro e w1 ⟨rfl,aV⟩)
 go_loopw [3,4] (λO iv wr=>∃(i:Nat) (S:ByteArray),i<=l.length/\iv=.int .i64 i/\O=.string S/\Hid (S.data.toList++(l.drop i).flatMap Rc.eL=R)/\Hid (Below w.heap.size w wr)) (λ_ iv _=>l.length-(intOf iv).toNat)
 ·exact⟨0,N,IS _,rfl,rfl,QK.out,aV⟩
 ·
  clear QK aV E;obtain⟨i,S,hi,rfl,rfl,H,t⟩:=hrel;by_cases B:i<l.length
  ·have gD:decide ((i:Int)<l.length)=true:=aap (by omega);have Q1:=IN B;obtain⟨g,go,rfl,hg,wQ,c0,c1⟩:=(HF.out.below t.out).at_ B;have i1:(0:Int)<=(i:Int):=by omega
   have i2:(i:Int)<l.length:=by omega
   have x:Hid (S.data.toList++(Rc.bU (l[i]).pred++((l[i]).args.flatMap Rc.bU++(l.drop (i+1)).flatMap Rc.eL))=R):=by
    have q:=H.out;rw[aan B,aaW,Rc.eL,aa8]at q;exact q
   have hlen:=abu List.length x.out;simp only[If]at hlen;have hS:S.size<=10000000000:=by rw[qm];omega
   have XI:(l[i]).pred.size<=10000000000:=by
    have:(l[i]).pred.size<=(Rc.bU (l[i]).pred).length:=by unfold Rc.bU;rw[If,qm];omega
    omega
   have u:Hid (Calls prog 173 #[.string (l[i]).pred] wr λe w'=>e=.returned (.string ⟨(Rc.bU (l[i]).pred).toArray⟩)/\Hid (Below w.heap.size w w')):=by
    refine(D.out wr _ (by omega)).mono ?_;rintro e w' ⟨rfl,V⟩;exact⟨rfl,t.out.trans (V.out.mono t.out.size)⟩
   have A:(⟨(Rc.bU (l[i]).pred).toArray⟩:ByteArray).size<=10000000000:=by
    show(Rc.bU (l[i]).pred).toArray.size<=_;rw[abz];omega
   have M:Hid ((S++(⟨(Rc.bU (l[i]).pred).toArray⟩:ByteArray)).data.toList++(((l[i]).args.drop 0).flatMap Rc.bU++(l.drop (i+1)).flatMap Rc.eL)=R):=by
    show _=R;rw[<-x.out,adv,aeo];simp
   have J:Hid (dr w (l[i]).av (l[i]).args):=HF.out.each _ Q1;have F:Hid (∀W,Below w.heap.size w W->g<W.heap.size/\W.cell? ⟨g,go+i*2+1,none⟩=some (l[i]).av):=by
    intro W hW;obtain⟨g',o',e,q1,_,_,q2⟩:=(HF.out.below hW).at_ B;simp only[AT,aco,aex]at e;obtain⟨rfl,rfl⟩:=e;exact⟨q1,q2⟩
   obtain⟨yd,yc,hy⟩:=J.out.shape;rw[hy]at c1 F J;generalize hZ:(l.drop (i+1)).flatMap Rc.eL=Z at*;have HZ:=aj hZ;clear hZ;generalize (⟨(Rc.bU (l[i]).pred).toArray⟩:ByteArray)=T1 at*;generalize (l[i]).pred=xp at*;generalize (l[i]).args=j at*;have nP:=J.out.le;clear H x hlen Q1 hy c1
   go_wp2_with (go_at_call 173;refine u.out.mono ?_;rintro e w5 ⟨rfl,I⟩)
   go_loopw [3,5] (λO U wq=>∃(k:Nat) (S:ByteArray),k<=j.length/\U=.int .i64 k/\O=.string S/\Hid (S.data.toList++((j.drop k).flatMap Rc.bU++Z)=R)/\Hid (Below w.heap.size w wq)) (λ_ U _=>j.length-(intOf U).toNat)
   ·exact⟨0,S++T1,IS _,rfl,rfl,M.out,I⟩
   ·
    clear M I u c0 hg t hS A XI;obtain⟨k,S,hk,rfl,rfl,H,t⟩:=hrel;obtain⟨hg,c1⟩:=F.out wr t.out;by_cases Y:k<j.length
    ·have ib:decide ((k:Int)<j.length)=true:=aap (by omega);obtain⟨yg,yo,rfl,hyg,ajd,c2⟩:=(J.out.below t.out).at Y;have i3:(0:Int)<=(k:Int):=by omega
     have i4:(k:Int)<j.length:=by omega
     have x:Hid (S.data.toList++(Rc.bU j[k]++((j.drop (k+1)).flatMap Rc.bU++Z))=R):=by
      have q:=H.out;rw[aan Y,aaW,aa8]at q;exact q
     have hlen:=abu List.length x.out;simp only[If]at hlen;have hS:S.size<=10000000000:=by rw[qm];omega
     have XI:(j[k]).size<=10000000000:=by
      have:(j[k]).size<=(Rc.bU j[k]).length:=by unfold Rc.bU;rw[If,qm];omega
      omega
     have u:Hid (Calls prog 173 #[.string j[k]] wr λe w'=>e=.returned (.string ⟨(Rc.bU j[k]).toArray⟩)/\Hid (Below w.heap.size w w')):=by
      refine(D.out wr _ (by omega)).mono ?_;rintro e w' ⟨rfl,V⟩;exact⟨rfl,t.out.trans (V.out.mono t.out.size)⟩
     have A:(⟨(Rc.bU j[k]).toArray⟩:ByteArray).size<=10000000000:=by
      show(Rc.bU j[k]).toArray.size<=_;rw[abz];omega
     have M:Hid ((S++(⟨(Rc.bU j[k]).toArray⟩:ByteArray)).data.toList++((j.drop (k+1)).flatMap Rc.bU++Z)=R):=by
      show _=R;rw[<-x.out,adv,aeo];simp
     generalize (⟨(Rc.bU j[k]).toArray⟩:ByteArray)=T2 at*;generalize j[k]=y at*;clear H x hlen
     go_wp2_with (go_at_call 173;refine u.out.mono ?_;rintro e w5 ⟨rfl,I⟩)
     go_roundw
     ·exact⟨k+1,S++T2,Y,by go_num,rfl,M.out,I⟩
     ·(simp[intOf];omega)
    ·have ib:decide ((k:Int)<j.length)=false:=aab (by omega);have B7:Hid (S.data.toList++Z=R):=by
      have q:=H.out;rw[abG (by omega),adI,acp]at q;exact q
     clear H
     go_wp2_with fail
     go_roundw
     ·exact⟨i+1,S,B,by go_num,rfl,by rw[HZ.out];exact B7,t⟩
     ·(simp[intOf];omega)
  ·have gD:decide ((i:Int)<l.length)=false:=aab (by omega);have X:S=⟨R.toArray⟩:=by
    have q:=H.out;rw[abG (by omega),adI,aby]at q;exact Rs q
   subst X;clear H
   go_wp2_with fail
   go_ret;exact⟨rfl,t.out⟩
theorem Rm{w:World}{rg rv pv gv mv cv pl bs hd}(h:w.heap[rg]?=some (.cells (dN rv pv pl gv mv cv bs hd) 269 (0,0))):
 (∀i,(w.setCell ⟨rg,7,none⟩ (.string i)).heap[rg]?=some (.cells (dN rv pv pl gv mv cv bs i) 269 (0,0)))/\(∀e,(w.setCell ⟨rg,6,none⟩ (.string e)).heap[rg]?=some (.cells (dN rv pv pl gv mv cv e hd) 269 (0,0))):=
 ⟨λi=>by rw[heap_setCell_same h];rfl,λe=>by rw[heap_setCell_same h];rfl⟩
theorem Ia(w rg){rv pv gv mv cv}(pl bs hd)(h:w.heap[rg]?=some (.cells (dN rv pv pl gv mv cv bs hd) 269 (0,0)))(cd cc ay gd gc gone)(hc:eV w cd cc ay)(hg:eV w gd gc gone)(L)(hL:L<=1000000000)(Er:(Rc.dK ay).length<=L)(eQ:(Rc.dK gone).length<=L)(AG:ay.length<=1000000)(jy:gone.length<=1000000)(A:bs.size<=100000000000000)(hh:hd.size<=32):
 Calls prog 169 #[.pointer (some ⟨rg,0,none⟩),.slice cd ay.length cc,.slice gd gone.length gc] w λe w'=>e=.returned (.tuple #[])/\∃vN ox:ByteArray,w'.heap[rg]?=some (.cells (dN rv pv pl gv mv cv vN ox) 269 (0,0))/\ox.size=32/\vN.size<=bs.size+2*L+50/\Kb [rg] w w':=by
 have Y:Hid (∀W (fd:Option Addr) (fc:Nat) (l:List FI),eV w fd fc l->l.length<=1000000->(Rc.dK l).length<=L->Below w.heap.size w W->Calls prog 218 #[.slice fd l.length fc] W λe w'=>∃t:ByteArray,e=.returned (.string t)/\t.size<=L/\Hid (Below w.heap.size w w')):=by
  intro W fd fc l hf y hB i;refine(zG W fd fc l (hf.below i) (by omega) (by omega)).mono ?_;rintro e w' ⟨rfl,A⟩;refine⟨_,rfl, ?_,i.trans (A.mono i.size)⟩;show(Rc.dK l).toArray.size<=L;rw[abz];exact hB
 have F:Hid (Calls prog 218 #[.slice cd ay.length cc] w λe w'=>∃t:ByteArray,e=.returned (.string t)/\t.size<=L/\Hid (Below w.heap.size w w')):=Y.out w cd cc ay hc AG Er (aaj _ _);have R4:Hid (∀W,Below w.heap.size w W->Calls prog 218 #[.slice gd gone.length gc] W λe w'=>∃t:ByteArray,e=.returned (.string t)/\t.size<=L/\Hid (Below w.heap.size w w')):=λW i=>Y.out W gd gc gone hg jy eQ i;have VN:Hid (∀W (s:ByteArray),s.size<=10000000000->Below w.heap.size w W->Calls prog 87 #[.string s] W λe w'=>∃t:ByteArray,e=.returned (.string t)/\t.size=32/\Hid (Below w.heap.size w w')/\w'.cell? ⟨rg,7,none⟩=some (.string hd)/\w'.frozen? ⟨rg,7,none⟩=false/\rg<w'.heap.size):=by
  intro W s hs i;refine(F0 W s hs).mono ?_;rintro e w' ⟨t,rfl,ht,A⟩;have B:=i.trans (A.mono i.size);obtain⟨_,_,_,_,_,_,_,E,fz,y⟩:=iA ((B.block _ (lt_of_heap h)).trans h);exact⟨t,rfl,ht,B,E,fz 7,y⟩
 have U:Hid (∀W,Below w.heap.size w W->W.cell? ⟨rg,7,none⟩=some (.string hd)/\rg<W.heap.size/\W.heap[rg]?=some (.cells (dN rv pv pl gv mv cv bs hd) 269 (0,0))):=by
  intro W i;have hblk:=(i.block _ (lt_of_heap h)).trans h;obtain⟨_,_,_,_,_,_,_,E,_,y⟩:=iA hblk;exact⟨E,y,hblk⟩
 clear hc hg Er eQ Y h
 go_enter func169,ntmps169
 go_upto_region 1 with(go_at_call 218;refine F.out.mono ?_;rintro e w1 ⟨t1,rfl,NG,H1⟩;refine Hid.out ?_)
 refine Lib.hid ?_;clear F
 go_upto_region 1 with(go_at_call 218;refine(R4.out _ H1.out).mono ?_;rintro e w2 ⟨t2,rfl,NN,X⟩)
 obtain⟨E,y,_⟩:=U.out w2 X.out;obtain⟨c,Z⟩:∃c,c=t1++t2:=⟨_,rfl⟩;have hcz:c.size<=2*L:=by rw[Z,acn];omega
 rw[<-Z];clear Z;obtain⟨M,x⟩:∃M,M=hd++c:=⟨_,rfl⟩;have D:M.size<=10000000000:=by rw[x,acn];omega
 have H:Hid (Calls prog 87 #[.string (hd++c)] w2 λe w'=>∃t:ByteArray,e=.returned (.string t)/\t.size=32/\Hid (Below w.heap.size w w')/\w'.cell? ⟨rg,7,none⟩=some (.string hd)/\w'.frozen? ⟨rg,7,none⟩=false/\rg<w'.heap.size):=VN.out w2 (hd++c) (by rw[<-x];exact D) X.out;clear x D VN R4
 go_upto_region 2 with(go_at_call 87;refine H.out.mono ?_;rintro e J ⟨q,rfl,zV,V,k7,kf,kl⟩)
 obtain⟨j,I⟩:∃j,j=J.setCell ⟨rg,7,none⟩ (.string q):=⟨_,rfl⟩;rw[<-I];have hblk:j.heap[rg]?=some (.cells (dN rv pv pl gv mv cv bs q) 269 (0,0)):=by
  rw[I];exact(Rm (U.out J V.out).2.2).1 q
 have O:Hid (Kb [rg] w j):=by
  show Kb _ _ _;rw[I];exact((Kb.refl [rg] w).below V.out).trans (Kb.setCell J ⟨rg,7,none⟩ _)
 obtain⟨_,_,_,_,_,_,d6,d7,fz,dl⟩:=iA hblk;have f6:=fz 6;have N:Hid (∀W,Below j.heap.size j W->Calls prog 173 #[.string c] W λe w'=>∃u:ByteArray,e=.returned (.string u)/\u.size<=2*L+10/\Hid (Below j.heap.size j w')/\w'.cell? ⟨rg,6,none⟩=some (.string bs)/\w'.cell? ⟨rg,7,none⟩=some (.string q)/\w'.frozen? ⟨rg,6,none⟩=false/\rg<w'.heap.size):=by
  intro W i;refine(B3 W c (by omega)).mono ?_;rintro e w' ⟨rfl,A⟩;have B:=i.trans (A.mono i.size);obtain⟨_,_,_,_,_,_,q6,q7,qz,ql⟩:=iA ((B.block _ (lt_of_heap hblk)).trans hblk);refine⟨_,rfl, ?_,B,q6,q7,qz 6,ql⟩;show(Rc.bU c).toArray.size<=_;rw[abz];have XU:=Rc.lN c.size (by omega);unfold Rc.bU;rw[If];have:c.data.toList.length=c.size:=by simp
  omega
 have VR:Hid (∀W b',Below j.heap.size j W->(W.setCell ⟨rg,6,none⟩ (.string b')).heap[rg]?=some (.cells (dN rv pv pl gv mv cv b' q) 269 (0,0))/\Kb [rg] w (W.setCell ⟨rg,6,none⟩ (.string b'))):=λW b' i=>⟨(Rm ((i.block _ (lt_of_heap hblk)).trans hblk)).2 b',(O.out.below i).trans (Kb.setCell W ⟨rg,6,none⟩ _)⟩;have uo:=zV;clear hblk I U V k7 kf kl H1 X E y fz H
 go_region_with (go_at_call 173;refine(N.out _ (by exact(aaj _ _).drew)).mono ?_;rintro e w5 ⟨u,rfl,hu,H5,e6,e7,ef,el⟩)
 all_goals
  (go_wp2_with fail
   go_end0;refine⟨rfl,bs++u++q,q,(VR.out w5 _ H5.out).1,uo, ?_,(VR.out w5 _ H5.out).2⟩;rw[acn,acn];omega)
