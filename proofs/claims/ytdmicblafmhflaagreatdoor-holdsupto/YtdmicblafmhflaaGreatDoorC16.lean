/- axiomlaw: Book.keep, walked. -/
import Derived.Test.YtdmicblafmhflaaGreatDoorC15
set_option linter.unusedSimpArgs false
set_option linter.unusedVariables false
set_option maxHeartbeats 4000000
set_option maxRecDepth 100000
namespace Go.Proofs.YtdmicblafmhflaaGreatDoor
open Go.Proofs.Tryz Go.RowKit Go.Maps
variable{Z:Array Value}{pl:ByteArray}{G:List GT}{Q:List Pd.Pr}{hd:List UInt8}{gm hm rc:Nat}{rd:Option Addr}{w w':World}
theorem Tryz.JZ:(prog.info? 37).map (λi=>(i.zero,i.size,i.bytes))=some (some (.slice none 0 0),1,24):=by kernel_rfl
theorem Tryz.Nr:(prog.info? 48).map (λi=>(i.zero,i.size,i.bytes))=some (some (.agg #[.string ByteArray.empty,.slice none 0 0]),2,40):=by kernel_rfl
theorem Ln(w0 w:World)(cZ:Below w0.heap.size w0 w)(hT:KX w0)(wb:Nat)(V U O e3 J D av B bW:Value)(n:Nat)(x AP)(h:Bk w w0.heap.size wb V U O e3 J D av B bW n x AP)(H)(E:Nat)(F)(bC:w.ownsRow w0.heap.size 48 2 (.slice H F.length E) F.length (ax F))
 (K3:∀f,f∈F->w.ownsRow w0.heap.size 9 1 f.av f.args.length (strCells f.args)/\f.args.length<=1000000/\∀q,f.av.ownBlock=some q->B.ownBlock≠some q/\bW.ownBlock≠some q/\∀p,p∈AP->p.v.ownBlock≠some q)(qQ:F.Pairwise λa b=>∀q,a.av.ownBlock=some q->b.av.ownBlock≠some q)
 (EF:∀q,(Value.slice H F.length E).ownBlock=some q->∀p,p∈x->p.v.ownBlock≠some q)(hFl:F.length<=1000)(hFP:x.length<=800000000)(hA:AP.length<=800000000)(hn:n<=900000000000):
 Calls prog 98 #[.pointer (some ⟨wb,5,none⟩),.slice H F.length E] w λe w'=>e=.returned (.tuple #[])/\∃wG nO iP ep X Y,Bk w' w0.heap.size wb V U O e3 J wG nO iP ep (n+F.length+1) (x++Y) (AP++X)/\List.length Y=4/\List.length X=4*F.length/\Kb (wb::(D.ownBlock.toList++av.ownBlock.toList++B.ownBlock.toList++bW.ownBlock.toList++(Value.slice H F.length E).ownBlock.toList++Lw.bs F)) w w'/\aZ w D wG/\aZ w av nO/\aZ w B iP/\aZ w bW ep:=by
 obtain⟨S,hS⟩:∃S,S=wb::(D.ownBlock.toList++av.ownBlock.toList++B.ownBlock.toList++bW.ownBlock.toList++(Value.slice H F.length E).ownBlock.toList++Lw.bs F):=⟨_,rfl⟩;have cT:∀i,i∈S↔i=wb\/D.ownBlock=some i\/av.ownBlock=some i\/B.ownBlock=some i\/bW.ownBlock=some i\/(Value.slice H F.length E).ownBlock=some i\/i∈Lw.bs F:=λi=>by
  rw[hS];simp only[BY,ZD,abh,or_assoc]
 have QO:∀i,i∈S->w0.heap.size<=i:=λi t=>by
  rcases(cT i).1 t with rfl | t | t | t | t | t | t
  ·exact h.rows.ge
  ·exact(h.rows.fl.lt i t).1
  ·exact(h.rows.al.lt i t).1
  ·exact(h.rows.fm.lt i t).1
  ·exact(h.rows.am.lt i t).1
  ·exact(bC.lt i t).1
  ·unfold Lw.bs at t;obtain⟨f,hf,e⟩:=acz.1 t;exact((K3 f hf).1.lt i e).1
 have lF:Hid (∀W,Kb S w W->Below w0.heap.size w0 W):=λW hW=>hW.aQ cZ cZ.size QO;have Ob:=aj cT;have HKS:Hid (∀W,Kb (wb::(av.ownBlock.toList++bW.ownBlock.toList++Lw.bs F)) w W->Kb S w W):=λW hW=>hW.mono (λi t _=>by
  simp only[BY,ZD,abh]at t;refine(cT i).2 ?_;rcases t with t | (t | t) | t
  ·exact .inl t
  ·exact .inr (.inr (.inl t))
  ·exact .inr (.inr (.inr (.inr (.inl t))))
  ·exact .inr (.inr (.inr (.inr (.inr (.inr t))))))
 have B7:=aj cZ.size;have HT:=aj hT;have ZH:=aj qQ;have VN:Hid (∀f,f∈F->f.args.length<=1000000):=λf hf=>(K3 f hf).2.1;have GX:=aj EF;have H0:Hid (Kp w w w0.heap.size wb V U O e3 J D av B bW n x AP F H E 0 av bW []):=by
  refine⟨by rw[aby];exact h,rfl,Kb.refl _ _,aZ.refl _ _,aZ.refl _ _,bC,λj hj _=>?_⟩;obtain⟨h1,_,h3⟩:=K3 _ (IN hj);rw[aby];exact⟨h1,h3⟩
 clear h bC K3 qQ EF hT cZ QO cT
 go_enter func98,ntmps98
 go_wp2_with fail
 go_loopw [4] (λi wr=>∃(k:Nat) (nO ep:Value) (X:List fh),k<=F.length/\i=.int .i64 k/\Hid (Kp w wr w0.heap.size wb V U O e3 J D av B bW n x AP F H E k nO ep X)) (λi _=>F.length-(intOf i).toNat)
 ·exact⟨0,av,bW,[],IS _,rfl,H0.out⟩
 ·
  rename World=>wo;obtain⟨k,PI,zo,X,hk,rfl,A⟩:=hrel;clear H0;by_cases aL:k<F.length
  ·have gD:decide ((k:Int)<F.length)=true:=aap (by omega);obtain⟨g,e,g1,g2,g3⟩:=aA A.out.row;have Er:=g3 _ _ (cP F k aL).2;obtain⟨r1,r2⟩:=A.out.rest k aL (OF _);have C5:=VN.out _ (IN aL);have HNM:Hid (Calls prog 171 #[.pointer (some ⟨wb,5,none⟩),(F[k]).av] wo λe w'=>e=.returned (.tuple #[])/\Hid (∃Tk DY Z,Kp w w' w0.heap.size wb V U O e3 J D av B bW n x AP F H E (k+1) Tk DY (X++Z))):=by
    obtain⟨ad,ac,nw⟩:=ah r1;have nj:=A.out;rw[nw]at r1 r2 ⊢;refine(Jz w0 wo (lF.out _ (HKS.out _ nj.kb)) HT.out wb V U O e3 J D PI B zo (n+k) x (AP++X) nj.bk ad ac r1 r2 C5 (by have:=nj.xl;rw[If];omega) (by omega)).mono ?_;rintro e w' ⟨rfl,Tk,DY,Z,q1,q2,q3,q4,q5,q6⟩;rw[<-nw]at q3 q6;exact⟨rfl,Tk,DY,Z,nj.step ZH.out aL q1 q2 q3 q4 q5 q6⟩
   subst e;obtain⟨ad,ac,nw⟩:=ah r1;rw[nw]at Er HNM;generalize (F[k]).args.length=an at*;clear r1 r2 g3 nw C5;have uP:(k:Int)<F.length:=by omega
   have hwk:IntKind.i64.wrap ((k:Int)+1)=(k:Int)+1:=by rw[aaR];omega
   go_wp2_with (go_at_call 171;refine HNM.out.mono ?_;rintro e w3 ⟨rfl,H3⟩;clear HNM Er)
   go_roundw
   ·
    obtain⟨Tk,DY,Z,h3⟩:=H3.out;exact⟨k+1,Tk,DY,X++Z,aL,by go_num,h3⟩
   ·(simp[intOf];omega)
  ·have gD:decide ((k:Int)<F.length)=false:=aab (by omega);obtain⟨N,hN⟩:∃N,N=n+F.length:=⟨_,rfl⟩;have jP:Hid (Bk wo w0.heap.size wb V U O e3 J D PI B zo N x (AP++X)):=by
    have h1:=A.out.bk;rw[show n+k=N by omega]at h1;exact h1
   have HXL:Hid (List.length X=4*F.length/\aZ w av PI/\aZ w bW zo/\N=n+F.length):=⟨by rw[A.out.xl];omega,A.out.fa,A.out.fk,hN⟩;have hNb:N<=900000001000:=by omega
   obtain⟨A1,hA1⟩:∃A1,A1=AP++X:=⟨_,rfl⟩;rw[<-hA1]at jP;obtain⟨-,-,-,-,v9,v10,I⟩:=jP.out.rows.cells;have vf:=v10 9;have dA:IntKind.i64.wrap ((N:Int)+1)=(N:Int)+1:=by rw[aaR];omega
   have H1:Hid (Bk (wo.setCell ⟨wb,9,none⟩ (.int .i64 ((N:Int)+1))) w0.heap.size wb V U O e3 J D PI B zo (N+1) x A1/\Kb S w (wo.setCell ⟨wb,9,none⟩ (.int .i64 ((N:Int)+1)))/\(wo.setCell ⟨wb,9,none⟩ (.int .i64 ((N:Int)+1))).ownsRow w0.heap.size 48 2 (.slice H F.length E) F.length (ax F)):=by
    have h1:=jP.out.count (N+1);rw[show((N+1:Nat):Int)=(N:Int)+1 by omega]at h1;refine⟨h1,(HKS.out _ A.out.kb).trans ((Kb.only (w:=wo)).mono (λi t _=>?_)), ?_⟩
    ·simp only[aae]at t;exact(Ob.out i).2 (.inl t)
    ·refine(Kb.only (w:=wo)).aR A.out.row (λb cur fz hb e=>?_);simp only[aae]at hb;subst hb;rw[jP.out.rows.aY]at e;simp at e
   clear A jP hN v10
   go_upto_region 5 with fail
   obtain⟨W0,zR⟩:∃W0,W0=wo.setCell ⟨wb,9,none⟩ (.int .i64 ((N:Int)+1)):=⟨_,rfl⟩;rw[<-zR]at H1;rw[<-zR];clear zR v9 vf I dA;obtain⟨-,-,-,-,v9,-,I⟩:=H1.out.1.rows.cells;have Ag:=λW (hW:Kb S w W)=>GZ (N+1) W (HT.out.below (lF.out W hW));rw[show((N+1:Nat):Int)=(N:Int)+1 by omega]at v9 Ag;have Ag:=aj Ag;have vS:¬9223372036854775807<4+(Lib.decDigits (N+1)).toArray.size:=by
    rw[abz];have:=Rj (N+1);omega
   obtain⟨dd,hdd⟩:∃dd,dd=(Lib.decDigits (N+1)).toArray:=⟨_,rfl⟩;rw[<-hdd]at Ag vS;clear hdd
   go_wp2_with (go_at_call 167;refine(Ag.out _ (by exact H1.out.2.1)).mono ?_;rintro e w3 ⟨rfl,dp⟩;have H2:Hid (Bk w3 w0.heap.size wb V U O e3 J D PI B zo (N+1) x A1/\Kb S w w3/\w3.ownsRow w0.heap.size 48 2 (.slice H F.length E) F.length (ax F)):=⟨H1.out.1.below dp,H1.out.2.1.below dp,ae H1.out.2.2 dp⟩;clear dp H1 v9 I)
   obtain⟨m,hm⟩:∃m:ByteArray,m=(⟨#[109,97,114,107]⟩:ByteArray)++⟨dd⟩:=⟨_,rfl⟩;rw[<-hm];clear hm vS Ag
   go_loopw [6] (λi wr=>∃k:Nat,k<=F.length/\i=.int .i64 k/\Hid (Bk wr w0.heap.size wb V U O e3 J D PI B zo (N+1) x A1/\Kb S w wr/\wr.ownsRow w0.heap.size 48 2 (.slice H F.length E) F.length (oz m k++(ax F).drop (k*2)))) (λi _=>F.length-(intOf i).toNat)
   ·exact⟨0,IS _,rfl,H2.out⟩
   ·
    clear H2 hk aL gD;obtain⟨k,hk,rfl,A⟩:=hrel;by_cases hkL:k<F.length
    ·have gD:decide ((k:Int)<F.length)=true:=aap (by omega);obtain⟨g,rfl,g1,g2,g3⟩:=aA A.out.2.2;obtain⟨cur,nk⟩:=wg A.out.2.2;have qB:(oz m k++(ax F).drop (k*2)).length=F.length*2:=A.out.2.2.1;have Jm:=aJ nk (k*2);have B4:=aJ nk (k*2+1);obtain⟨y0,Sl⟩:∃y,wr.cell? ⟨g,k*2,none⟩=some y:=⟨_,g3 _ _ (AS (by omega))⟩;obtain⟨y1,hy1⟩:∃y,wr.cell? ⟨g,k*2+1,none⟩=some y:=⟨_,g3 _ _ (AS (by omega))⟩;have uP:(k:Int)<F.length:=by omega
     have hwk:IntKind.i64.wrap ((k:Int)+1)=(k:Int)+1:=by rw[aaR];omega
     have HS:Hid (Bk ((wr.setCell ⟨g,k*2,none⟩ (.string m)).setCell ⟨g,k*2+1,none⟩ (.slice none 0 0)) w0.heap.size wb V U O e3 J D PI B zo (N+1) x A1/\Kb S w ((wr.setCell ⟨g,k*2,none⟩ (.string m)).setCell ⟨g,k*2+1,none⟩ (.slice none 0 0))/\((wr.setCell ⟨g,k*2,none⟩ (.string m)).setCell ⟨g,k*2+1,none⟩ (.slice none 0 0)).ownsRow w0.heap.size 48 2 (.slice (some ⟨g,0,none⟩) F.length E) F.length (oz m (k+1)++(ax F).drop ((k+1)*2))):=by
      have k1:∀W j u,Kb S W (W.setCell ⟨g,j,none⟩ u):=λW j u=>(Kb.only (w:=W)).mono (λi t _=>by
       simp only[aae]at t;exact(Ob.out i).2 (.inr (.inr (.inr (.inr (.inr (.inl (by rw[t];rfl)))))))
      )
      refine⟨(A.out.1.fact nk (GX.out g rfl) _ _).fact (aC _ nk _ _) (GX.out g rfl) _ _,(A.out.2.1.trans (k1 _ _ _)).trans (k1 _ _ _), ?_⟩;rw[<-OP (by rw[aX];omega)];exact DJ (DJ A.out.2.2)
     clear g3 nk A qB
     go_wp2_with fail
     go_roundw
     ·exact⟨k+1,hkL,by go_num,HS.out⟩
     ·(simp[intOf];omega)
    ·have gD:decide ((k:Int)<F.length)=false:=aab (by omega);obtain⟨wL,hwL⟩:∃wL,wL=wr:=⟨_,rfl⟩;have H3:Hid (Fa wL wr w0.heap.size wb V U O e3 J D PI B zo (N+1) x A1 m (.slice H F.length E) H F.length E D B [] ((x++[]).map fh.v) ((x++[]).map fh.k)):=by
      obtain⟨h1,h2,h3⟩:=A.out;rw[show k=F.length by omega,abG (by rw[aX];omega),aby]at h3;rw[hwL];exact⟨by rw[aby];exact h1.rows,by rw[aby];exact h1.fs,h1.ns,h1.off,h3,Kb.refl _ _,aZ.refl _ _,aZ.refl _ _,(λp hp=>by cases hp),λq hq=>⟨.inl hq,GX.out q hq⟩⟩
     have HL:Hid (Kb S w wL):=by
      rw[hwL];exact A.out.2.1
     have HSL:Hid (w0.heap.size<=wL.heap.size):=aaK B7.out HL.out.size;clear A GX hwL
     go_wp2_with fail
     go_loopw [1,7] (λlv i wr=>∃(j:Nat) (d:Option Addr) (c:Nat) (wG iP:Value) (Y:List fh),j<=4/\i=.int .i64 j/\lv=.slice d (F.length+j) c/\Hid (Y.length=j/\Fa wL wr w0.heap.size wb V U O e3 J D PI B zo (N+1) x A1 m (.slice H F.length E) d (F.length+j) c wG iP Y ((x++Y).map fh.v) ((x++Y).map fh.k))) (λ_ i _=>4-(intOf i).toNat)
     ·exact⟨0,H,E,D,B,[],IS _,rfl,rfl,rfl,H3.out⟩
     ·
      rename World=>wq;obtain⟨j,d,c,wG,iP,Y,hj,rfl,rfl,HJ⟩:=hrel;clear H3;by_cases hj4:j<4
      ·have Yc:decide ((j:Int)<4)=true:=aap (by omega);obtain⟨ad,ac,nw⟩:=ah HJ.out.2.rows.fl;obtain⟨kd,kc,Z6⟩:=ah HJ.out.2.rows.fm;obtain⟨fa,Uh⟩:∃fa,fa=(x++Y).map fh.v:=⟨_,rfl⟩;obtain⟨ks,QH⟩:∃ks,ks=(x++Y).map fh.k:=⟨_,rfl⟩;obtain⟨M,hM⟩:∃M,M=x.length+j:=⟨_,rfl⟩;have C5:fa.length=M:=by rw[Uh,aaL,If,HJ.out.1,hM]
       have Hj:ks.length=M:=by rw[QH,aaL,If,HJ.out.1,hM]
       rw[<-Uh,C5]at nw;rw[<-QH,Hj]at Z6;subst nw Z6;have Qi:Hid (Fa wL wq w0.heap.size wb V U O e3 J D PI B zo (N+1) x A1 m (.slice H F.length E) d (F.length+j) c (.slice ad M ac) (.slice kd M kc) Y fa ks):=by
        rw[Uh,QH];exact HJ.out.2
       have HX:Hid (Y.length=j/\fa++[.slice d (F.length+j) c]=(x++(Y++[(⟨d,F.length+j,c,m⟩:fh)])).map fh.v/\ks++[.string m]=(x++(Y++[(⟨d,F.length+j,c,m⟩:fh)])).map fh.k):=by
        refine⟨HJ.out.1, ?_, ?_⟩
        ·rw[Uh,<-aa8];exact(aa6 (f:=fh.v) (l₁:=x++Y) (l₂:=[⟨d,F.length+j,c,m⟩])).symm
        ·rw[QH,<-aa8];exact(aa6 (f:=fh.k) (l₁:=x++Y) (l₂:=[⟨d,F.length+j,c,m⟩])).symm
       have hMb:M<=900000004:=by omega
       clear HJ Uh QH hM;have cp:w0.heap.size<=wq.heap.size:=aaK HSL.out Qi.out.kb.size;obtain⟨i0,t,cE,ch,cz⟩:=abF Tryz.JZ;have iF:Hid (∀o,(wq.alloc o).ownsRow w0.heap.size 37 1 (.slice ad M ac) M fa):=λo=>by
        have h9:=Qi.out.rows.fl.alloc o;rw[C5]at h9;exact h9
       obtain⟨v5,-,-,-,-,v10,I⟩:=Qi.out.rows.cells
       go_upto_region 14 with(at_builtin;go_must (refine dC _ rfl (.tmp 54) (.tmp 56) 72 rfl w0.heap.size 37 i0 _ 1 24 Tryz.underlying72 t cE ch cz rfl (by decide) (.slice ad M ac) M fa rfl (iF.out _) ⟨wq.heap.size,0,none⟩ 1 1 [.slice d (F.length+j) c] rfl rfl (abC (By _ _)) (by simp[Value.oneCell']) (by decide) eI (by omega) (by simp;omega) ?_;intro ga ca w2 aO bT Hf _;obtain⟨q1,q2⟩:=Qi.out.a bT aO (by omega) Hf;have H2:=aj q2;have y0:w2.cell? ⟨wb,5,none⟩=some (.slice ad M ac):=(by rw[aq q1];rfl);have y1:=aJ q1 5;have y2:=lt_of_heap q1;clear bT aO Hf q1 q2))
       obtain⟨W3,xu⟩:∃W3,W3=w2.setCell ⟨wb,5,none⟩ (.slice (some ⟨ga,0,none⟩) (M+1) ca):=⟨_,rfl⟩;rw[<-xu]at H2;rw[<-xu];clear xu iF Qi v5 v10 I y0 y1 y2 t cE ch cz i0;have hs3:w0.heap.size<=W3.heap.size:=aaK HSL.out H2.out.kb.size;obtain⟨i0,t,cE,ch,cz⟩:=abF Tryz.jC;have iF:Hid (∀o,(W3.alloc o).ownsRow w0.heap.size 9 1 (.slice kd M kc) M ks):=λo=>by
        have h9:=H2.out.rows.fm.alloc o;rw[Hj]at h9;exact h9
       obtain⟨-,-,v7,-,-,v10,I⟩:=H2.out.rows.cells
       go_upto_region 15 with(at_builtin;go_must (refine dC _ rfl (.tmp 64) (.tmp 66) 46 rfl w0.heap.size 9 i0 _ 1 16 ab2 t cE ch cz rfl (by decide) (.slice kd M kc) M ks rfl (iF.out _) ⟨W3.heap.size,0,none⟩ 1 1 [.string m] rfl rfl (abC (By _ _)) (by simp[Value.oneCell']) (by decide) eI (by omega) (by simp;omega) ?_;intro gb cb w4 dL dv hf4 _;obtain⟨q1,q2⟩:=H2.out.b dv dL (by omega) hf4;have H4:=aj q2;have y0:w4.cell? ⟨wb,7,none⟩=some (.slice kd M kc):=(by rw[aq q1];rfl);have y1:=aJ q1 7;have y2:=lt_of_heap q1;clear dv dL hf4 q1 q2))
       obtain⟨W5,Mk⟩:∃W5,W5=w4.setCell ⟨wb,7,none⟩ (.slice (some ⟨gb,0,none⟩) (M+1) cb):=⟨_,rfl⟩;rw[<-Mk]at H4;rw[<-Mk];clear Mk iF H2 v7 v10 I y0 y1 y2 t cE ch cz i0;have hs5:w0.heap.size<=W5.heap.size:=aaK HSL.out H4.out.kb.size;obtain⟨i0,t,cE,ch,cz⟩:=abF Tryz.Nr;have iF:Hid (∀o,(W5.alloc o).ownsRow w0.heap.size 48 2 (.slice d (F.length+j) c) (F.length+j) (oz m (F.length+j))):=λo=>H4.out.row.alloc o;have hwj:IntKind.i64.wrap ((j:Int)+1)=(j:Int)+1:=by rw[aaR];omega
       go_wp2_with (at_builtin;go_must (refine dC _ rfl (.tmp 70) (.tmp 73) 37 rfl w0.heap.size 48 i0 _ 2 40 abX t cE ch cz rfl (by decide) (.slice d (F.length+j) c) (F.length+j) (oz m (F.length+j)) rfl (iF.out _) ⟨W5.heap.size,0,none⟩ 1 1 [.string m,.slice none 0 0] rfl rfl (abC (By _ _)) (by simp[Value.oneCell']) (by decide) eI (by omega) (by simp;omega) ?_;intro gc cc w6 qG nF WJ R8;have H6:Hid _:=H4.out.more (by omega) nF qG WJ R8;clear nF qG WJ R8))
       go_roundw
       ·
        refine⟨j+1,some ⟨gc,0,none⟩,cc,.slice (some ⟨ga,0,none⟩) (M+1) ca,.slice (some ⟨gb,0,none⟩) (M+1) cb,Y++[⟨d,F.length+j,c,m⟩],hj4,by go_num,rfl,by rw[If,HX.out.1];rfl, ?_⟩;rw[<-HX.out.2.1,<-HX.out.2.2];exact H6.out
       ·(simp[intOf];omega)
      ·have Yc:decide ((j:Int)<4)=false:=aab (by omega)
       go_wp2_with fail
       go_end0;obtain⟨h1,h2⟩:=HJ.out;obtain⟨x1,x2,x3,x4⟩:=HXL.out;rw[<-x4];refine⟨rfl,wG,PI,iP,zo,X,Y,by rw[<-hA1];exact⟨h2.rows,h2.fs,h2.ns,h2.off⟩,by omega,x1, ?_,h2.ff.mono HL.out.size,x2,h2.fk.mono HL.out.size,x3⟩;rw[<-hS];refine HL.out.trans' h2.kb (λi t _=>?_);simp only[BY,ZD,abh]at t;refine(Ob.out i).2 ?_;rcases t with t | (t | t) | t
       ·exact .inl t
       ·exact .inr (.inl t)
       ·exact .inr (.inr (.inr (.inl t)))
       ·exact .inr (.inr (.inr (.inr (.inr (.inl t)))))
/- facts.Table.Row of any names. -/
namespace Ax
theorem L9(s p):(Utf8.decode s p).2<=4:=by
 rw[il];unfold Lib.decodeN
 repeat' split
 all_goals (simp;try omega)
theorem uU(s):∀f p n,s.size<=p+f->p<=s.size->n<=(aN s f p n).2/\(aN s f p n).1+4*n<=p+4*(aN s f p n).2
 | 0,p,n,q,j=>by
  simp only[aN];omega
 | f+1,p,n,q,j=>by
  unfold aN;by_cases e:p<s.size
  ·rw[aa3 e];by_cases hs:stops s p=true
   ·rw[aa3 hs];simp only;omega
   ·rw[aaD hs];have w:=L9 s p;have u:=fW s p e;have i:=kH s p e;have t:=uU s f (p+(Utf8.decode s p).2) (n+1) (by omega) i;omega
  ·rw[aaD e];simp only;omega
theorem iB{s}(h:cF s=true):s.size<=24:=by
 unfold cF at h;rw[acK]at h;obtain⟨i,e⟩:=h;have i:(aK s (Lib.decodeGo s).1).1=2:=by simpa using i
 have e:(aK s (Lib.decodeGo s).1).2=s.size:=by
  have:=eq_of_beq e;omega
 rw[<-e];generalize (Lib.decodeGo s).1=r at i e ⊢;have j:∀k:Int,(word s k).2<=24:=by
  intro k;have q:=uU s s.size 0 0 (by omega) (IS _);unfold word;simp only;split
  ·exact IS _
  ·simp only;omega
 unfold aK at i ⊢
 repeat' split
 all_goals first
  | exact j _
  | (simp;done)
  | decide
end Ax
theorem Sg(w)(g pl:Nat)(names v)(hc:w.cell? ⟨g,1,none⟩=some (.int .i64 pl))(H:w.ownsRow 0 9 1 v names.length (strCells names))(hl:names.length=pl)(h3:names.length<=3)
 (hs:∀a,a∈names->a.size<=maxLen)(U:gJ w):
 Calls prog 74 #[.pointer (some ⟨g,0,none⟩),v] w λe w'=>e=.returned (.tuple (if names.all Ax.cF=true then #[.agg (Tb.de names),.bool true]else #[.agg (Tb.de []),.bool false]))/\Below w.heap.size w w':=by
 by_cases A:names.all Ax.cF=true
 ·rw[aa3 A];have h1:∀a,a∈names->Ax.cF a=true:=by simpa using A
  exact K1 w g pl names v hc H hl h3 h1 (λa ha=>aaK (Ax.iB (h1 a ha)) (by decide)) U
 rw[aaD A];subst hl;obtain⟨ad,ac,RM⟩:=ah H;subst RM;have HT:=aj U;have HV:=aj H;have HN:=aj hs;have Y:=aj A;have YL:=abT hc;clear U H hs A;have HS:Hid (oA w ((w.alloc (.cells #[.string ⟨#[]⟩,.string ⟨#[]⟩,.string ⟨#[]⟩] 119)).alloc (.cells #[.string ⟨#[]⟩,.string ⟨#[]⟩,.string ⟨#[]⟩] 119)) (names.take 0)):=
  ⟨aM.alloc (by simp) _,by rw[aay _ _ _ (by simp)];exact By w _,by
   have:=nH w (.cells #[.string ⟨#[]⟩,.string ⟨#[]⟩,.string ⟨#[]⟩] 119) (.cells #[.string ⟨#[]⟩,.string ⟨#[]⟩,.string ⟨#[]⟩] 119);simpa [Tb.de,Tb.mZ]using this⟩
 go_enter func74,ntmps74
 go_wp2_with fail
 go_loopw [20] (λi wr=>∃(k:Nat),k<=names.length/\i=.int .i64 k/\oA w wr (names.take k)/\(names.take k).all Ax.cF=true) (λi _=>names.length-(intOf i).toNat)
 ·exact⟨0,IS _,rfl,HS.out,by simp⟩
 ·
  obtain⟨k,hk,rfl,I,NA⟩:=hrel;have HR:=aj I;have Zr:=aj NA;clear NA;by_cases D:k<names.length
  ·have X:=ae HV.out I.be;obtain⟨g3,rfl,Cx,tF,M⟩:=aA X;have ca:wr.cell? ⟨g3,k,none⟩=some (.string names[k]):=M k _ (by rw[strCells,ab3,AS D];rfl);have F:=aj D;have Nd:k<3:=by omega
   have t:Hid (names.take (k+1)=names.take k++[names[k]]):=by
    have e9:names.take (k+1)=names.take k++[names[k]]:=by rw[aaZ,AS D];rfl
    exact e9
   have E:Hid (names[k].size<=maxLen):=HN.out _ (IN D);have N:Hid ((Tb.de (names.take k)).setIfInBounds k (.string names[k])=Tb.de (names.take (k+1))):=Tb.xF D h3;generalize names[k]=q at ca t E N;have J:Hid (Calls prog 130 #[.string q] wr λe j=>e=.returned (.bool (Ax.cF q))/\Hid (oA w j (names.take k))/\j.heap.size>=w.heap.size+2/\j.heap[w.heap.size]?=some (.cells #[.string ⟨#[]⟩,.string ⟨#[]⟩,.string ⟨#[]⟩] 119 (0,0))):=by
    refine(xX q wr (Utf8Tabs_below HT.out HR.out.be) E.out).mono ?_;rintro e j ⟨rfl,O⟩;have B:=HR.out.below O;exact⟨rfl,B,B.size,B.res⟩
   cases u:Ax.cF q with
   | true=>
    rw[u]at J;have AG:Hid (∀j,Hid (oA w j (names.take k))->Calls prog 102 #[.string q] j λe y=>e=.returned (.string q)/\Hid (oA w (y.setCell ⟨w.heap.size+1,k,none⟩ (.string q)) (names.take (k+1)))/\y.cell? ⟨w.heap.size+1,k,none⟩=some (.string (Tb.mZ (names.take k) k))/\y.frozen? ⟨w.heap.size+1,k,none⟩=false):=by
     intro j B;refine(uf q j (by have:=Ax.iB u;omega)).mono ?_;rintro e y ⟨rfl,O⟩;have W:=B.out.below O;refine⟨rfl, ?_, ?_, ?_⟩
     ·have:=W.set k q;rw[N.out]at this;exact⟨this.1,this.2.1,this.2.2⟩
     ·rw[aaB _ _ _ _ _ _ W.row];exact Tb.B1 _ Nd
     ·simp[World.frozen?,W.row]
    have YS:Hid ((names.take (k+1)).all Ax.cF=true):=by
     have e1:(names.take (k+1)).all Ax.cF=true:=by
      rw[t.out,List.all_append,Zr.out];simp[u]
     exact e1
    clear I X M u
    go_wp2_with (first | (go_at_call 130;refine J.out.mono ?_;rintro e j ⟨rfl,Z,L4,_⟩) | (go_at_call 102;refine(AG.out _ Z).mono ?_;rintro e y ⟨rfl,H6,U6,WJ⟩))
    go_roundw
    ·exact⟨k+1,F.out,by go_num,H6.out,YS.out⟩
    ·
     have V:=F.out;simp[intOf];omega
   | false=>
    rw[u]at J;clear I X M u N t
    go_upto_region 8 with(go_at_call 130;refine J.out.mono ?_;rintro e j ⟨rfl,Z,L4,x⟩)
    have d0:=mA x;have d1:=ow x;have d2:=rq x;have f0:∀o,j.frozen? ⟨w.heap.size,o,none⟩=false:=λo=>by simp[World.frozen?,x]
    have Hr:=aj x;clear x
    go_wp2_with fail
    have eB:=Z.out.be;refine aaT (v:=.tuple #[.agg (Tb.de []),.bool false]) ?_ rfl ⟨rfl,((eB.setCell (p:=⟨w.heap.size,0,none⟩) (OF _) _).setCell (p:=⟨w.heap.size,1,none⟩) (OF _) _).setCell (p:=⟨w.heap.size,2,none⟩) (OF _) _⟩;refine aeO (aU rfl rfl (jt Hr.out) aeb rfl (by kernel_rfl)) ?_;rfl
  ·exfalso;refine Y.out ?_;have e0:names.take k=names:=aaP (by omega);have V:=Zr.out;rw[e0]at V;exact V
/- Engine.changed: the tables as facts come and go. -/
theorem qS.update{A B t t'}(h:qS w gm (A++t::B))(q:Kb t.cD w w')(V:t'.ok w')(j:t'.nm=t.nm)(W:t'.g=t.g)(hf:∀b,b∈t'.cD->b∈t.cD\/w.heap.size<=b):qS w' gm (A++t'::B):=by
 have F:t∈A++t::B:=by simp
 have O:(A++t'::B).map GT.key=(A++t::B).map GT.key:=by simp[GT.key,j,W]
 have N:(A++t'::B).map GT.nm=(A++t::B).map GT.nm:=by simp[j]
 have E:=h.apart;rw[acO,acJ]at E;obtain⟨M,⟨J,I⟩,H⟩:=E;have aL:∀u,u∈A++t::B->∀b,b∈u.cD->b<w.heap.size:=λu i b y=>(h.cK u i).lt y;have Y:∀a,a∈A->∀x,x∈a.cD->¬x∈t.cD:=λa D=>H a D t (by simp);have X:∀a,a∈B->∀x,x∈a.cD->¬x∈t.cD:=λa D x U Z=>J a D x Z U;refine⟨?_, ?_, ?_,by rw[N];exact h.names, ?_⟩
 ·rw[O];refine h.map.kept q ?_;intro y;obtain⟨cur,T,e,_⟩:=(h.cK t F).types y;obtain⟨es,ck,e2⟩:=h.map.block;rw[e2]at e;cases e
 ·intro u i;rcases ZD.1 i with i | i
  ·exact(h.cK u (by simp[i])).kept q (Y u i)
  ·rcases BY.1 i with rfl | i
   ·exact V
   ·exact(h.cK u (by simp[i])).kept q (X u i)
 ·rw[acO,acJ];refine⟨M,⟨?_,I⟩, ?_⟩
  ·grind
  ·grind
 ·intro u i;rcases ZD.1 i with i | i
  ·exact h.short u (by simp[i])
  ·rcases BY.1 i with rfl | i
   ·rw[j];exact h.short t F
   ·exact h.short u (by simp[i])
/- What tables of what is given hold, by predicates; a state of nothing. -/
namespace Rd
abbrev eP:=ByteArray->List (List ByteArray)
def tI(R:eP)(p:ByteArray)(L:List (List ByteArray)):eP:=λq=>if q=p then L else R q
theorem Od(R:eP)(p L):tI R p L p=L:=by simp[tI]
theorem Cl{R:eP}{p q}(L)(h:q≠p):tI R p L q=R q:=by simp[tI,h]
theorem sL(L r):(Tb.put L r).length<=L.length+1:=by
 unfold Tb.put;split
 ·omega
 ·unfold Tb.ins;simp;omega
end Rd
structure GQ(G:List GT)(Q:List Pd.Pr)(R:Rd.eP):Prop where
 sub:∀t,t∈G->(t.nm,t.pl)∈Q/\t.L=R t.nm
 has:∀p,p∈Q->∃t,t∈G/\t.nm=p.1/\t.pl=p.2
theorem GQ.update{A B t t' R}(h:GQ (A++t::B) Q R)(D:((A++t::B).map GT.nm).Nodup)(y:t'.nm=t.nm)(x:t'.pl=t.pl):GQ (A++t'::B) Q (Rd.tI R t.nm t'.L):=by
 have i:∀u,u∈A\/u∈B->u.nm≠t.nm:=by grind
 refine⟨?_, ?_⟩
 ·intro u e;rcases ZD.1 e with e | e
  ·have:=h.sub u (by simp[e]);rw[Rd.Cl _ (i u (.inl e))];exact this
  ·rcases BY.1 e with rfl | e
   ·have:=h.sub t (by simp);rw[y,x,Rd.Od];exact⟨this.1,rfl⟩
   ·have:=h.sub u (by simp[e]);rw[Rd.Cl _ (i u (.inr e))];exact this
 ·intro p j;obtain⟨u,e,w,q⟩:=h.has p j;rcases ZD.1 e with e | e
  ·exact⟨u,by simp[e],w,q⟩
  ·grind
theorem Rv{mb T}(h:rP w w' mb Q.length Q T)(hs:Pd.qE Q)(E:Q.length<=1000)(x:∀p,p∈Q->p.1.size<=1000000):qS w' mb T/\GQ T Q (λ_=>[])/\∀b,b∈iT mb T->w.heap.size<=b:=by
 obtain⟨D,y,B⟩:=h.map;have u:T.map P7=Q.reverse:=by rw[h.mx,abS]
 have A:T.map GT.nm=(T.map P7).map Prod.fst:=by simp[P7,Function.comp_def]
 have hm:∀p,p∈T.map P7↔p∈Q:=λp=>by rw[u,List.mem_reverse]
 refine⟨⟨iM.of y (by omega) B,λt i=>(h.cK t i).1,h.apart, ?_, ?_⟩,⟨?_, ?_⟩, ?_⟩
 ·rw[A,u,List.map_reverse];exact List.pairwise_reverse.2 (List.Pairwise.imp (λh=>Ne.symm h) (gH hs))
 ·intro t i;exact x _ ((hm _).1 (aaN i))
 ·intro t i;obtain⟨_,p,g,rfl,_⟩:=h.cK t i;exact⟨(hm _).1 (aaN i),rfl⟩
 ·intro p q;obtain⟨t,i,e⟩:=aax.1 ((hm p).2 q);exact⟨t,i,by rw[<-e];rfl,by rw[<-e];rfl⟩
 ·intro b j;have F:=h.V9;unfold iT at j;rw[BY,aa9]at j;rcases j with rfl | ⟨t,i,j⟩
  ·omega
  ·obtain⟨_,p,g,rfl,H⟩:=h.cK t i;unfold GT.cD BQ at j;simp[Value.ownBlock]at j;omega
namespace Rd
open Classical in
def GB(Q:List Pd.Pr)(R:eP):List En.ba:=Q.flatMap λp=>(R p.1).map λr=>(p.1,r)
def SI(Q:List Pd.Pr)(R:eP):Nat:=(Q.map λp=>(R p.1).length).sum
theorem uG{α β:Type}{f g:α->List β}:∀l:List α,(∀x,x∈l->f x=g x)->l.flatMap f=l.flatMap g
 | [],_=>rfl
 | a::l,h=>by rw[aaW,aaW,h a (by simp),uG l (λx e=>h x (by simp[e]))]
theorem Qd{a b:List Nat}(h:a.Perm b):a.sum=b.sum:=by grind
theorem Ld{R:eP}(h:GQ G Q R)(w:(G.map GT.nm).Nodup):da Q G=GB Q R:=by
 unfold da GB;refine uG _ λp u=>?_;obtain⟨t,i,e,_⟩:=h.has p u;have q:=zM w i;rw[e]at q;have j:=(h.sub t i).2;rw[e]at j;rw[q,j]
theorem Md{R:eP}(h:GQ G Q R)(y:(G.map GT.nm).Nodup)(q:(Q.map Prod.fst).Nodup):eA G=SI Q R:=by
 have x:(G.map λt=>(t.nm,t.pl)).Perm Q:=by
  rw[List.perm_ext_iff_of_nodup]
  ·intro p;constructor
   ·intro j;obtain⟨t,i,rfl⟩:=aax.1 j;exact(h.sub t i).1
   ·intro j;obtain⟨t,i,B,A⟩:=h.has p j;grind
  ·grind
  ·exact List.Pairwise.of_map _ (λa b u e=>u (abu _ e)) q
 have w:eA G=((G.map λt=>(t.nm,t.pl)).map λp=>(R p.1).length).sum:=by
  unfold eA;rw[aey];congr 1;exact aep (λt i=>by simp[(h.sub t i).2])
 rw[w];unfold SI;exact Qd (x.map _)
end Rd
def uy:Array Value:=stZ (.string ⟨#[]⟩) (.slice none 0 0) (.map none) (.map none)
theorem tr:uy.size=36:=rfl
theorem Ef:∀v,v∈uy.toList->v.oneCell'=true:=by
 intro v e;simp[uy,stZ]at e;rcases e with rfl | rfl | rfl | rfl<;>rfl
def Sj(pl:ByteArray)(rv:Value)(gm:Nat)(hd:List UInt8)(Y:Prop)(Z:Nat->List HT->En.dH En.ba->Prop)(cs:Array Value)(ok:Bool)(b:Option Nat)(W:World):Prop:=
 (ok=false/\cs=uy/\Y)\/(ok=true/\∃hm T s,cs=cO pl rv gm hm hd/\wR W hm T s/\Z hm T s/\∀x,b=some x->∀y,y∈dx hm T->y≠x)
theorem Ql{α:Type}{R:α->α->Prop}(j:∀a b,R a b->¬R b a):∀(l1 l2:List α),l1.Pairwise R->l2.Pairwise R->(∀x,x∈l1↔x∈l2)->l1=l2
 | [],[],_,_,_=>rfl
 | [],b::l2,_,_,h=>absurd ((h b).2 (by simp)) (by simp)
 | a::l1,[],_,_,h=>absurd ((h a).1 (by simp)) (by simp)
 | a::l1,b::l2,t,q,h=>by
  rw[acJ]at t q;have e:a=b:=by
   rcases BY.1 ((h a).1 (by simp))with e | A
   ·exact e
   ·rcases BY.1 ((h b).2 (by simp))with e | y
    ·exact e.symm
    ·exact absurd (q.1 a A) (j _ _ (t.1 b y))
  subst e;have w:∀x,R a x->x≠a:=λx i e=>by
   subst e;exact j _ _ i i
  rw[Ql j l1 l2 t.2 q.2 (λx=>⟨λi=>?_,λi=>?_⟩)]
  ·rcases BY.1 ((h x).1 (by simp[i]))with e | u
   ·exact absurd e (w x (t.1 x i))
   ·exact u
  ·rcases BY.1 ((h x).2 (by simp[i]))with e | u
   ·exact absurd e (w x (q.1 x i))
   ·exact u
theorem wR.sX{T s}(h:wR w hm T s){x t f}(i:w.heap[x]?=some (.cells Z t f))(D:t≠117)(B:t≠119)(A:t≠3):∀b,b∈dx hm T->¬b∈[x]:=by
 intro b j e;simp only[BY,acC,aeH]at e;subst e;unfold dx at j;rcases BY.1 j with rfl | j
 ·obtain⟨es,F,e⟩:=h.map.block;rw[e]at i;cases i
 ·obtain⟨u,q,j⟩:=aa9.1 j;obtain⟨E,U,e,y⟩:=(h.cK u q).types j;rw[e]at i;simp at i;rcases y with rfl | rfl | rfl
  ·exact D i.2.1.symm
  ·exact B i.2.1.symm
  ·exact A i.2.1.symm
namespace Gs
theorem Sh{i e}(w:Tb.Ord i)(u:Tb.Ord e)(h:∀r,r∈i↔r∈e):i=e:=by
 refine Ql (R:=λa b=>Tb.cr a b<0) ?_ i e w u h;intro a b q j;have t:=Tb.jh q j;rw[Tb.mH]at t;omega
def ar(Q:List Pd.Pr)(p:ByteArray):Nat:=match Q.find? λx=>decide (x.1=p)with
 | some x=>x.2
 | none=>0
theorem VK(j:(Q.map Prod.fst).Nodup){p}(i:p∈Q):ar Q p.1=p.2:=by
 have t:Q.find? (λx=>decide (x.1=p.1))=some p:=by
  induction Q with
  | nil=>cases i
  | cons q Q ih=>
   rw[abn,adH]at j;rw[aeq];by_cases e:q.1=p.1
   ·grind
   ·grind
 unfold ar;rw[t]
end Gs
/- New at axiomkeep's text. -/
theorem eD{rv}(h:hd.length=32):(cO pl rv gm hm hd).size=36:=by simp[cO,Rc.dX,h]
theorem oM{n}:∀v,v∈(cO pl (.slice rd n rc) gm hm hd).toList->v.oneCell'=true:=by
 intro v e;have i:=Rc.wP hd;simp[cO]at e;rcases e with rfl | rfl | rfl | rfl | e
 ·rfl
 ·rfl
 ·rfl
 ·rfl
 ·exact i v e
theorem Sw{U}(h:U.length=36)(e:Z.size=37):(U.zipIdx).foldl (λcs x=>cs.setIfInBounds (0+x.snd) x.fst) Z=(U++Z.toList.drop 36).toArray:=by
 rw[yF 0 U 0 _ (by rw[h,e];decide)];simp[h]
/- New at axiomkeep's text, walked. -/
theorem TS{cs:Array Value}(h:cs.size=36)(e:Z.size=37):Array.foldl (λc x=>c.setIfInBounds x.snd x.fst) Z cs.zipIdx 0 36=(cs.toList++Z.toList.drop 36).toArray:=by
 have i:Array.foldl (λc (x:Value×Nat)=>c.setIfInBounds x.snd x.fst) Z cs.zipIdx 0 36=(cs.toList.zipIdx).foldl (λc x=>c.setIfInBounds (0+x.snd) x.fst) Z:=by
  have j:36=cs.zipIdx.size:=by simp[h]
  rw[j,<-Array.foldl_toList,Array.toList_zipIdx];simp
 rw[i];exact Sw (by rw[abP];exact h) e
theorem Fs{rv}:((cO pl rv gm hm hd).toList++[Value.slice none 0 0]).toArray=dw pl rv gm hm hd (.slice none 0 0):=by simp[cO,dw]
/- Engine.changed, walked. -/
theorem DL{n m}:(Value.slice rd n rc).ownBlock=(Value.slice rd m rc).ownBlock:=by cases rd<;>rfl
/- Engine.Apply: what it keeps, how long its log grows. -/
def T8(o:Obj):Prop:=∀c t f,o=.cells c t f->t≠109/\t≠5
structure wK(w w':World):Prop where
 kb:∃S,Kb S w w'/\∀b,b∈S->b<w.heap.size->∃cur t fz,w.heap[b]?=some (.cells cur t fz)/\(t=109\/t=5)
theorem wK.bD(h:Below w.heap.size w w'):wK w w':=⟨[],Kb.bD h [],by simp⟩
theorem wK.UJ{x}(h:Kb [x] w w'){e fz}(j:w.heap[x]?=some (.cells e 109 fz)):wK w w':=⟨[x],h,λb i _=>by
 simp only[BY,acC,aeH]at i;subst i;exact⟨e,_,fz,j,.inl rfl⟩⟩
theorem wK.MG{B}(h:Lib.OthersKept 5 none w w')(j:Below B w w'):wK w w':=by
 refine⟨(List.range w.heap.size).filter λk=>match w.heap[k]? with | some (.cells _ t _)=>decide (t=5) | _=>false,⟨j.os,j.tape,j.output,j.size, ?_⟩, ?_⟩
 ·intro k i q;rw[acR i];refine h k _ (acR i) (by simp) ?_;intro c fz e;refine q (List.mem_filter.2 ⟨List.mem_range.2 i, ?_⟩);rw[acR i,e];simp
 ·grind
theorem wK.heap(h:wK w w'){k:Nat}{o:Obj}(i:w.heap[k]?=some o)(u:T8 o):w'.heap[k]?=some o:=by
 obtain⟨S,A,y⟩:=h.kb;refine A.heap i ?_;intro x;obtain⟨j,t,fz,e,q⟩:=y k x (lt_of_heap i);rw[i]at e;obtain⟨a,b⟩:=u j t fz (adR e);rcases q with rfl | rfl
 ·exact a rfl
 ·exact b rfl
theorem wK.trans{w1 w2}(h:wK w w1)(k:wK w1 w2):wK w w2:=by
 obtain⟨B,y,H⟩:=h.kb;obtain⟨A,b1,b2⟩:=k.kb;refine⟨B++A,(y.mono (λi q _=>by simp[q])).trans (b1.mono (λi q _=>by simp[q])), ?_⟩;intro b E j;by_cases x:b∈B
 ·exact H b x j
 ·have F:b∈A:=by simpa [x]using E
  obtain⟨u,t,fz,e,D⟩:=b2 b F (aa7 j y.size);rw[y.block b j x]at e;exact⟨u,t,fz,e,D⟩
theorem wK.UY(h:wK w w'):∃S,Kb S w w'/\∀b o,w.heap[b]?=some o->T8 o->¬b∈S:=by
 obtain⟨S,D,B⟩:=h.kb;refine⟨S,D,λb o j u A=>?_⟩;obtain⟨i,t,fz,e,q⟩:=B b A (lt_of_heap j);rw[j]at e;obtain⟨x,y⟩:=u i t fz (adR e);rcases q with rfl | rfl
 ·exact x rfl
 ·exact y rfl
theorem ry{c t f}(i:t≠109)(e:t≠5):T8 (.cells c t f):=by grind [T8]
theorem qS.ekb(h:qS w gm G)(x:wK w w'):qS w' gm G:=by
 obtain⟨S,y,q⟩:=x.UY;refine h.kept y ?_;intro b i;unfold iT at i;rcases BY.1 i with rfl | i
 ·obtain⟨es,B,e⟩:=h.map.block;exact q b _ e (λ_ _ _ e=>by cases e)
 ·obtain⟨u,t,i⟩:=aa9.1 i;obtain⟨A,T,e,j⟩:=(h.cK u t).types i;refine q b _ e (ry ?_ ?_)
  ·rcases j with rfl | rfl<;>decide
  ·rcases j with rfl | rfl<;>decide
theorem wR.ekb{T s}(h:wR w hm T s)(t:wK w w'):wR w' hm T s:=by
 obtain⟨S,x,j⟩:=t.UY;refine h.kept x ?_;intro b i;unfold dx at i;rcases BY.1 i with rfl | i
 ·obtain⟨es,B,e⟩:=h.map.block;exact j b _ e (λ_ _ _ e=>by cases e)
 ·obtain⟨u,q,i⟩:=aa9.1 i;obtain⟨y,T,e,A⟩:=(h.cK u q).types i;refine j b _ e (ry ?_ ?_)
  ·grind
  ·grind
theorem bK.ekb{l}(h:bK w rd rc l)(q:wK w w'):bK w' rd rc l:=by
 obtain⟨S,y,x⟩:=q.kb;refine h.kept y ?_;intro b A U u e;obtain⟨B,t,fz,i,j⟩:=x b u (lt_of_heap e);rw[e]at i;simp at i;rw[i.2.1];rcases j with rfl | rfl<;>decide
variable{cs:Array Value}{pl p:ByteArray}{Q mx:List Pd.Pr}{hd:List UInt8}{x eg gm hm g:Nat}{m:Option (Nat×List GT)}{q:Option (Option Addr×List Pd.Pr×Nat)}{b:Option Nat}{rv lv:Value}{w1 W w' w:World}
structure AI(w1:World)(b:Option Nat)(W:World):Prop where
 be:Below w1.heap.size w1 W
 aY:∀x,b=some x->w1.heap.size<=x/\∃Z,W.heap[x]?=some (.cells Z 107 (0,0))/\Z.size=36
theorem AI.below(h:AI w1 b W)(e:Below W.heap.size W w'):AI w1 b w':=by
 refine⟨h.be.trans (e.mono h.be.size), ?_⟩;intro x j;obtain⟨u,Z,i,t⟩:=h.aY x j;exact⟨u,Z,by rw[e.block _ (lt_of_heap i)];exact i,t⟩
theorem AI.drew(h:AI w1 b W):AI w1 b W.drew:=h.below (aaj _ _).drew
theorem AI.alloc{Z}(h:AI w1 none W)(i:Z.size=36):AI w1 (some W.heap.size) (W.alloc (.cells Z 107)):=by
 have j:=h.below (w':=W.alloc (.cells Z 107)) aM;refine⟨j.be, ?_⟩;intro x e;simp only[AT]at e;subst e;exact⟨h.be.size,Z,By _ _,i⟩
theorem AI.stored(h:AI w1 (some x) W)(u:cs.size=36):Below w1.heap.size w1 (W.setCells x 0 cs.toList):=by
 obtain⟨j,Z,i,y⟩:=h.aY x rfl;obtain⟨t,e⟩:=dF x cs.toList 0 Z W i (by simp;omega);exact e.aQ h.be h.be.size (by simpa using j)
theorem Gx(h:AI w1 b W)(e:cs.size=36)(i:∀v,v∈cs.toList->v.oneCell'=true):I1 cs b W:=by
 cases b with
 | some x=>
  obtain⟨_,Z,u,t⟩:=h.aY x rfl;exact gS u t e i
 | none=>
  intro Z j;exact gS (By _ _) j e i
theorem jF{u}(h:w.heap[eg]?=some (.cells (dw pl rv gm hm hd lv) 109 u))(t:hd.length=32):
 w.cell? ⟨eg,0,none⟩=some (.string pl)/\w.cell? ⟨eg,1,none⟩=some rv/\w.cell? ⟨eg,2,none⟩=some (.map (some gm))/\w.cell? ⟨eg,3,none⟩=some (.map (some hm))/\w.rangeAt eg 4 (Rc.dP hd)/\w.cell? ⟨eg,36,none⟩=some lv:=by
 have e:(Rc.dP hd).length=32:=by rw[Rc.dX,t]
 refine⟨?_, ?_, ?_, ?_, ?_, ?_⟩
 ·rw[aaB _ _ _ _ _ _ h];rfl
 ·rw[aaB _ _ _ _ _ _ h];rfl
 ·rw[aaB _ _ _ _ _ _ h];rfl
 ·rw[aaB _ _ _ _ _ _ h];rfl
 ·intro j v i;have x:j<32:=by rw[<-e];exact(abt.1 i).1
  rw[aaB _ _ _ _ _ _ h];unfold dw;rw[aaV,aa8,abr (by simp),acx (by simp[e];omega)];simpa using i
 ·rw[aaB _ _ _ _ _ _ h];unfold dw;rw[aaV,abr (by simp[e])];simp[e]
theorem sG(h:hd.length=32):(dw pl rv gm hm hd lv).size=37:=by simp[dw,Rc.dX,h]
theorem LN{pl' rv' gm' hm' i}(h:w.heap[eg]?=some (.cells (dw pl rv gm hm hd lv) 109 (0,0)))(t:hd.length=32)(u:i.length=32):
 (w.setCells eg 0 (cO pl' rv' gm' hm' i).toList).heap[eg]?=some (.cells (dw pl' rv' gm' hm' i lv) 109 (0,0))/\Kb [eg] w (w.setCells eg 0 (cO pl' rv' gm' hm' i).toList):=by
 obtain⟨y,x⟩:=dF eg (cO pl' rv' gm' hm' i).toList 0 _ w h (by simp[eD u,sG t]);refine⟨?_,x⟩;rw[y];have e:(dw pl rv gm hm hd lv).toList.drop (0+(cO pl' rv' gm' hm' i).toList.length)=[lv]:=by
  rw[abP,eD u];unfold dw;have j:(Rc.dP hd).length=32:=by rw[Rc.dX,t]
  rw[adJ,List.drop_append_of_le_length (by simp[j])];rw[abD (by simp[j])];rfl
 rw[e];congr 2
theorem Yd(h:w.heap[eg]?=some (.cells (dw pl rv gm hm hd lv) 109 (0,0)))(j:hd.length=32)(v):
 (w.setCell ⟨eg,36,none⟩ v).heap[eg]?=some (.cells (dw pl rv gm hm hd v) 109 (0,0)):=by
 rw[aC w h 36 v];have i:(Rc.dP hd).length=32:=by rw[Rc.dX,j]
 have e:(dw pl rv gm hm hd lv).setIfInBounds 36 v=dw pl rv gm hm hd v:=by
  unfold dw;rw[IT,ab9 _ _ (by simp[i])];simp[i]
 rw[e]
theorem FK{o cs}(h:W.rangeAt x o cs)(e:x≠eg){k v}:(W.setCell ⟨eg,k,none⟩ v).rangeAt x o cs:=World.rangeAt_setCells_apart h eg k [v] (.inl e)
/- What an engine answers of the 36 facts. -/
theorem Nf{L}(e:Tb.Ord L)(f:List ByteArray->Nat)(r):Tb.sU L (L.map f) r=if Tb.eZ L r=true then f r else 0:=by
 unfold Tb.sU;by_cases h:Tb.eZ L r=true
 ·rw[aa3 h,aa3 h];have:=(Tb.gG e r).2 (Tb.bt.1 h);simp[List.getD,this]
 ·rw[aaD h,aaD h]
/- facts.Table.Row, Engine.row: with their refusals. -/
section
open Go.RowKit Go.Maps Go.WideMaps Go.WideElems
theorem iM.K4{mb m}(h:iM w mb m)(j:Ax.look m p=some g)(F:p.size<=100000000){t e}(B:prog.underlying t=some (.map 9 e))(A:(zeroValue e).run prog w=.ok (.pointer none) w):
 (Instr.lookup t (.map (some mb)) (.string p) true).run prog w=.ok (.tuple #[.pointer (some ⟨g,0,none⟩),.bool true]) w:=by
 obtain⟨n,D,E,H,x⟩:=h.has;obtain⟨v,ps,y,i⟩:=E.look_ok Tryz.fU B A (zd:=.lit (.int .i64 (-1))) (zp:=[]) rfl (key:=.string p) (kl:=bj p) (keyOf_string_mk abK eI);rw[(x p).2 g j]at i;have u:=(x p).1;rw[j]at u;rw[y,lX i,u];rfl
theorem iM.Ka{mb m}(h:iM w mb m)(E:Ax.look m p=none)(I:p.size<=100000000){t e}(B:prog.underlying t=some (.map 9 e))(A:(zeroValue e).run prog w=.ok (.pointer none) w):
 (Instr.lookup t (.map (some mb)) (.string p) true).run prog w=.ok (.tuple #[.pointer none,.bool false]) w:=by
 obtain⟨n,D,H,J,F⟩:=h.has;obtain⟨v,ps,y,i⟩:=H.look_ok Tryz.fU B A (zd:=.lit (.int .i64 (-1))) (zp:=[]) rfl (key:=.string p) (kl:=bj p) (keyOf_string_mk abK eI);have u:=(F p).1;rw[E]at u;have x:Maps.has D (bj p)=false:=u;rw[Maps.atKey_of_not_has x]at i;have j:v=.pointer none:=by
  unfold cU at i;split at i
  ·rfl
  ·simp at i
  ·cases i
 rw[y,j,x]
def vY(pl:Nat)(names:List ByteArray):Bool:=decide (names.length=pl)&&names.all Ax.cF
theorem O3(w g pl names){v}(t:w.cell? ⟨g,1,none⟩=some (.int .i64 pl))(i:w.ownsRow 0 9 1 v names.length (strCells names))(D:pl<=3)
 (hs:∀a,a∈names->a.size<=maxLen)(u:gJ w):
 Calls prog 74 #[.pointer (some ⟨g,0,none⟩),v] w λe w'=>e=.returned (.tuple (if vY pl names=true then #[.agg (Tb.de names),.bool true]else #[.agg (Tb.de []),.bool false]))/\Below w.heap.size w w':=by
 by_cases j:names.length=pl
 ·have e:vY pl names=names.all Ax.cF:=by unfold vY;rw[aap j,aev]
  rw[e];exact Sg w g pl names v t i j (by omega) hs u
 ·have e:vY pl names=false:=by unfold vY;rw[aab j,Bool.false_and]
  rw[e,aaD (by simp)];obtain⟨ad,ac,y⟩:=ah i;subst y;have x:=aH i;have E:(((names.length:Nat):Int) != ((pl:Nat):Int))=true:=by simpa using(by omega:¬((names.length:Int)=(pl:Int)))
  have F:=abT t;have B:Hid (Below w.heap.size w (w.alloc (.cells #[.string ⟨#[]⟩,.string ⟨#[]⟩,.string ⟨#[]⟩] 119))):=aM;have A:Hid ((w.alloc (.cells #[.string ⟨#[]⟩,.string ⟨#[]⟩,.string ⟨#[]⟩] 119)).heap[w.heap.size]?=some (.cells #[.string ⟨#[]⟩,.string ⟨#[]⟩,.string ⟨#[]⟩] 119 (0,0))):=By _ _;clear i u hs e j
  go_enter func74,ntmps74
  go_wp2_with fail
  refine aaT (v:=.tuple #[.agg (Tb.de []),.bool false]) ?_ rfl ⟨rfl,B.out⟩;refine aeO (aU rfl rfl A.out aeb rfl (by kernel_rfl)) ?_;rfl
theorem GR(w eg hm g n){m}(ad ac)(D:w.cell? ⟨eg,3,none⟩=some (.map (some hm)))(U:iM w hm m)(hl:Ax.look m p=some g)(hp:p.size<=100000000)(jy:g<w.heap.size)
 {A y x}(B)(O:∀W,Below w.heap.size w W->Calls prog 74 #[.pointer (some ⟨g,0,none⟩),.slice ad n ac] W λe w'=>e=.returned (.tuple #[.agg #[.string A,.string y,.string x],.bool B])/\Below W.heap.size W w'):
 Calls prog 41 #[.pointer (some ⟨eg,0,none⟩),.agg #[.string p,.slice ad n ac]] w λe w'=>e=.returned (.tuple #[.agg #[.string A,.string y,.string x],.bool B])/\Below w.heap.size w w':=by
 obtain⟨w0,u⟩:∃w0,w0=(w.alloc (.cells #[.string p,.slice ad n ac] 48)).alloc (.cells #[.string ⟨#[]⟩,.string ⟨#[]⟩,.string ⟨#[]⟩] 119):=⟨_,rfl⟩;have j:Below w.heap.size w w0:=by rw[u];exact aM.alloc (by simp) _
 have E:w0.heap[w.heap.size]?=some (.cells #[.string p,.slice ad n ac] 48 (0,0)):=by rw[u,aay _ _ _ (by simp)];exact By w _
 have I:w0.heap[w.heap.size+1]?=some (.cells #[.string ⟨#[]⟩,.string ⟨#[]⟩,.string ⟨#[]⟩] 119 (0,0)):=by rw[u];exact nH w _ _
 have t0:=mA E;have M:=ow E;have e3:=wj j D;have N:∀W:World,Below w.heap.size w W->(Instr.lookup 103 (.map (some hm)) (.string p) true).run prog W=.ok (.tuple #[.pointer (some ⟨g,0,none⟩),.bool true]) W:=λW t=>(U.below t).K4 hl hp adV (Tryz.zeroValue97 W);have aem:=N w0.drew j.drew;have Ey:Hid (∀W,Below w0.heap.size w0 W->Calls prog 74 #[.pointer (some ⟨g,0,none⟩),.slice ad n ac] W λe i=>e=.returned (.tuple #[.agg #[.string A,.string y,.string x],.bool B])/\Hid (Below w.heap.size w i/\i.heap[w.heap.size+1]?=some (.cells #[.string ⟨#[]⟩,.string ⟨#[]⟩,.string ⟨#[]⟩] 119 (0,0)))/\i.cell? ⟨w.heap.size,1,none⟩=some (.slice ad n ac)/\
  (∀o,o<3->(i.cell? ⟨w.heap.size+1,o,none⟩)=some (.string ⟨#[]⟩))/\∀o,i.frozen? ⟨w.heap.size+1,o,none⟩=false):=by
  intro W t;have X:Below w.heap.size w W:=j.trans (t.mono j.size);refine(O W X).mono ?_;rintro e i ⟨rfl,hb⟩;have H:Below w0.heap.size w0 i:=t.trans (hb.mono t.size);have F:i.heap[w.heap.size+1]?=some (.cells #[.string ⟨#[]⟩,.string ⟨#[]⟩,.string ⟨#[]⟩] 119 (0,0)):=by rw[H.block _ (lt_of_heap I)];exact I
  refine⟨rfl,⟨j.trans (H.mono j.size),F⟩,by rw[H.cell (abT M)];exact M, ?_, ?_⟩
  ·intro o ho;rw[aaB _ _ _ _ _ _ F]
   match o,ho with
   | 0,_=>rfl
   | 1,_=>rfl
   | 2,_=>rfl
  ·intro o;simp[World.frozen?,F]
 have AE:=abT D;clear N U O D E I
 go_enter func41,ntmps41
 go_wp2_with fail
 rw[<-u];clear u
 go_region
 go_wp2_with fail
 go_region_held3 (λw'=>w'.cell? ⟨w.heap.size,1,none⟩=some (.slice ad n ac)) (go_keep) ((go_at_call 74;refine(Ey.out _ (by exact(aaj _ _).drew.drew)).mono ?_;rintro e i ⟨rfl,V,d1,dc,J⟩;have d00:=dc 0 (by omega);have d01:=dc 1 (by omega);have d02:=dc 2 (by omega);have df0:=J 0;have df1:=J 1;have df2:=J 2))
 all_goals
  go_wp2_with fail
  refine aaT (v:=.tuple #[.agg #[.string A,.string y,.string x],.bool B]) ?_ rfl ⟨rfl,((V.out.1.setCell (p:=⟨w.heap.size+1,0,none⟩) (by simp) _).setCell (p:=⟨w.heap.size+1,1,none⟩) (by simp) _).setCell (p:=⟨w.heap.size+1,2,none⟩) (by simp) _⟩;refine aeO (aU rfl rfl (jt V.out.2) aeb rfl (by kernel_rfl)) ?_;rfl
theorem LW(w eg hm n){m}(ad ac)(u:w.cell? ⟨eg,3,none⟩=some (.map (some hm)))(A:iM w hm m)(E:Ax.look m p=none)(D:p.size<=100000000):
 Calls prog 41 #[.pointer (some ⟨eg,0,none⟩),.agg #[.string p,.slice ad n ac]] w λe w'=>e=.returned (.tuple #[.agg (Tb.de []),.bool false])/\Below w.heap.size w w':=by
 obtain⟨w0,j⟩:∃w0,w0=(w.alloc (.cells #[.string p,.slice ad n ac] 48)).alloc (.cells #[.string ⟨#[]⟩,.string ⟨#[]⟩,.string ⟨#[]⟩] 119):=⟨_,rfl⟩;have t:Below w.heap.size w w0:=by rw[j];exact aM.alloc (by simp) _
 have x:w0.heap[w.heap.size]?=some (.cells #[.string p,.slice ad n ac] 48 (0,0)):=by rw[j,aay _ _ _ (by simp)];exact By w _
 have i:w0.heap[w.heap.size+1]?=some (.cells #[.string ⟨#[]⟩,.string ⟨#[]⟩,.string ⟨#[]⟩] 119 (0,0)):=by rw[j];exact nH w _ _
 have M:=mA x;have e3:=wj t u;have F:(Instr.lookup 103 (.map (some hm)) (.string p) true).run prog w0.drew=.ok (.tuple #[.pointer none,.bool false]) w0.drew:=(A.below t.drew).Ka E D adV (Tryz.zeroValue97 _);have X:=abT u;have y:=aj t;have B:=aj i;have J:=mA i;have I:=ow i;have H:=rq i;have V:=aJ i 0;have U:=aJ i 1;have O:=aJ i 2;have N:=lt_of_heap i;clear A u x i t
 go_enter func41,ntmps41
 go_wp2_with fail
 rw[<-j];clear j
 go_region
 go_wp2_with fail
 first
 | (refine aaT (v:=.tuple #[.agg (Tb.de []),.bool false]) ?_ rfl ⟨rfl,(((y.out.drew).setCell (p:=⟨w.heap.size+1,0,none⟩) (by simp) _).setCell (p:=⟨w.heap.size+1,1,none⟩) (by simp) _).setCell (p:=⟨w.heap.size+1,2,none⟩) (by simp) _⟩;refine aeO (aU rfl rfl (jt (show w0.drew.heap[w.heap.size+1]?=_ from B.out)) aeb rfl (by kernel_rfl)) ?_;rfl)
 | (refine aaT (v:=.tuple #[.agg (Tb.de []),.bool false]) ?_ rfl ⟨rfl,y.out.drew⟩;refine aeO (aU rfl rfl (show w0.drew.heap[w.heap.size+1]?=_ from B.out) aeb rfl (by kernel_rfl)) ?_;rfl)
def nf(Q:List Pd.Pr)(p:ByteArray)(names:List ByteArray):Bool:=Q.any λx=>decide (x.1=p)&&vY x.2 names
structure jl(w:World)(eg:Nat)(rs:List Ax.aI)(pl:ByteArray)(Q:List Pd.Pr)(R:Rd.eP)(s:En.dH En.ba)(rv:Value)(gm hm:Nat)(l:List MR)(G:List GT)(T:List HT)(hd:List UInt8)(lv:Value):Prop where
 aY:w.heap[eg]?=some (.cells (dw pl rv gm hm hd lv) 109 (0,0))
 rules:∃rd rc,rv=.slice rd l.length rc/\bK w rd rc l
 map:l.map MR.aw=rs
 Ai:qS w gm G
 gq:GQ G Q R
 jE:wR w hm T s
 mx:T.map mK=Q.reverse
 Mp:Pd.qE Q
 qs:∀p,p∈Q↔p∈bo rs
 YP:bB rs (da Q G)=some s
 uo:hd.length=32
theorem jl.below{rs R s l G T}(h:jl w eg rs pl Q R s rv gm hm l G T hd lv)(i:Below w.heap.size w w'):jl w' eg rs pl Q R s rv gm hm l G T hd lv:=by
 obtain⟨rd,rc,e,j⟩:=h.rules;exact⟨(i.block _ (lt_of_heap h.aY)).trans h.aY,⟨rd,rc,e,j.below i⟩,h.map,h.Ai.below i,h.gq,h.jE.below i,h.mx,h.Mp,h.qs,h.YP,h.uo⟩
end
/- Engine of any program: row, Ask, All. -/
section
variable {w:World} {eg:Nat} {rs:List Ax.aI} {pl:ByteArray} {Q:List Pd.Pr} {R:Rd.eP} {s:En.dH En.ba} {rv:Value} {gm hm:Nat} {l:List MR} {G:List GT} {T:List HT} {hd:List UInt8} {lv:Value}
theorem jl.mem(h:jl w eg rs pl Q R s rv gm hm l G T hd lv){u}(i:u∈T):(u.nm,u.pl)∈Q:=by
 have e:mK u∈T.map mK:=aaN i;rw[h.mx,List.mem_reverse]at e;exact e
theorem jl.has(h:jl w eg rs pl Q R s rv gm hm l G T hd lv){p}(j:p∈Q):∃u,u∈T/\u.nm=p.1/\u.pl=p.2:=by
 have t:p∈T.map mK:=by rw[h.mx,List.mem_reverse];exact j
 obtain⟨u,i,e⟩:=aax.1 t;exact⟨u,i,abu Prod.fst e,abu Prod.snd e⟩
theorem RH(i:(Q.map Prod.fst).Nodup){n}(t:(p,n)∈Q)(names):nf Q p names=vY n names:=by
 unfold nf;rw[abH,ady];constructor
 ·rintro⟨x,j,e⟩;rw[acK,abW]at e;have:x=(p,n):=by
   have y:=Gs.VK i j;have u:=Gs.VK i t;rw[e.1]at y;simp only at u;grind
  rw[this]at e;exact e.2
 ·grind
theorem NT(j:∀n,¬(p,n)∈Q)(names):nf Q p names=false:=by
 unfold nf;rw[acZ];intro h;rw[ady]at h;obtain⟨x,i,e⟩:=h;rw[acK,abW]at e;grind
theorem jl.look(h:jl w eg rs pl Q R s rv gm hm l G T hd lv)(p):(∃u,u∈T/\u.nm=p/\Ax.look (T.map HT.pk) p=some u.g)\/((∀n,¬(p,n)∈Q)/\Ax.look (T.map HT.pk) p=none):=by
 by_cases hm:∃u,u∈T/\u.nm=p
 ·obtain⟨u,i,rfl⟩:=hm;exact .inl ⟨u,i,rfl,sy h.jE.names i⟩
 ·refine .inr ⟨λn t=>?_, ?_⟩
  ·obtain⟨u,i,e,_⟩:=h.has t;exact hm ⟨u,i,e⟩
  ·refine Ax.mR _ _ ?_;intro x j e;obtain⟨u,i,rfl⟩:=aax.1 j;exact hm ⟨u,i,e⟩
theorem jl.row(h:jl w eg rs pl Q R s rv gm hm l G T hd lv)(H:∀p,p∈Q->p.2<=3)(p names av)(D:w.ownsRow 0 9 1 av names.length (strCells names))(y:p.size<=100000000)(hs:∀a,a∈names->a.size<=maxLen)(J:gJ w):
 Calls prog 41 #[.pointer (some ⟨eg,0,none⟩),.agg #[.string p,av]] w λe w'=>e=.returned (.tuple (if nf Q p names=true then #[.agg (Tb.de names),.bool true]else #[.agg (Tb.de []),.bool false]))/\Below w.heap.size w w':=by
 obtain⟨_,_,_,t,_,_⟩:=jF h.aY h.uo;obtain⟨ad,ac,rfl⟩:=ah D;rcases h.look p with⟨u,x,rfl,i⟩ | ⟨I,i⟩
 ·have F:=h.mem x;have B:=lt_of_heap ((h.jE.cK u x).qw.aY);have j:∀W,Below w.heap.size w W->Calls prog 74 #[.pointer (some ⟨u.g,0,none⟩),.slice ad names.length ac] W λe w'=>e=.returned (.tuple (if vY u.pl names=true then #[.agg (Tb.de names),.bool true]else #[.agg (Tb.de []),.bool false]))/\Below W.heap.size W w':=λW A=>O3 W u.g u.pl names (((h.jE.cK u x).below A).qw.jG.2.2.1) (ae D A) (H _ F) hs (Utf8Tabs_below J A);rw[RH (gH h.Mp) F];cases E:vY u.pl names with
  | true=>
   rw[E]at j;exact GR w eg hm u.g names.length ad ac t h.jE.map i y B true j
  | false=>
   rw[E]at j;exact GR w eg hm u.g names.length ad ac t h.jE.map i y B false j
 ·rw[NT I];exact LW w eg hm names.length ad ac t h.jE.map i y
theorem jl.abj(h:jl w eg rs pl Q R s rv gm hm l G T hd lv)(B:∀p,p∈Q->p.2<=3)(p names av)(u:w.ownsRow 0 9 1 av names.length (strCells names))(hp:p.size<=100000000)(hs:∀a,a∈names->a.size<=maxLen)(E:gJ w)(D:nf Q p names=false):
 Calls prog 21 #[.pointer (some ⟨eg,0,none⟩),.agg #[.string p,av]] w λe w'=>e=.returned (.tuple #[.agg #[.bool false,.bool false,.int .i64 0],.int .i64 6])/\Below w.heap.size w w':=by
 obtain⟨ad,ac,J⟩:=ah u;subst J;obtain⟨w1,t⟩:∃w1,w1=(w.alloc (.cells #[.string p,.slice ad names.length ac] 48)).alloc (.cells #[.bool false,.bool false,.int .i64 0] 52):=⟨_,rfl⟩;have j:Below w.heap.size w w1:=by rw[t];exact aM.alloc (by simp) _
 have y:w1.heap[w.heap.size]?=some (.cells #[.string p,.slice ad names.length ac] 48 (0,0)):=by
  rw[t,aay _ _ _ (by simp)];exact By w _
 have A:w1.heap[w.heap.size+1]?=some (.cells #[.bool false,.bool false,.int .i64 0] 52 (0,0)):=by rw[t];exact nH w _ _
 have Hl:Hid (Calls prog 41 #[.pointer (some ⟨eg,0,none⟩),.agg #[.string p,.slice ad names.length ac]] w1 λe w'=>e=.returned (.tuple #[.agg #[.string ⟨#[]⟩,.string ⟨#[]⟩,.string ⟨#[]⟩],.bool false])/\Hid (Below w.heap.size w w')/\TH w w'/\w.heap.size+1<w'.heap.size):=by
  have F:=(h.below j).row B p names _ (ae u j) hp hs (Utf8Tabs_below E j);rw[D]at F;refine F.mono ?_;rintro e w' ⟨rfl,x⟩;have hl:=lt_of_heap A;exact⟨rfl,j.trans (x.mono j.size),QW A x,aa7 hl x.size⟩
 obtain⟨x0,x1,_⟩:=bG y;have DB:=lt_of_heap y;clear h B u hs E D j y A
 go_enter func21,ntmps21
 go_upto_region 1 with fail
 rw[<-t];clear t
 go_wp2_with (go_at_call 41;refine Hl.out.mono ?_;rintro e w2 ⟨rfl,M,i,I⟩;have kc0:=i.c0;have X:=i.c1;have V:=i.c2;have U:=i.fz 0;have O:=i.fz 1;have N:=i.fz 2)
 have H:=((M.out.setCell (p:=⟨w.heap.size+1,0,none⟩) (by simp) (.bool false)).setCell (p:=⟨w.heap.size+1,1,none⟩) (by simp) (.bool false)).setCell (p:=⟨w.heap.size+1,2,none⟩) (by simp) (.int .i64 0);refine aaT (v:=.tuple #[.agg #[.bool false,.bool false,.int .i64 0],.int .i64 6]) ?_ rfl ⟨rfl,H.alloc H.size _⟩;refine aeO (aU rfl rfl ((aay _ _ _ (by simp[World.setCell];exact I)).trans (jt i.aY)) Tryz.underlying52 rfl (by kernel_rfl)) ?_;rfl
theorem jl.Xe(h:jl w eg rs pl Q R s rv gm hm l G T hd lv)(N:∀p,p∈Q->p.2<=3)(hf:s.found.length<=200)(IP:∀p,(R p).length<=999999)(p names av)(M:w.ownsRow 0 9 1 av names.length (strCells names))(hp:p.size<=100000000)(V:gJ w)(j:nf Q p names=true):
 Calls prog 21 #[.pointer (some ⟨eg,0,none⟩),.agg #[.string p,av]] w λe w'=>e=.returned (.tuple #[.agg #[.bool (Tb.eZ (R p) (Tb.fT names)),.bool (Tb.eZ s.found (p,Tb.fT names)),.int .i64 (s.count (p,Tb.fT names):Nat)],.int .i64 0])/\Below w.heap.size w w':=by
 obtain⟨_,_,J,I,_,_⟩:=jF h.aY h.uo;rcases h.look p with⟨u,i,rfl,O⟩ | ⟨fP,O⟩
 ·have y:=h.mem i;rw[RH (gH h.Mp) y]at j;unfold vY at j;rw[acK,abW]at j;have X:=N _ y;simp only at X;obtain⟨t,D,A,_⟩:=h.gq.has _ y;simp only at A;have E:t.L=R u.nm:=by rw[(h.gq.sub t D).2,A]
  have B:∀a,a∈names->Ax.cF a=true:=by simpa using j.2
  have F:=UB w eg gm hm G T s t u u.nm names av J I h.Ai h.jE D i A rfl (h.jE.short u i) (by rw[E];exact IP _) (aaK (h.jE.my u i) (by omega)) M j.1 (by omega) B (λa U=>aaK (Ax.iB (B a U)) (by omega)) V;have H:Tb.eZ u.L (Tb.fT names)=Tb.eZ s.found (u.nm,Tb.fT names):=by
   rw[abH,Tb.bt,Tb.bt];exact h.jE.rows u i _
  have e3:Tb.sU u.L u.C (Tb.fT names)=s.count (u.nm,Tb.fT names):=by
   rw[h.jE.qq u i,Nf (h.jE.cK u i).qw.ord (λr=>s.count (u.nm,r)),H];by_cases x:(u.nm,Tb.fT names)∈s.found
   ·rw[aa3 (Tb.bt.2 x)]
   ·rw[aaD (λe=>x (Tb.bt.1 e)),h.jE.zero _ x]
  rw[H,e3,E]at F;exact F
 ·rw[NT fP]at j;cases j
theorem jl.all(h:jl w eg rs pl Q R s rv gm hm l G T hd lv)(E:∀p,p∈Q->1<=p.2/\p.2<=3)(hf:s.found.length<=200)(p)(J:p.size<=100000000):
 Calls prog 17 #[.pointer (some ⟨eg,0,none⟩),.string p] w λe w'=>Below w.heap.size w w'/\((e=.returned (.tuple #[.slice none 0 0,.int .i64 6])/\∀n,¬(p,n)∈Q)\/∃u lb F,u∈T/\u.nm=p/\e=.returned (.tuple #[.slice (some ⟨lb,0,none⟩) (List.length F) (List.length F),.int .i64 0])/\bJ w' (some ⟨lb,0,none⟩) F.length F/\F.map FI.f=u.L.map (λr=>(p,r.take u.pl))/\w.heap.size<=lb/\(∀f,f∈F->∀q,f.av.ownBlock=some q->w.heap.size<=q)/\F.Pairwise (λa b=>∀q,a.av.ownBlock=some q->b.av.ownBlock≠some q)):=by
 obtain⟨_,_,_,k3,_,_⟩:=jF h.aY h.uo;have AE:=lt_of_heap h.aY;rcases h.look p with⟨u,t,rfl,x⟩ | ⟨M,x⟩
 ·have V:=h.jE.map.K4 x J adV (Tryz.zeroValue97 w);have i:=E _ (h.mem t);simp only at i;have X:Hid (Calls prog 40 #[.pointer (some ⟨u.g,0,none⟩)] w λe w'=>∃lb F,e=.returned (.slice (some ⟨lb,0,none⟩) (List.length F) (List.length F))/\Hid (bJ w' (some ⟨lb,0,none⟩) F.length F/\F.map FI.f=u.L.map (λr=>(u.nm,r.take u.pl))/\Below w.heap.size w w'/\w.heap.size<=lb/\(∀f,f∈F->∀q,f.av.ownBlock=some q->w.heap.size<=q)/\F.Pairwise (λa b=>∀q,a.av.ownBlock=some q->b.av.ownBlock≠some q))):=by
   refine(K9 w u.g u.nm u.pl u.rd u.rc u.L (h.jE.cK u t).qw (by have:=h.jE.my u t;omega) i.1 i.2).mono ?_;rintro e w' ⟨lb,F,rfl,D,I,B,A,y⟩;refine⟨lb,F,by rw[I], ?_,B,A,y⟩;rw[I];exact D
  have HU:=aj t;clear h E x t;generalize u.g=ug at*;generalize j:u.nm=un at*;have H:=aj j;clear j
  go_enter func17,ntmps17
  go_wp2_with (go_at_call 40;refine X.out.mono ?_;rintro e w1 ⟨lb,F,rfl,H1⟩)
  go_ret2
  obtain⟨D,B,A,y,U,O⟩:=H1.out;exact⟨A,.inr ⟨u,lb,F,HU.out,H.out,rfl,D,B,y,U,O⟩⟩
 ·have V:=h.jE.map.Ka x J adV (Tryz.zeroValue97 w);have N:=aj M;clear h E x M
  go_enter func17,ntmps17
  go_wp2_with fail
  go_ret2
  exact⟨aaj _ _,.inl ⟨rfl,N.out⟩⟩
end
/- state.Make, with its refusals. -/
theorem Fv(w:World)(pl:ByteArray)(rd)(rc:Nat)(l)(O:gW w rd rc l)(Js:l.length<=8)(y:Pd.One (bo (l.map MR.aw)))(V:∀p,p∈bo (l.map MR.aw)->p.1.size<=1000000)
 (gm:Nat)(G)(F:qS w gm G)(M:∀p,p∈bo (l.map MR.aw)->p.1∈G.map GT.nm)(PJ:∀t,t∈G->t.L.length<=1000)(hGs:eA G<=1000000)(hd)(hhd:hd.length=32):
 Calls prog 57 #[.agg #[.string pl,.slice rd l.length rc],.map (some gm),.agg (Rc.dP hd).toArray] w λe w'=>Below w.heap.size w w'/\((e=.returned (.tuple #[.agg uy,.bool false])/\(eA G<=40->∃Q,Pd.qE Q/\(∀p,p∈Q↔p∈bo (l.map MR.aw))/\bB (l.map MR.aw) (da Q G)=none))\/(eA G<=40/\∃hm T s Q,e=.returned (.tuple #[.agg (cO pl (.slice rd l.length rc) gm hm hd),.bool true])/\
  Pd.qE Q/\(∀p,p∈Q↔p∈bo (l.map MR.aw))/\bB (l.map MR.aw) (da Q G)=some s/\wR w' hm T s/\T.map mK=Q.reverse/\∀b,b∈dx hm T->w.heap.size<=b)):=by
 by_cases D:eA G<=40/\∀Q,Pd.qE Q->(∀p,p∈Q↔p∈bo (l.map MR.aw))->(bB (l.map MR.aw) (da Q G)).isSome=true
 ·refine(SM w pl rd rc l O Js y V gm G F M D.1 hd hhd D.2).mono ?_;rintro e w' ⟨hm,T,s,Q,rfl,N,q2,q3,q4,q5,q6,q7⟩;exact⟨q7,.inr ⟨D.1,hm,T,s,Q,rfl,N,q2,q3,q4,q5,q6⟩⟩
 have R3:Hid (∀W,DQ w pl (.slice rd l.length rc) (Rc.dP hd) W->Calls prog 110 #[.map (some gm)] W λe w'=>e=.returned (.int .i64 (eA G:Nat))/\Hid (DQ w pl (.slice rd l.length rc) (Rc.dP hd) w')/\w'.cell? ⟨w.heap.size,0,none⟩=some (.string pl)/\w'.cell? ⟨w.heap.size,1,none⟩=some (.slice rd l.length rc)):=by
  intro W i;refine(Co W gm G (F.below i.be)).mono ?_;rintro e w' ⟨rfl,hb⟩;exact⟨rfl,i.below hb,(i.below hb).cells.1,(i.below hb).cells.2⟩
 have X:Hid ((prog.info? 107).map (·.size)=some uy.size):=(by kernel_rfl:(prog.info? 107).map (·.size)=some 36);have rM:Hid (uy.all (·.oneCell')=true):=(Array.all_eq_true_iff_forall_mem.2 (λv hv=>Ef v (by simpa using hv)):uy.all (·.oneCell')=true);have uc:Hid (∀W,DQ w pl (.slice rd l.length rc) (Rc.dP hd) W->W.there (w.heap.size+1+1) 0 uy.size/\(W.setCells (w.heap.size+1+1) 0 uy.toList).heap[w.heap.size+1+1]?=some (.cells uy 107 (0,0))/\Below w.heap.size w (W.setCells (w.heap.size+1+1) 0 uy.toList)):=by
  intro W i;obtain⟨cur,h2,h3⟩:=i.b2;have y:W.heap[w.heap.size+1+1]?=some (.cells cur 107 (0,0)):=h2;obtain⟨_,hk⟩:=dF (w.heap.size+1+1) uy.toList 0 _ W y (by rw[h3];exact OF 36);refine⟨?_,nC y h3 rfl,hk.aQ i.be i.be.size (by simp;omega)⟩;intro j hj;rw[aaB _ _ _ _ _ _ y];refine⟨?_,by simp[World.frozen?,y]⟩;rw[acm,acR (by rw[h3];exact hj)];rfl
 by_cases AY:eA G<=40
 ·have E:∃Q,Pd.qE Q/\(∀p,p∈Q↔p∈bo (l.map MR.aw))/\bB (l.map MR.aw) (da Q G)=none:=by
   have h9:¬∀Q,Pd.qE Q->(∀p,p∈Q↔p∈bo (l.map MR.aw))->(bB (l.map MR.aw) (da Q G)).isSome=true:=λh=>D ⟨AY,h⟩;obtain⟨Q,u⟩:=Classical.not_forall.1 h9;obtain⟨a1,u⟩:=Classical.not_imp.1 u;obtain⟨a2,u⟩:=Classical.not_imp.1 u;refine⟨Q,a1,a2, ?_⟩;cases h8:bB (l.map MR.aw) (da Q G)with
   | none=>rfl
   | some s=>rw[h8]at u;exact absurd rfl u
  have Uk:=aj E;have VX:Hid (∀W,Hid (DQ w pl (.slice rd l.length rc) (Rc.dP hd) W)->Calls prog 111 #[.agg #[.string pl,.slice rd l.length rc],.map (some gm)] W λe w'=>e=.returned (.tuple #[.map none,.bool false])/\w'.there (w.heap.size+1+1) 0 uy.size/\(w'.setCells (w.heap.size+1+1) 0 uy.toList).heap[w.heap.size+1+1]?=some (.cells uy 107 (0,0))/\Hid (Below w.heap.size w (w'.setCells (w.heap.size+1+1) 0 uy.toList))):=by
   intro W i;have i:=i.out;refine(Cg W pl rd rc l (O.below i.be) Js y V gm G (F.below i.be) M PJ).mono ?_;rintro e w' ⟨Q,u,hp⟩;obtain⟨Q',a1,a2,a3⟩:=Uk.out;have hQQ:Q=Q':=Pd.wX u.out.1 a1 (λx=>(u.out.2 x).trans (a2 x).symm);subst hQQ;rcases hp.ans with⟨hm,T,s,rfl,N,_⟩ | ⟨rfl,q⟩
   ·rw[a3]at N;cases N
   ·obtain⟨k1,k2,k3⟩:=uc.out w' (i.below hp.be);exact⟨rfl,k1,k2,k3⟩
  have rY:decide ((40:Int)<(eA G:Int))=false:=aab (by omega);generalize B:eA G=gs at*;clear D O F M V y B E PJ;generalize (Rc.dP hd)=U at*
  go_enter func57,ntmps57
  go_wp2_with (first | (go_at_call 110;refine(R3.out _ (by exact DQ.init rfl)).mono ?_;rintro e w1 ⟨rfl,HM1,c0,c1⟩) | (go_at_call 111;refine(VX.out _ HM1).mono ?_;rintro e w2 ⟨rfl,A,Xx,iu⟩) | (refine wpList_store_mid rfl 107 (.tmp 6) (.tmp 22) rfl (w.heap.size+1+1) 0 uy rfl rfl A X.out rM.out ?_))
  refine aaT (v:=.tuple #[.agg uy,.bool false]) ?_ rfl ⟨iu.out,.inl ⟨rfl,λ_=>Uk.out⟩⟩;refine aeO (aU rfl rfl Xx Tryz.underlying107 rfl X.out) ?_;rfl
 ·have I:Hid (∀W,DQ w pl (.slice rd l.length rc) (Rc.dP hd) W->Calls prog 110 #[.map (some gm)] W λe w'=>e=.returned (.int .i64 (eA G:Nat))/\w'.there (w.heap.size+1+1) 0 uy.size/\(w'.setCells (w.heap.size+1+1) 0 uy.toList).heap[w.heap.size+1+1]?=some (.cells uy 107 (0,0))/\Hid (Below w.heap.size w (w'.setCells (w.heap.size+1+1) 0 uy.toList))):=by
   intro W i;refine(R3.out W i).mono ?_;rintro e w' ⟨rfl,H,_,_⟩;obtain⟨k1,k2,k3⟩:=uc.out w' H.out;exact⟨rfl,k1,k2,k3⟩
  have rY:decide ((40:Int)<(eA G:Int))=true:=aap (by omega);have J:=aj AY;generalize B:eA G=gs at rY AY I hGs J;clear D O F M V y B PJ R3 uc;generalize (Rc.dP hd)=U at*
  go_enter func57,ntmps57
  go_wp2_with (first | (go_at_call 110;refine(I.out _ (by exact DQ.init rfl)).mono ?_;rintro e w1 ⟨rfl,A,Xx,iu⟩) | (refine wpList_store_mid rfl 107 (.tmp 6) (.tmp 13) rfl (w.heap.size+1+1) 0 uy rfl rfl A X.out rM.out ?_))
  refine aaT (v:=.tuple #[.agg uy,.bool false]) ?_ rfl ⟨iu.out,.inl ⟨rfl,λh=>absurd h J.out⟩⟩;refine aeO (aU rfl rfl Xx Tryz.underlying107 rfl X.out) ?_;rfl
/- New of any text. -/
structure NJ(w1:World)(g:Nat)(pl:ByteArray)(rv:Value)(mx:List Pd.Pr)(b:Option Nat)(q:Option (Option Addr×List Pd.Pr×Nat))(m:Option (Nat×List GT))(W:World):Prop where
 be:Below w1.heap.size w1 W
 gl:g<w1.heap.size
 c0:W.cell? ⟨g,0,none⟩=some (.string pl)
 c1:W.cell? ⟨g,1,none⟩=some rv
 aY:∀x,b=some x->w1.heap.size<=x/\∃Z,W.heap[x]?=some (.cells Z 107 (0,0))/\Z.size=36
 row:∀qd Q qc,q=some (qd,Q,qc)->W.ownsRow 0 112 2 (.slice qd Q.length qc) Q.length (aW Q)/\Pd.qE Q/\∀p,p∈Q↔p∈mx
 Ai:∀gm G,m=some (gm,G)->qS W gm G/\∃Q,Pd.qE Q/\(∀p,p∈Q↔p∈mx)/\GQ G Q (λ_=>[])
theorem NJ.below(h:NJ w1 g pl rv mx b q m W)(e:Below W.heap.size W w'):NJ w1 g pl rv mx b q m w':=by
 have t:g<W.heap.size:=aa7 h.gl h.be.size;refine⟨h.be.trans (e.mono h.be.size),h.gl,by rw[e.cell t];exact h.c0,by rw[e.cell t];exact h.c1, ?_, ?_, ?_⟩
 ·intro x A;obtain⟨j,Z,i,D⟩:=h.aY x A;exact⟨j,Z,by rw[e.block _ (lt_of_heap i)];exact i,D⟩
 ·intro u Q y B;obtain⟨j,i⟩:=h.row u Q y B;exact⟨ae j e,i⟩
 ·intro gm G hm;obtain⟨j,i⟩:=h.Ai gm G hm;exact⟨j.below e,i⟩
theorem NJ.drew(h:NJ w1 g pl rv mx b q m W):NJ w1 g pl rv mx b q m W.drew:=h.below (aaj _ _).drew
theorem NJ.alloc{Z}(h:NJ w1 g pl rv mx none q m W)(j:Z.size=36):NJ w1 g pl rv mx (some W.heap.size) q m (W.alloc (.cells Z 107)):=by
 have e:=h.below (w':=W.alloc (.cells Z 107)) aM;refine⟨e.be,e.gl,e.c0,e.c1, ?_,e.row,e.Ai⟩;intro x i;simp only[AT]at i;subst i;exact⟨h.be.size,Z,By _ _,j⟩
theorem NJ.cells(h:NJ w1 g pl rv mx b q m W):W.cell? ⟨g,0,none⟩=some (.string pl)/\W.cell? ⟨g,1,none⟩=some rv:=⟨h.c0,h.c1⟩
theorem NJ.stored(h:NJ w1 g pl rv mx (some x) q m W)(M:cs.size=36):NJ w1 g pl rv mx (some x) q m (W.setCells x 0 cs.toList):=by
 obtain⟨H,Z,u,N⟩:=h.aY x rfl;obtain⟨y,j⟩:=dF x cs.toList 0 Z W u (by simp;omega);have y:(W.setCells x 0 cs.toList).heap[x]?=some (.cells cs 107 (0,0)):=by
  rw[y,abD (by simp;omega)];simp
 have J:g≠x:=by have:=h.gl;omega
 have A:(W.setCells x 0 cs.toList).heap[g]?=W.heap[g]?:=j.block g (aa7 h.gl h.be.size) (by simpa using J);refine⟨j.aQ h.be h.be.size (by simpa using H),h.gl, ?_, ?_, ?_, ?_, ?_⟩
 ·rw[<-h.c0];simp only[World.cell?,A]
 ·rw[<-h.c1];simp only[World.cell?,A]
 ·grind
 ·intro D Q E F;obtain⟨i,t⟩:=h.row D Q E F;exact⟨j.aR i (λb I fz B e=>by simp at B;subst B;rw[u]at e;simp at e),t⟩
 ·intro gm G hm;obtain⟨i,t⟩:=h.Ai gm G hm;exact⟨i.kept j (i.sX u (by decide) (by decide)),t⟩
theorem FB(h:NJ w1 g pl rv mx b q m W)(e:cs.size=36)(i:∀v,v∈cs.toList->v.oneCell'=true):I1 cs b W:=by
 cases b with
 | some x=>
  obtain⟨_,Z,u,t⟩:=h.aY x rfl;exact gS u t e i
 | none=>
  intro Z j;exact gS (By _ _) j e i
structure NK(w1:World)(g:Nat)(pl:ByteArray)(rv:Value)(mx:List Pd.Pr)(b:Option Nat)(q:Option (Option Addr×List Pd.Pr×Nat))(gm:Nat)(G:List GT)(hd:List UInt8)(Y:Prop)(Z:Nat->List HT->En.dH En.ba->Prop)(cs:Array Value)(ok:Bool)(W:World):Prop where
 ni:NJ w1 g pl rv mx b q (some (gm,G)) W
 sz:cs.size=36
 res:Sj pl rv gm hd Y Z cs ok b W
section
variable {w1 W:World} {g:Nat} {pl:ByteArray} {rv:Value} {mx:List Pd.Pr} {b:Option Nat} {q:Option (Option Addr × List Pd.Pr × Nat)} {gm:Nat} {G:List GT} {hd:List UInt8} {Y:Prop} {Z:Nat->List HT->En.dH En.ba->Prop} {cs:Array Value} {ok:Bool}
theorem NK.alloc{C}(h:NK w1 g pl rv mx none q gm G hd Y Z cs ok W)(t:C.size=36):NK w1 g pl rv mx (some W.heap.size) q gm G hd Y Z cs ok (W.alloc (.cells C 107)):=by
 refine⟨h.ni.alloc t,h.sz, ?_⟩;rcases h.res with i | ⟨i,hm,T,s,A,j,e3,_⟩
 ·exact .inl i
 ·refine .inr ⟨i,hm,T,s,A,j.below aM,e3, ?_⟩;intro x u y hy e;simp only[AT]at u;have:=j.lt hy;omega
structure NL(w1:World)(pl:ByteArray)(rv:Value)(mx:List Pd.Pr)(hd:List UInt8)(Y:Prop)(Z:Nat->List HT->En.dH En.ba->Prop)(v8 v9:Value)(wx:World):Prop where
 out:∃x cs ok gm G,v8=.pointer (some ⟨x,0,none⟩)/\v9=.bool ok/\cs.size=36/\wx.heap[x]?=some (.cells cs 107 (0,0))/\Sj pl rv gm hd Y Z cs ok none wx/\qS wx gm G/\(∃Q,Pd.qE Q/\(∀p,p∈Q↔p∈mx)/\GQ G Q (λ_=>[]))/\Below w1.heap.size w1 wx
theorem NK.cut(h:NK w1 g pl rv mx (some x) q gm G hd Y Z cs ok W):NL w1 pl rv mx hd Y Z (.pointer (some ⟨x,0,none⟩)) (.bool ok) (W.setCells x 0 cs.toList):=by
 have hs:=h.ni.stored h.sz;obtain⟨_,C,j,i⟩:=h.ni.aY x rfl;obtain⟨A,y⟩:=hs.Ai gm G rfl;obtain⟨F,t⟩:=dF x cs.toList 0 C W j (by simp[h.sz,i]);refine⟨x,cs,ok,gm,G,rfl,rfl,h.sz,nC j i h.sz, ?_,A,y,hs.be⟩;rcases h.res with e | ⟨e,hm,T,s,E,D,e3,B⟩
 ·exact .inl e
 ·exact .inr ⟨e,hm,T,s,E,D.kept t (λb u=>by simpa using B x rfl b u),e3,λ_ h=>by cases h⟩
end
variable{q:IntKind}{k n:Nat}{T:TypeId}{w w0:World}
structure RW(w0 w:World)(k n:Nat)(q:IntKind)(T:TypeId):Prop where
 kb:Kb [k] w0 w
 row:∃f,w.heap[k]?=some (.cells (Dg.eu n q f) T (0,0))
theorem RW.new{f:Nat->Int}(h:w.heap[k]?=some (.cells (Dg.eu n q f) T (0,0))):RW w w k n q T:=⟨Kb.refl _ _,f,h⟩
theorem RW.off{w' b}(h:RW w0 w k n q T)(e:Kb [b] w w')(i:k≠b):RW w' w' k n q T:=by
 obtain⟨_,f,j⟩:=h;exact .new (e.heap j (by simpa using i))
section
variable {w0 w w':World} {k n:Nat} {q:IntKind} {T:TypeId}
theorem RW.st(h:RW w0 w k n q T){i v}(e:i<n:=by first | decide | omega):RW w0 (w.setCell ⟨k,i,none⟩ (.int q v)) k n q T:=by
 obtain⟨t,f,j⟩:=h;exact⟨t.trans (Kb.setCell w ⟨k,i,none⟩ _),_,Dg.Bd j e v⟩
theorem RW.drewN(h:RW w0 w k n q T)(m:Nat):RW w0 (w.drewN m) k n q T:=⟨h.1.drewN m,h.2⟩
theorem RW.drew(h:RW w0 w k n q T):RW w0 w.drew k n q T:=⟨h.1.drew,h.2⟩
theorem RW.below(h:RW w0 w k n q T)(e:Below w.heap.size w w'):RW w0 w' k n q T:=by
 obtain⟨j,f,i⟩:=h;exact⟨j.below e,f,by rw[e.block _ (lt_of_heap i)];exact i⟩
theorem RW.ret{P i}{R:Ending->World->Prop}{a p e d}(h:RW w0 w k n q T)(t:i.results=#[.cell p e])(u:a.tmps.getD p undef=.pointer (some ⟨k,0,none⟩))(j:P.underlying e=some d)(hd:(match d with | .struct _ | .array _ _=>true | _=>false)=true)(x:(P.info? e).map (·.size)=some n)(y:a.defers=[])(A:∀f,Kb [k] w0 w->R (.returned (.agg (Dg.eu n q f))) w):bodyPost P i R .ret a w:=by
 obtain⟨D,f,B⟩:=h;exact aaT (results_cell_row t _ _ _ _ _ _ _ u B j hd (by rw[Dg.dQ];exact x)) y (A f D)
end
theorem V6{x k}:Calls prog 244 #[.int .u32 x,.int .i64 k] w λe w'=>∃y,e=.returned (.int .u32 y)/\w'=w:=by
 have i:0<=bits BinOp.and IntKind.u64 (IntKind.u64.wrap k) 31:=bits_lo_u64 _ _ _
 go_enter func244,ntmps244
 go_wp2_with fail
 go_ret;exact⟨_,rfl,rfl⟩
theorem Kn(x b w):Calls prog 195 #[.int .u32 x,.int .i64 b] w λe w'=>∃y,e=.returned (.int .u32 y)/\w'=w:=by
 go_enter func195,ntmps195
 go_wp2_with (go_at_call 244;refine(V6).mono ?_;rintro e w' ⟨y,rfl,rfl⟩)
 go_ret;exact⟨_,rfl,rfl⟩
theorem Ou(s:Nat->Int)(word w):Calls prog 193 #[.agg (Dg.qx s),.int .u32 word] w λe w'=>(∃f,e=.returned (.agg (Dg.qx f)))/\Below w.heap.size w w':=by
 have A:=λx b w=>Kn x b w;unfold Dg.qx
 go_enter func193,ntmps193
 go_upto_region 1 with fail
 go_quiet (fail)
 go_wp2_with (go_at_call 195;refine(A _ _ _).mono ?_;rintro e w' ⟨y,rfl,rfl⟩)
 generalize j:((w.alloc _).alloc _).drewN nq=i;have u:RW i i (w.heap.size+1) 8 .u32 230:=.new (f:=λ_=>0) (by rw[<-j];exact nH w _ _);have t:Below w.heap.size w i:=by rw[<-j];exact(aM.alloc (by simp) _).trans ⟨rfl,rfl,rfl,OF _,λ_ _=>rfl⟩
 refine RW.ret (w0:=i) (k:=w.heap.size+1) (n:=8) (q:=.u32) (T:=230) ?_ rfl rfl Tryz.underlying230 rfl (by kernel_rfl) rfl (λf h=>⟨⟨f,rfl⟩,h.aQ t t.size (by simp)⟩);exact u.st.st.st.st.st.st.st.st
theorem RW.cells(h:RW w0 w k n q T):∃f,w.heap[k]?=some (.cells (Dg.eu n q f) T (0,0))/\k<w.heap.size/\(∀z,z<n->w.cell? ⟨k,z,none⟩=some (.int q (f z)))/\∀z,w.frozen? ⟨k,z,none⟩=false:=by
 obtain⟨_,f,e⟩:=h;exact⟨f,e,lt_of_heap e,λz i=>Dg.oU e i,Dg.nN e⟩
theorem MV(K s M:Nat->Int)(w)(X:Dg.EA w K):Calls prog 119 #[.agg (Dg.qx s),.agg (Dg.eu 64 .u32 M)] w λe w'=>(∃f,e=.returned (.agg (Dg.qx f)))/\Below w.heap.size w w':=by
 have HK:=aj X;have H:=λW i (h:i<64)=>BI (f:=M) Tryz.underlying234 W h;clear X;unfold Dg.qx
 go_enter func119,ntmps119
 go_upto_region 2 with fail
 generalize O:(((w.alloc _).alloc _).alloc _).alloc _=w0;obtain⟨B,js,F,N,E,D⟩:=XZ w;rw[O]at B js F N E D;have J0:Hid (RW w0 w0 w.heap.size 8 .u32 230):=.new (f:=s) F;have J2:Hid (RW w0 w0 (w.heap.size+1+1) 8 .u32 230):=.new (f:=λ_=>0) E;have J3:Hid (RW w0 w0 (w.heap.size+1+1+1) 8 .u32 230):=.new (f:=s) D;have JB:=aj B;clear F E D B O
 go_wp2_with (refine aeE rfl 234 (.tmp 3) rfl (w.heap.size+1) rfl _ _ _ _ N Tryz.underlying234 rfl (by rw[Dg.dQ];kernel_rfl) ?_)
 go_loopw [11] (λi wr=>∃k:Nat,k<=64/\i=.int .i64 k/\RW w0 wr (w.heap.size+1+1+1) 8 .u32 230) (λi _=>64-(intOf i).toNat)
 ·exact⟨0,by omega,rfl,J3.out⟩
 ·
  obtain⟨k,hk,rfl,y⟩:=hrel;have u:=aj y;obtain⟨v,A,Xz,hc,hf⟩:=y.cells;have J:Hid (Below w.heap.size w wr):=u.out.1.aQ JB.out JB.out.size (by simp;omega);by_cases j:k<64
  ·have g0:wr.cell? ⟨0,k,none⟩=some (.int .u32 (K k)):=Dg.EA.below HK.out J.out k j;have hi:=H wr k j;have Z:Hid (∀(x:Int) (W:World),W.heap=wr.heap->Calls prog 193 #[.agg (Dg.qx v),.int .u32 x] W λe w2=>∃f,e=.returned (.agg (Dg.qx f))/\(∀z,z<8->w2.cell? ⟨w.heap.size+1+1+1,z,none⟩=some (.int .u32 (v z)))/\(∀z,w2.frozen? ⟨w.heap.size+1+1+1,z,none⟩=false)/\w.heap.size+1+1+1<w2.heap.size/\Hid (Below W.heap.size W w2)):=by
    intro x W V;refine(Ou v x W).mono ?_;rintro e w2 ⟨⟨f,rfl⟩,U⟩;have I:w2.heap[w.heap.size+1+1+1]?=some (.cells (Dg.eu 8 .u32 v) 230 (0,0)):=by
     rw[U.block _ (by rw[V];exact Xz),V];exact A
    exact⟨f,rfl,λz hz=>Dg.oU I hz,Dg.nN I,lt_of_heap I,U⟩
   unfold Dg.qx at Z;clear y A
   go_upto_region 5 with fail
   go_region_with (go_at_call 193;refine(Z.out _ _ (by rfl)).mono ?_;rintro e w2 ⟨f,rfl,vE,Hf,qB,mM⟩)
   all_goals
    (have HQ:Hid _:=u.out.drew.below mM.out
     go_wp2_with fail
     go_roundw
     ·exact⟨k+1,by omega,by go_num,HQ.out.st.st.st.st.st.st.st.st⟩
     ·simp[intOf];omega)
  ·have HS:Hid _:=J0.out.off u.out.kb (by omega);have HZ:Hid _:=J2.out.off u.out.kb (by omega);clear y A hc hf;obtain⟨wA,rfl⟩:∃x,x=wr:=⟨_,rfl⟩
   go_wp2_with fail
   go_loopw [23] (λi wr=>∃k:Nat,k<=8/\i=.int .i64 k/\RW wA wr w.heap.size 8 .u32 230) (λi _=>8-(intOf i).toNat)
   ·exact⟨0,by omega,rfl,HS.out⟩
   ·
    obtain⟨k,hk,rfl,hs⟩:=hrel;have HR:=aj hs;obtain⟨s1,_,l1,c1,f1⟩:=hs.cells;obtain⟨s2,_,l2,c2,f2⟩:=(u.out.off hs.kb (by omega)).cells;have t:Hid _:=HZ.out.off hs.kb (by omega);obtain⟨s3,_,l3,c3,f3⟩:=t.out.cells;clear hs;by_cases j:k<8
    ·have a0:=c1 k j;have a1:=c2 k j;clear c1 c2 c3
     go_upto_region 10 with fail
     go_region
     all_goals
      (go_wp2_with fail
       go_roundw
       ·exact⟨k+1,by omega,by go_num,HR.out.drew.st⟩
       ·simp[intOf];omega)
    ·have Y:Hid (Below w.heap.size w wr):=HR.out.kb.aQ J.out J.out.size (by simp)
     go_wp2_with fail
     refine RW.ret (w0:=wr) (k:=w.heap.size+1+1) (n:=8) (q:=.u32) (T:=230) ?_ rfl rfl Tryz.underlying230 rfl (by kernel_rfl) rfl (λf h=>⟨⟨f,rfl⟩,h.aQ Y.out Y.out.size (by simp;omega)⟩);exact t.out.st.st.st.st.st.st.st.st
/- Package digest: a schedule, a word put. -/
theorem Un(w g o n c)(t:4<=n)(h:∀j,j<4->∃b,w.cell? ⟨g,o+j,none⟩=some (.int .u8 b)):
 Calls prog 194 #[.slice (some ⟨g,o,none⟩) n c] w λe w'=>∃y k,e=.returned (.int .u32 y)/\w'=w.drewN k:=by
 obtain⟨b0,i⟩:=h 0 (by decide);obtain⟨b1,A⟩:=h 1 (by decide);obtain⟨b2,x⟩:=h 2 (by decide);obtain⟨B,u⟩:=h 3 (by decide);rw[acV]at i
 go_enter func194,ntmps194
 go_upto_region 1 with fail
 go_quiet (fail)
 go_wp2_with fail
 go_ret;exact⟨_,_,rfl,rfl⟩
theorem Qm(w g o c)(hc:64<=c)(E:∀j,j<64->∃b,w.cell? ⟨g,o+j,none⟩=some (.int .u8 b)):
 Calls prog 120 #[.slice (some ⟨g,o,none⟩) 64 c] w λe w'=>(∃f,e=.returned (.agg (Dg.eu 64 .u32 f)))/\Below w.heap.size w w':=by
 have HC:=aj E;have N:g<w.heap.size:=by
  obtain⟨b,h⟩:=E 0 (by decide);exact abT h
 clear E
 go_enter func120,ntmps120
 go_upto_region 2 with fail
 rw[<-Dg.WC];generalize B:(w.alloc _).alloc _=w0;have Z:Hid (RW w0 w0 w.heap.size 64 .u32 234):=.new (f:=λ_=>0) (by rw[<-B];exact heap_alloc2_old w _ _);have Y:Hid (RW w0 w0 (w.heap.size+1) 64 .u32 234):=.new (f:=λ_=>0) (by rw[<-B];exact heap_alloc2_new w _ _);have D:Hid (Below w.heap.size w w0):=by rw[<-B];exact aM.alloc (by simp) _
 clear B
 go_wp2_with fail
 go_loopw [10] (λi wr=>∃k:Nat,k<=16/\i=.int .i64 k/\RW w0 wr (w.heap.size+1) 64 .u32 234) (λi _=>16-(intOf i).toNat)
 ·exact⟨0,by omega,rfl,Y.out⟩
 ·
  obtain⟨k,hk,rfl,u⟩:=hrel;have H:=aj u;obtain⟨f,_,hl,t,F⟩:=u.cells;clear u;by_cases W:k<16
  ·have X:Hid (Calls prog 194 #[.slice (some ⟨g,o+4*k,none⟩) (64-4*k) (c-4*k)] wr λe w2=>∃y m,e=.returned (.int .u32 y)/\w2=wr.drewN m):=Un wr g (o+4*k) (64-4*k) (c-4*k) (by omega) (λj hj=>by
    rw[Nat.add_assoc,(H.out.kb.aQ D.out D.out.size (by simp)).cell N];exact HC.out _ (by omega))
   have a0:=t k (by omega)
   go_wp2_with (go_at_call 194;refine X.out.mono ?_;rintro e w2 ⟨y,m,rfl,rfl⟩)
   go_roundw
   ·exact⟨k+1,by omega,by go_num,(H.out.drewN _).st⟩
   ·simp[intOf];omega
  ·clear t F;obtain⟨wA,rfl⟩:∃x,x=wr:=⟨_,rfl⟩
   go_wp2_with fail
   go_loopw [5] (λi wr=>∃m:Nat,m<=48/\i=.int .i64 ((m:Int)+16)/\RW w0 wr (w.heap.size+1) 64 .u32 234) (λi _=>64-(intOf i).toNat)
   ·exact⟨0,by omega,rfl,H.out⟩
   ·
    obtain⟨m,hm,rfl,u⟩:=hrel;have I:=aj u;obtain⟨f,A,rE,t,F⟩:=u.cells;clear u;by_cases W:m<48
    ·have c0:=t m (by omega);have c1:=t (m+1) (by omega);have c9:=t (m+9) (by omega);have V:=t (m+14) (by omega);have U:=t (m+16) (by omega);have O:=λx b w=>Kn x b w;clear A t
     go_upto_region 10 with fail
     go_quiet (fail)
     go_upto_region 13 with(go_at_call 195;refine(O _ _ _).mono ?_;rintro e w' ⟨y,rfl,rfl⟩)
     go_region
     all_goals
      (go_wp2_with fail
       go_roundw
       ·exact⟨m+1,by omega,by go_num,(I.out.drewN _).drew.st⟩
       ·simp[intOf];omega)
    ·obtain⟨_,_,J⟩:=Z.out.off I.out.kb (by omega);have M:Hid (Below w.heap.size w wr):=I.out.kb.aQ D.out D.out.size (by simp);clear t F
     go_wp2_with (first | (refine aeE rfl 234 (.tmp 3) rfl (w.heap.size+1) rfl _ _ _ _ A Tryz.underlying234 rfl (by rw[Dg.dQ];kernel_rfl) ?_) | (refine wpList_store_row rfl 234 (.tmp 2) (.tmp 64) rfl w.heap.size rfl (Dg.eu 64 .u32 f) rfl _ J (by rw[Dg.dQ,Dg.dQ]) (by rw[Dg.dQ];kernel_rfl) (Dg.xq _ _ _) ?_))
     exact RW.ret (w0:=wr) ⟨Kb.setRow wr w.heap.size _,f,bQ wr w.heap.size J⟩ rfl rfl Tryz.underlying234 rfl (by kernel_rfl) rfl (λf h=>⟨⟨f,rfl⟩,h.aQ M.out M.out.size (by simp)⟩)
structure RB(w0 w:World)(k n:Nat)(T:TypeId):Prop where
 kb:Kb [k] w0 w
 row:∃f:Nat->Int,(∀j,0<=f j/\f j<256)/\w.heap[k]?=some (.cells (Dg.eu n .u8 f) T (0,0))
theorem RB.st(h:RB w0 w k n T){i v}(t:i<n)(e:0<=v/\v<256):RB w0 (w.setCell ⟨k,i,none⟩ (.int .u8 v)) k n T:=by
 obtain⟨y,f,u,x⟩:=h;refine⟨y.trans (Kb.setCell w ⟨k,i,none⟩ _),_,λj=>?_,Dg.Bd x t v⟩;unfold Dg.tI;split
 ·exact e
 ·exact u j
theorem rQ{g m}(h:RB w0 w g m T)(o n c:Nat)(word:Int)(y:4<=n:=by decide)(hm:o+4<=m:=by decide):
 Calls prog 121 #[.slice (some ⟨g,o,none⟩) n c,.int .u32 word] w λe w'=>e=.returned (.tuple #[])/\RB w0 w' g m T:=by
 have x:=aj h;clear h
 go_enter func121,ntmps121
 go_wp2_with fail
 go_loopw [5] (λi wr=>∃k:Nat,k<=4/\i=.int .i64 k/\RB w0 wr g m T) (λi _=>4-(intOf i).toNat)
 ·exact⟨0,by omega,rfl,x.out⟩
 ·
  obtain⟨k,B,rfl,t⟩:=hrel;have u:=aj t;obtain⟨_,f,_,j⟩:=t;have A:=lt_of_heap j;by_cases E:k<4
  ·have H:=Dg.oU j (show o+k<m by omega);have F:=Dg.nN j (o+k);have D:(0:Int)<=24-8*(k:Int):=by omega
   clear j
   go_wp2_with fail
   go_roundw
   ·exact⟨k+1,by omega,by go_num,u.out.st (by omega) (by omega)⟩
   ·simp[intOf];omega
  ·clear j
   go_wp2_with fail
   go_end0;exact⟨rfl,u.out⟩
/- Package digest: pad, Of; record: Head: some bytes. -/
def BR(w:World)(B:Nat)(v:Value)(n:Nat):Prop:=∃xs,(∀u,u∈xs->∃b,u=.int .u8 b)/\nQ w B 5 v n xs
theorem BR.app{B m v xs i}(h:nQ w B 5 v n (xs++i))(j:∀u,u∈xs->∃b,u=.int .u8 b)(hy:∀u,u∈i->∃b,u=.int .u8 b)(e:n=m):BR w B v m:=by
 subst e;exact⟨_,λu t=>(ZD.1 t).elim (j u) (hy u),h⟩
theorem Wq(w s)(hs:s.size<=100000000000):
 Calls prog 118 #[.string s] w λe w'=>∃v n,e=.returned v/\BR w' w.heap.size v (64*n)/\n<=10000000000/\Below w.heap.size w w':=by
 obtain⟨I,fC,cE,F,y⟩:=abF Tryz.mE;have HI:=aj fC;have H0:=aj cE;have H1:=aj F;have H2:=aj y;clear fC cE F y;have CQ:=Lib.run_convert_string_bytes (P:=prog) w 9 63 5 s abK aci adY;obtain⟨B,E⟩:=JX (w:=w) s eI;generalize Lib.bytesWorld w 5 s=w0 at CQ B E;generalize grownCap w s.size 0 5=c0 at CQ B;have F3:=E.size;have HB8:Hid (∀u,u∈byteCells s->∃b,u=.int .u8 b):=λu x=>by
  obtain⟨b,_,rfl⟩:=aax.1 x;exact⟨_,rfl⟩
 go_enter func118,ntmps118
 go_wp2_with (at_builtin;go_must (refine gV _ rfl (.tmp 7) (.tmp 8) 63 rfl w.heap.size 5 I _ 1 aci HI.out H0.out H1.out H2.out rfl _ _ _ rfl (B.alloc _) ⟨w0.heap.size,0,none⟩ 1 1 [.int .u8 128] rfl rfl (abC (By _ _)) (by simp[Value.oneCell']) eI (by omega) (by simp;omega) ?_;intro v2 w2 X bT))
 have mM:Hid _:=Bf B E X bT;have MM:Hid (BR w2 w.heap.size v2 (s.size+1+0)):=BR.app X HB8.out (by simp) rfl;have J:Dg.zc s.size<64:=by unfold Dg.zc;omega
 obtain⟨F,y⟩:=Dg.TZ s.size;have A:=aj y;generalize Dg.zc s.size=Z at J F A;clear y CQ B E X bT F3
 go_loopg [3] Z (λk v wr=>∃j:Nat,j+k=Z/\BR wr w.heap.size v (s.size+1+j)/\Below w.heap.size w wr)
 ·exact⟨0,by omega,MM.out,mM.out⟩
 ·
  obtain⟨j,hj,⟨xs,hx,H⟩,Y⟩:=hrel;have HR:=aj H;have HX:=aj hx;have HB:=aj Y;have M:=Y.size;obtain⟨g,cap,e0,V,jy,kW,eK⟩:=H.lt;subst e0;clear eK Y hx;cases gk with
  | succ k=>
   have cB:((((s.size+1+j:Nat):Int)%64) != 56)=true:=by
    have:=A.out j (by omega);simp;omega
   go_wp2_with (at_builtin;go_must (refine gV _ rfl (.tmp 14) (.tmp 15) 63 rfl w.heap.size 5 I _ 1 aci HI.out H0.out H1.out H2.out rfl _ _ _ rfl (H.alloc _) ⟨wr.heap.size,0,none⟩ 1 1 [.int .u8 0] rfl rfl (abC (By _ _)) (by simp[Value.oneCell']) eI (by omega) (by simp;omega) ?_;intro v3 w3 cm dk))
   have dp:=Bf HR.out HB.out cm dk
   go_roundg k
   case measure=>omega
   case rel=>exact⟨j+1,by omega,BR.app cm HX.out (by simp) rfl,dp⟩
  | zero=>
   have heq:((((s.size+1+j:Nat):Int)%64) != 56)=false:=by
    have U:j=Z:=by omega
    rw[U];simp;omega
   have hjb:j<64:=by omega
   clear H;have rA:Hid (∀word:Int,Calls prog 121 #[.slice (some ⟨wr.heap.size,0,none⟩) 8 8,.int .u32 word] (wr.alloc (.cells #[.int .u8 0,.int .u8 0,.int .u8 0,.int .u8 0,.int .u8 0,.int .u8 0,.int .u8 0,.int .u8 0] 329)) λe D=>e=.returned (.tuple #[])/\wr.heap.size<D.heap.size/\∀OK:Int,Calls prog 121 #[.slice (some ⟨wr.heap.size,4,none⟩) 4 4,.int .u32 OK] D λe t=>e=.returned (.tuple #[])/\Hid (RB (wr.alloc (.cells (Dg.eu 8 .u8 λ_=>0) 329)) t wr.heap.size 8 329)/\wr.heap.size<t.heap.size):=by
    intro word;have lt:∀{W0 W:World} {g n:Nat} {T:TypeId},RB W0 W g n T->g<W.heap.size:=λh=>by
     obtain⟨_,_,_,h⟩:=h;exact lt_of_heap h
    have h0:RB (wr.alloc (.cells (Dg.eu 8 .u8 λ_=>0) 329)) (wr.alloc (.cells (Dg.eu 8 .u8 λ_=>0) 329)) wr.heap.size 8 329:=⟨Kb.refl _ _,λ_=>0,by simp,By wr _⟩;refine(rQ h0 0 8 8 word).mono ?_;rintro e D ⟨rfl,q1⟩;refine⟨rfl,lt q1,λOK=>?_⟩;refine(rQ q1 4 4 4 OK).mono ?_;rintro e t ⟨rfl,q3⟩;exact⟨rfl,q3,lt q3⟩
   go_upto_region 6 with fail
   go_upto_region 7 with(go_at_call 121;refine(rA.out _).mono ?_;rintro e D ⟨rfl,hl4,C7⟩)
   go_upto_region 8 with(go_at_call 121;refine(C7 _).mono ?_;rintro e t ⟨rfl,Q5,L4⟩)
   obtain⟨_,f,_,h5⟩:=Q5.out;have O:nQ t w.heap.size 5 (.slice (some ⟨g,0,none⟩) (s.size+1+j) cap) (s.size+1+j) xs:=(nQ.alloc HR.out _).kept Q5.out.kb (by intro b hb;simp only[Value.ownBlock,AT]at hb;simp only[aae];omega);have fR:Below w.heap.size w t:=Q5.out.kb.aQ (HB.out.alloc M _) (by simp;omega) (by simp;omega);have N:=fR.size;have qA:=aj fR;have HGB:=aj V
   go_wp2_with (at_builtin;go_must (refine gV _ rfl (.tmp 30) (.tmp 31) 63 rfl w.heap.size 5 I _ 1 aci HI.out H0.out H1.out H2.out rfl _ _ _ rfl O ⟨wr.heap.size,0,none⟩ 8 8 (Dg.eu 8 .u8 f).toList rfl (by rw[abP,Dg.dQ]) (Q6 h5) (Dg.xq _ _ _) eI (by omega) (by omega) ?_;intro v6 w6 qG nF))
   have oj:Below w.heap.size w w6:=qA.out.grown nF N (λk hk=>by have nj:some g=some k:=hk;simp only[AT]at nj;have:=HGB.out;omega);go_ret;exact⟨v6,(s.size+1+j+8)/64,rfl,BR.app qG HX.out (λu x=>by unfold Dg.eu at x;simp only[adJ,aax]at x;obtain⟨i,_,rfl⟩:=x;exact⟨_,rfl⟩) (by omega),by omega,oj⟩
/- Package digest: Of; record: Head: some 32 bytes. -/
theorem ahA{f:Nat->Int}(h:∀j,0<=f j/\f j<256):∃hd:List UInt8,hd.length=n/\Dg.eu n .u8 f=(Rc.dP hd).toArray:=by
 refine⟨(List.range n).map λj=>UInt8.ofNat (f j).toNat,by simp, ?_⟩;unfold Dg.eu Rc.dP;rw[aey];congr 1;refine aep λj _=>?_;have:=h j;simp;omega
theorem VD(K:Nat->Int)(s w)(hK:Dg.EA w K)(hs:s.size<=100000000000):Calls prog 60 #[.string s] w λe w'=>(∃hd:List UInt8,hd.length=32/\e=.returned (.agg (Rc.dP hd).toArray))/\Below w.heap.size w w':=by
 have HK:=aj hK;clear hK
 go_enter func60,ntmps60
 go_upto_region 1 with fail
 rw[<-Dg.Hv];generalize cZ:w.alloc _=w0;have cq:Below w.heap.size w w0:=by rw[<-cZ];exact aM
 have cE:w0.heap[w.heap.size]?=some (.cells (Dg.eu 32 .u8 (λ_=>0)) 105 (0,0)):=by rw[<-cZ];exact By w _
 have gT:Calls prog 117 #[] w0 λe w'=>∃f,e=.returned (.agg (Dg.qx f))/\Below w0.heap.size w0 w':=(LF w0).mono (λe w' h=>⟨_,h⟩);unfold Dg.qx at gT;clear cZ
 go_upto_region 2 with(go_at_call 117;refine gT.mono ?_;rintro e w1 ⟨f0,rfl,aV⟩)
 have jP:Hid (Below w.heap.size w w1):=cq.trans (aV.mono cq.size);have ch:w1.heap[w.heap.size]?=some (.cells (Dg.eu 32 .u8 (λ_=>0)) 105 (0,0)):=by
  rw[aV.block _ (lt_of_heap cE)];exact cE
 have HZ1:=aj ch;have dA:=lt_of_heap ch;have QP:Hid (∀W:World,Calls prog 118 #[.string s] W λe w2=>∃g cap B,e=.returned (.slice (some ⟨g,0,none⟩) (64*B) cap)/\64*B<=cap/\B<=10000000000/\g<w2.heap.size/\Hid (∀j,j<64*B->∃b,w2.cell? ⟨g,j,none⟩=some (.int .u8 b))/\Hid (Below W.heap.size W w2)/\W.heap.size<=g):=by
  intro W;refine(Wq W s hs).mono ?_;rintro e w2 ⟨v,B,rfl,⟨xs,hx,bC⟩,hB,U⟩;obtain⟨g,cap,rfl,hB',Z,kW,eK⟩:=bC.lt;refine⟨g,cap,B,rfl,kW,hB,Z,λj hj=>?_,U,hB'⟩;have O:j<xs.length:=by rw[bC.1];exact hj
  obtain⟨b,e⟩:=hx _ (IN O);exact⟨b,eK j _ (by rw[AS O,e])⟩
 clear gT cq cE aV ch
 go_upto_region 3 with(go_at_call 118;refine(QP.out _).mono ?_;rintro e w2 ⟨g,cap,B,rfl,kW,eB,Z,HC,mM,hgB⟩)
 rw[abb]at hgB;have HH:Hid (RW w2 w2 w1.heap.size 8 .u32 230):=.new (f:=f0) (by rw[mM.out.block _ (by simp)];exact By w1 _);have HZ2:Hid (w2.heap[w.heap.size]?=some (.cells (Dg.eu 32 .u8 (λ_=>0)) 105 (0,0))):=by
  rw[mM.out.block _ (by simp;omega),aay _ _ _ dA];exact HZ1.out
 have lF:Hid (Below w.heap.size w w2):=(jP.out.alloc jP.out.size _).trans (mM.out.mono (by simp;omega));clear QP
 go_wp2_with fail
 go_loopw [5] (λi wr=>∃n p:Nat,p=64*n/\n<=B/\i=.int .i64 p/\RW w2 wr w1.heap.size 8 .u32 230) (λi _=>64*B-(intOf i).toNat)
 ·exact⟨0,0,rfl,IS _,rfl,HH.out⟩
 ·
  obtain⟨n,p,hp,hn,rfl,u⟩:=hrel;have HP:=aj hp;have HV:=aj u;have Dh:Hid (Below w.heap.size w wr):=u.kb.aQ lF.out lF.out.size (by simp;omega);obtain⟨h,M,Mb,hc,hf⟩:=u.cells;by_cases aL:n<B
  ·have R5:Hid (∀(W:World),Below wr.heap.size wr W->Calls prog 120 #[.slice (some ⟨g,p,none⟩) 64 (cap-p)] W λe t=>∃y,e=.returned (.agg (Dg.eu 64 .u32 y))/\(∀z,z<8->t.cell? ⟨w1.heap.size,z,none⟩=some (.int .u32 (h z)))/\w1.heap.size<t.heap.size/\Hid (Below wr.heap.size wr t)):=by
    intro W F;refine(Qm W g p (cap-p) (by omega) (λj hj=>?_)).mono ?_
    ·rw[F.cell (aa7 Z HV.out.kb.size),show wr.cell? ⟨g,p+j,none⟩=w2.cell? ⟨g,p+j,none⟩from adz (HV.out.kb.block g Z (by simp only[aae];omega))];exact HC.out _ (by omega)
    rintro e t ⟨⟨y,rfl⟩,U⟩;have H:Below wr.heap.size wr t:=F.trans (U.mono F.size);have N:t.heap[w1.heap.size]?=some (.cells (Dg.eu 8 .u32 h) 230 (0,0)):=by
     rw[H.block _ Mb];exact M
    exact⟨y,rfl,λz J=>Dg.oU N J,lt_of_heap N,H⟩
   have iu:Hid (∀(y:Nat->Int) (W:World),Below wr.heap.size wr W->Calls prog 119 #[.agg (Dg.qx h),.agg (Dg.eu 64 .u32 y)] W λe D=>∃h',e=.returned (.agg (Dg.qx h'))/\(∀z,z<8->D.cell? ⟨w1.heap.size,z,none⟩=some (.int .u32 (h z)))/\(∀z,D.frozen? ⟨w1.heap.size,z,none⟩=false)/\w1.heap.size<D.heap.size/\Hid (Below wr.heap.size wr D)):=by
    intro y W F;refine(MV K h y W (Dg.EA.below (HK.out.below Dh.out) F)).mono ?_;rintro e D ⟨⟨h',rfl⟩,U⟩;have jL:Below wr.heap.size wr D:=F.trans (U.mono F.size);have E:D.heap[w1.heap.size]?=some (.cells (Dg.eu 8 .u32 h) 230 (0,0)):=by
     rw[jL.block _ Mb];exact M
    exact⟨h',rfl,λz J=>Dg.oU E J,Dg.nN E,lt_of_heap E,jL⟩
   unfold Dg.qx at iu;have hpc:p+64<=cap:=by omega
   have Nw:p<64*B:=by omega
   have Bs:p<=1000000000000:=by omega
   clear u M hp
   go_upto_block 1 with fail
   go_cut [5]from 12 to 25 (λv wx=>v=.int .i64 p/\RW w2 wx w1.heap.size 8 .u32 230)
   ·
    go_upto_region 6 with fail
    have k1:(0:Int)<=(p:Int)+64:=by omega
    have k2:(p:Int)+64<=(cap:Int):=by omega
    have k4:((p:Int)+64).toNat=p+64:=by omega
    have k5:¬cap=p:=by omega
    have kw:IntKind.i64.wrap ((p:Int)+64)=(p:Int)+64:=by simp[IntKind.wrap,IntKind.bits,IntKind.signed];omega
    have kw2:wrap64 ((p:Int)+64)=(p:Int)+64:=by unfold wrap64;omega
    go_region_with (first | (go_at_call 120;refine(R5.out _ (by exact(aaj _ _).drew)).mono ?_;rintro e t ⟨y,rfl,d0,Xz,Y⟩) | (go_at_call 119;refine(iu.out _ _ (by exact Y.out)).mono ?_;rintro e D ⟨h',rfl,a0,f0,hl4,HV4⟩))
    all_goals
     (have HQ:Hid _:=HV.out.below HV4.out
      go_wp2_with fail
      go_meet;exact⟨rfl,HQ.out.st.st.st.st.st.st.st.st⟩)
   ·
    obtain⟨rfl,Zk⟩:=hcut;have HV5:=aj Zk;clear Zk
    go_wp2_with fail
    go_roundw
    ·exact⟨n+1,p+64,by have:=HP.out;omega,by omega,by go_num,HV5.out⟩
    ·simp[intOf];omega
  ·have I:Hid (wr.heap[w.heap.size]?=some (.cells (Dg.eu 32 .u8 (λ_=>0)) 105 (0,0))):=HV.out.kb.heap HZ2.out (by simp only[aae];omega);have anN:¬p<64*B:=by omega
   clear u hp hc hf;obtain⟨A,rfl⟩:∃x,x=wr:=⟨_,rfl⟩
   go_upto_region 8 with fail
   rw[<-Dg.Hv];generalize xO:A.alloc _=t;have H:Below A.heap.size A t:=by rw[<-xO];exact aM
   have HD3:Hid (RB t t A.heap.size 32 105):=⟨Kb.refl _ _,λ_=>0,by simp,by rw[<-xO];exact By A _⟩;have hh3:t.heap[w1.heap.size]?=some (.cells (Dg.eu 8 .u32 h) 230 (0,0)):=by rw[H.block _ Mb];exact M
   have HZ3:Hid (t.heap[w.heap.size]?=some (.cells (Dg.eu 32 .u8 (λ_=>0)) 105 (0,0))):=by rw[H.block _ (lt_of_heap I.out)];exact I.out
   have hzl:=lt_of_heap I.out;have Y:Hid (Below w.heap.size w t):=Dh.out.trans (H.mono Dh.out.size);clear H xO M;have hix:=λW i (hi:i<8)=>BI (f:=h) Tryz.underlying230 W hi
   go_wp2_with (refine aeE rfl 230 (.tmp 3) rfl w1.heap.size rfl _ _ _ _ hh3 Tryz.underlying230 rfl (by rw[Dg.dQ];kernel_rfl) ?_)
   go_loopw [27] (λi wr=>∃k:Nat,k<=8/\i=.int .i64 k/\RB t wr A.heap.size 32 105) (λi _=>8-(intOf i).toNat)
   ·exact⟨0,by omega,rfl,HD3.out⟩
   ·
    obtain⟨k,hk,rfl,u⟩:=hrel;have HR:=aj u;by_cases X:k<8
    ·have hi:=hix wr k X;have hsl:=Mt wr A.heap.size k X;have hpw:=rQ u (4*k) (32-4*k) (32-4*k) (h k) (by omega) (by omega);clear u
     go_wp2_with (go_at_call 121;refine hpw.mono ?_;rintro e w5 ⟨rfl,q5⟩;have Q5:=aj q5;clear q5)
     go_roundw
     ·exact⟨k+1,by omega,by go_num,Q5.out⟩
     ·simp[intOf];omega
    ·obtain⟨kJ,f,tq,hv'⟩:=u;have J:wr.heap[w.heap.size]?=some (.cells (Dg.eu 32 .u8 (λ_=>0)) 105 (0,0)):=kJ.heap HZ3.out (by simp only[aae];omega);have xx:Hid (Below w.heap.size w wr):=kJ.aQ Y.out Y.out.size (by simp;omega);obtain⟨hd,uo,V⟩:=ahA (n:=32) tq;have HE:=aj V;clear kJ tq V
     go_wp2_with (first | (refine aeE rfl 105 (.tmp 6) rfl A.heap.size rfl _ _ _ _ hv' Tryz.underlying105 rfl (by rw[Dg.dQ];kernel_rfl) ?_) | (refine wpList_store_row rfl 105 (.tmp 2) (.tmp 37) rfl w.heap.size rfl (Dg.eu 32 .u8 f) rfl _ J (by rw[Dg.dQ,Dg.dQ]) (by rw[Dg.dQ];kernel_rfl) (Dg.xq _ _ _) ?_))
     refine aaT (v:=.agg (Dg.eu 32 .u8 f)) ?_ rfl ⟨⟨hd,uo,by rw[HE.out]⟩,(Kb.setRow wr w.heap.size _).aQ xx.out xx.out.size (by simp)⟩;exact results_cell_row rfl _ _ _ _ _ _ _ rfl (bQ wr w.heap.size J) Tryz.underlying105 rfl (by rw[Dg.dQ];kernel_rfl)
/- record: Head: some 32 bytes. -/
theorem Ll(K:Nat->Int)(w)(ahead:List UInt8)(content)(F:Dg.EA w K)(B:ahead.length=32)(hs:content.size<=10000000000):
 Calls prog 70 #[.agg (Rc.dP ahead).toArray,.string content] w λe w'=>(∃hd:List UInt8,hd.length=32/\e=.returned (.agg (Rc.dP hd).toArray))/\Below w.heap.size w w':=by
 go_enter func70,ntmps70
 go_upto_region 1 with fail
 rw[<-Dg.Hv];generalize u:(w.alloc _).alloc _=w0;have t:Below w.heap.size w w0:=by rw[<-u];exact aM.alloc (by simp) _
 have A:w0.heap[w.heap.size]?=some (.cells (Rc.dP ahead).toArray 105 (0,0)):=by rw[<-u];exact heap_alloc2_old w _ _
 have x:w0.heap[w.heap.size+1]?=some (.cells (Dg.eu 32 .u8 (λ_=>0)) 105 (0,0)):=by rw[<-u];exact heap_alloc2_new w _ _
 have H:(convert 63 9 (.slice (some ⟨w.heap.size,0,none⟩) 32 32)).run prog w0=.ok (.string ⟨ahead.toArray⟩) w0:=by
  rw[<-B];refine run_convert_bytes_back w0 63 9 5 ⟨w.heap.size,0,none⟩ _ ahead aci adY abK ?_;intro j E;rw[show(⟨w.heap.size,0,none⟩:Addr).add j=⟨w.heap.size,j,none⟩ by unfold Addr.add;split<;>simp_all,aaB _ _ _ _ _ _ A,aaV,Rc.dP,ab3,AS E];rfl
 have y:Hid (Calls prog 60 #[.string (⟨ahead.toArray⟩++content)] w0 λe w1=>∃hd:List UInt8,hd.length=32/\e=.returned (.agg (Rc.dP hd).toArray)/\w1.heap[w.heap.size+1]?=some (.cells (Dg.eu 32 .u8 (λ_=>0)) 105 (0,0))/\Hid (Below w.heap.size w w1)):=by
  refine(VD K _ w0 (F.below t) ?_).mono ?_
  ·have:(⟨ahead.toArray⟩:ByteArray).size=32:=B;rw[acn,this];omega
  ·rintro e w1 ⟨⟨hd,uo,rfl⟩,i⟩;refine⟨hd,uo,rfl, ?_,t.trans (i.mono t.size)⟩;rw[i.block _ (lt_of_heap x)];exact x
 clear A x t u
 go_wp2_with (first | (go_at_call 60;refine y.out.mono ?_;rintro e w1 ⟨hd,uo,rfl,D,i⟩) | (refine wpList_store_row rfl 105 (.tmp 4) (.tmp 9) rfl (w.heap.size+1) rfl (Rc.dP hd).toArray rfl _ D (by rw[Dg.dQ];simp[Rc.dX,uo]) (by simp only[abz,Rc.dX,uo];kernel_rfl) (by simpa using Rc.wP hd) ?_))
 refine aaT (v:=.agg (Rc.dP hd).toArray) ?_ rfl ⟨⟨hd,uo,rfl⟩,(Kb.setRow w1 (w.heap.size+1) (Rc.dP hd).toArray).aQ i.out i.out.size (by simp)⟩;exact results_cell_row rfl _ _ _ _ _ _ _ rfl (bQ w1 _ D) Tryz.underlying105 rfl (by simp only[abz,Rc.dX,uo];kernel_rfl)
