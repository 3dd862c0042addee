/- axiomlaw: back, walked. -/
import Derived.Test.YtdmicblafmhflaaGreatDoorC17
set_option linter.unusedSimpArgs false
set_option linter.unusedVariables false
set_option maxHeartbeats 4000000
set_option maxRecDepth 100000
namespace Go.Proofs.YtdmicblafmhflaaGreatDoor
open Go.Proofs.Tryz Go.RowKit Go.Maps
variable{x:EP}{B N:Nat}{w:World}
theorem Lw.KU:∀j,j<8->(Lw.R6 8)[j*2]?=some (.string (Lw.bh j))/\(Lw.R6 8)[j*2+1]?=some (.slice none 0 0)
 | 0,_=>⟨rfl,rfl⟩
 | 1,_=>⟨rfl,rfl⟩
 | 2,_=>⟨rfl,rfl⟩
 | 3,_=>⟨rfl,rfl⟩
 | 4,_=>⟨rfl,rfl⟩
 | 5,_=>⟨rfl,rfl⟩
 | 6,_=>⟨rfl,rfl⟩
 | 7,_=>⟨rfl,rfl⟩
 | n+8,h=>by omega
theorem xA(w0 w nb fb F gd gc)(h:mS w0 w nb fb F gd gc 8)(ld lc l)(hz:∀W,Kb (Lw.bs F) w W->eV W ld lc l)(hf:F.map FI.f=l.map FI.f)(hl:l.length<=1048576)(ha:∀f,f∈l->f.args.length<=1048576):
 Calls prog 94 #[.pointer (some ⟨nb,0,none⟩),.slice ld l.length lc] w λe w'=>e=.returned (.bool true)/\Kb (fb::Lw.bs F) w w':=by
 have HR:Hid (∀i,i<l.length->∃g o gg ad ac t p A,ld=some ⟨g,o,none⟩/\gd=some ⟨gg,0,none⟩/\BkR w0 w nb fb l.length F gg gc i g o lc ad ac t p A):=λi D=>h.round hz hf ha D;have hn:F.length=l.length:=by simpa using abu List.length hf
 have HE:Hid (∀W,Kb (Lw.bs F) w W->W.heap[nb]?=some (.cells #[.slice (some ⟨fb,0,none⟩) (l.length+8) (l.length+8),.slice gd l.length gc] 192 (0,0))/\W.heap[fb]?=some (.cells (ax F++Lw.R6 8).toArray 48 (0,0))/\(ax F).length=l.length*2):=λW hW=>by
  obtain⟨h9,h8,_⟩:=h.kept (i:=F.length) (W:=W) (by rw[abS];exact hW);rw[hn]at h9;exact⟨h9,h8,by rw[aX,hn]⟩
 have HN:=aj hn;clear h hz hf ha hn
 go_enter func94,ntmps94
 go_wp2_with fail
 go_loopw [5,6] (λb i wr=>b=.bool true/\∃k:Nat,k<=l.length/\i=.int .i64 k/\Hid (Kb (Lw.bs (F.take k)) w wr)) (λ_ i _=>l.length-(intOf i).toNat)
 ·exact⟨rfl,0,IS _,rfl,Kb.refl _ _⟩
 ·
  rename World=>wo;obtain⟨rfl,k,hk,rfl,HW⟩:=hrel;by_cases aL:k<l.length
  ·have gD:decide ((k:Int)<l.length)=true:=aap (by omega);obtain⟨g,o,gg,ad,ac,t,p,A,rfl,rfl,O⟩:=HR.out k aL;have HB:=aj O;have hA:=O.leA;have aqf:=O.lel;have ao1:=O.leg;have YS:Hid (Kb (Lw.bs (F.take (k+1))) w wo):=by
    rw[O.bs];exact HW.out.mono (λi D _=>acH _ D)
   have H0:Hid (wo.heap[t]?=some (.cells (Lw.sA A 0).toArray 9 (0,0))):=O.row _ HW.out;obtain⟨H,v2,v3,v4,v5,v6,v7,v8,v9⟩:=O.SY _ YS.out;obtain⟨u1,u2,u3,-⟩:=O.src _ H;clear H O;have iu:(p.toList==p.toList)=true:=beq_self_eq_true _;have aV:(k:Int)<((l.length+8:Nat):Int):=by omega
   have cX:(k:Int)<l.length+8:=by omega
   go_upto_region 6 with fail
   obtain⟨wA,NP⟩:∃wA,wA=wo.alloc (.cells #[.string p,.slice (some ⟨t,0,none⟩) A.length (A.length+8)] 48):=⟨_,rfl⟩;have WZ:Hid (Kb (Lw.bs (F.take (k+1))) w wA/\wA.heap[t]?=some (.cells (Lw.sA A 0).toArray 9 (0,0))/\wA.heap[wo.heap.size]?=some (.cells #[.string p,.slice (some ⟨t,0,none⟩) A.length (A.length+8)] 48 (0,0))):=by
    rw[NP];refine⟨YS.out.alloc _, ?_,By _ _⟩;rw[aay _ _ _ (lt_of_heap H0.out)];exact H0.out
   rw[<-NP];have hfw:w.heap.size<=wo.heap.size:=YS.out.size;obtain⟨fv,Wm⟩:∃fv,fv=wo.heap.size:=⟨_,rfl⟩;rw[<-Wm]at WZ hfw;rw[<-Wm];clear NP v2 v3 v4 v5 v6 v7 v8 v9 u1 u2 u3 Wm HW YS H0;obtain⟨H,v2,v3,v4,v5,v6,v7,v8,v9⟩:=HB.out.SY _ WZ.out.1;obtain⟨u1,u2,u3,-⟩:=HB.out.src _ H;obtain⟨f0,f1,-,-,f4⟩:=bG WZ.out.2.2;clear H
   go_region_held3 (λW=>W.cell? ⟨fv,0,none⟩=some (.string p)/\W.cell? ⟨fv,1,none⟩=some (.slice (some ⟨t,0,none⟩) A.length (A.length+8))/\W.cell? ⟨g,o+k*2,none⟩=some (.string p)/\W.cell? ⟨g,o+k*2+1,none⟩=some (.slice ad A.length ac)) (go_keep) (fail)
   go_wp2_with fail
   clear v2 v3 v4 v5 v6 v7 v8 v9 u1 u2 u3 f0 f1 f4 iu
   go_loopw [5,8] (λb i wr=>b=.bool true/\∃j:Nat,j<=A.length+8/\i=.int .i64 j/\Hid (Kb (Lw.bs (F.take (k+1))) w wr/\wr.heap[t]?=some (.cells (Lw.sA A j).toArray 9 (0,0))/\wr.heap[fv]?=some (.cells #[.string p,.slice (some ⟨t,0,none⟩) A.length (A.length+8)] 48 (0,0)))) (λ_ i _=>A.length+8-(intOf i).toNat)
   ·exact⟨rfl,0,IS _,rfl,WZ.out.1.drew,WZ.out.2.1,WZ.out.2.2⟩
   ·
    obtain⟨rfl,j,hj,rfl,y⟩:=hrel;clear WZ;by_cases V:j<A.length+8
    ·have hd8:decide ((j:Int)<((A.length+8:Nat):Int))=true:=aap (by omega);have hd9:decide ((j:Int)<A.length+8)=true:=aap (by omega);obtain⟨H,v2,v3,v4,v5,v6,v7,v8,v9⟩:=HB.out.SY _ y.out.1;obtain⟨u1,u2,u3,u4⟩:=HB.out.src _ H;have aaS:=lt_of_heap y.out.2.1;have KE:=aJ y.out.2.1 j;have dp:(j:Int)<((A.length+8:Nat):Int):=by omega
     have jL:(j:Int)<A.length+8:=by omega
     have XS:IntKind.i64.wrap ((j:Int)+1)=(j:Int)+1:=by rw[aaR];omega
     have hcj:wr.cell? ⟨t,j,none⟩=(Lw.jo A 8)[j]?:=by rw[aq y.out.2.1,aaV,Lw.TC]
     have X:Hid (Kb (Lw.bs (F.take (k+1))) w (wr.setCell ⟨t,j,none⟩ (.string ⟨#[111,116,104,101,114,115]⟩))/\(wr.setCell ⟨t,j,none⟩ (.string ⟨#[111,116,104,101,114,115]⟩)).heap[t]?=some (.cells (Lw.sA A (j+1)).toArray 9 (0,0))/\(wr.setCell ⟨t,j,none⟩ (.string ⟨#[111,116,104,101,114,115]⟩)).heap[fv]?=some (.cells #[.string p,.slice (some ⟨t,0,none⟩) A.length (A.length+8)] 48 (0,0))):=by
      refine⟨y.out.1.trans ((Kb.setCell wr ⟨t,j,none⟩ _).mono (λi D _=>?_)), ?_, ?_⟩
      ·rw[HB.out.bs];simp only[aae]at D;simp[D]
      ·rw[aC _ y.out.2.1,IT];have:=Lw.OR (A:=A) V;unfold Lw.PN at this;rw[this]
      ·rw[abO _ _ _ _ (fM y.out.2.2 y.out.2.1)];exact y.out.2.2
     clear H;by_cases hjA:j<A.length
     ·have hdA:decide ((j:Int)<A.length)=true:=aap (by omega);obtain⟨sg,so,rfl,s1,s2,s3⟩:=u4.at hjA;rw[Lw.Qf hjA]at hcj;generalize A[j]=x at*;clear u4;have iu:(x.toList==x.toList)=true:=beq_self_eq_true _
      go_upto_region 11 with fail
      go_region_held3 (λW=>W.cell? ⟨nb,1,none⟩=some (.slice (some ⟨gg,0,none⟩) l.length gc)/\W.cell? ⟨gg,k,none⟩=some (.slice (some ⟨t,0,none⟩) (A.length+8) (A.length+8))/\W.cell? ⟨t,j,none⟩=some (.string x)/\W.cell? ⟨g,o+k*2+1,none⟩=some (.slice (some ⟨sg,so,none⟩) A.length ac)/\W.cell? ⟨sg,so+j,none⟩=some (.string x)) (go_keep) (fail)
      go_wp2_with fail
      go_roundw
      ·exact⟨rfl,j+1,V,by go_num,X.out.1.drew,X.out.2.1,X.out.2.2⟩
      ·(simp[intOf];omega)
     ·have hdA:decide ((j:Int)<A.length)=false:=aab (by omega);obtain⟨q,hq⟩:∃q,j=A.length+q:=⟨j-A.length,by omega⟩;have M:q<8:=by omega
      have abN:IntKind.i64.wrap ((j:Int)-A.length)=(q:Int):=by rw[aaR];omega
      have aji:wr.cell? ⟨t,j,none⟩=some (.string (Lw.bh q)):=by rw[hcj,hq,Lw.Mq M]
      have Ag:Hid (∀W:World,Calls prog 167 #[.int .i64 q] W λe w'=>e=.returned (.string ⟨(Lib.decDigits q).toArray⟩)/\w'=W):=λW=>nu q W;have vS:¬9223372036854775807<6+(Lib.decDigits q).toArray.size:=by
       rw[abz,wE q M];decide
      rw[show Lw.bh q=(⟨#[98,101,104,105,110,100]⟩:ByteArray)++⟨(Lib.decDigits q).toArray⟩from rfl]at aji;generalize (Lib.decDigits q).toArray=dd at*;clear hcj hq u4
      go_upto_region 12 with fail
      go_region_held3 (λW=>W.cell? ⟨nb,1,none⟩=some (.slice (some ⟨gg,0,none⟩) l.length gc)/\W.cell? ⟨gg,k,none⟩=some (.slice (some ⟨t,0,none⟩) (A.length+8) (A.length+8))/\W.cell? ⟨t,j,none⟩=some (.string ((⟨#[98,101,104,105,110,100]⟩:ByteArray)++⟨dd⟩))/\W.cell? ⟨g,o+k*2+1,none⟩=some (.slice ad A.length ac)) (go_keep) ((go_at_call 167;refine(Ag.out _).mono ?_;rintro e w3 ⟨rfl,h3⟩;subst h3))
      go_wp2_with fail
      go_roundw
      ·exact⟨rfl,j+1,V,by go_num,X.out.1.drew,X.out.2.1,X.out.2.2⟩
      ·(simp[intOf];omega)
    ·have hd8:decide ((j:Int)<((A.length+8:Nat):Int))=false:=aab (by omega);have hd9:decide ((j:Int)<A.length+8)=false:=aab (by omega);have H7:Hid (Kb (Lw.bs (F.take (k+1))) w wr/\wr.heap[t]?=some (.cells (Lw.sA A (A.length+8)).toArray 9 (0,0))/\wr.heap[fv]?=some (.cells #[.string p,.slice (some ⟨t,0,none⟩) A.length (A.length+8)] 48 (0,0))):=by
      obtain⟨a1,a2,a3⟩:=y.out;rw[show j=A.length+8 by omega]at a2;exact⟨a1,a2,a3⟩
     obtain⟨H,v2,v3,v4,v5,v6,v7,v8,v9⟩:=HB.out.SY _ y.out.1;clear y H
     go_wp2_with fail
     clear v2 v3 v4 v5 v6 v7 v8 v9
     go_loopw [5,9] (λb i wr=>b=.bool true/\∃q:Nat,q<=A.length/\i=.int .i64 q/\Hid (Kb (Lw.bs (F.take (k+1))) w wr/\wr.heap[t]?=some (.cells (Lw.sA A (A.length+8)).toArray 9 (0,0))/\wr.heap[fv]?=some (.cells #[.string p,.slice (some ⟨t,0,none⟩) A.length (A.length+8)] 48 (0,0)))) (λ_ i _=>A.length-(intOf i).toNat)
     ·exact⟨rfl,0,IS _,rfl,H7.out⟩
     ·
      obtain⟨rfl,q,hq,rfl,U⟩:=hrel;clear H7;obtain⟨f0,f1,-,-,f4⟩:=bG U.out.2.2;by_cases hqA:q<A.length
      ·have Z:decide ((q:Int)<A.length)=true:=aap (by omega);have ZU:wr.cell? ⟨t,q,none⟩=some (.string ⟨#[111,116,104,101,114,115]⟩):=by
        rw[aq U.out.2.1,aaV,Lw.Re (by omega)];rfl
       have aaS:=lt_of_heap U.out.2.1;have agP:IntKind.i64.wrap ((q:Int)+1)=(q:Int)+1:=by rw[aaR];omega
       go_wp2_with fail
       go_roundw
       ·exact⟨rfl,q+1,hqA,by go_num,U.out⟩
       ·(simp[intOf];omega)
      ·have Z:decide ((q:Int)<A.length)=false:=aab (by omega);have aoU:IntKind.i64.wrap ((k:Int)+1)=(k:Int)+1:=by rw[aaR];omega
       go_wp2_with fail
       go_roundw
       ·exact⟨rfl,k+1,aL,by go_num,U.out.1⟩
       ·(simp[intOf];omega)
  ·have gD:decide ((k:Int)<l.length)=false:=aab (by omega);have H8:Hid (Kb (Lw.bs F) w wo):=by
    have h9:=HW.out;rw[show k=F.length by have:=HN.out;omega,abS]at h9;exact h9
   clear HW HR
   go_wp2_with fail
   go_loopw [5,10] (λb i wr=>b=.bool true/\∃j:Nat,j<=8/\i=.int .i64 j/\Hid (Kb (Lw.bs F) w wr)) (λ_ i _=>8-(intOf i).toNat)
   ·exact⟨rfl,0,IS _,rfl,H8.out⟩
   ·
    obtain⟨rfl,j,hj,rfl,y⟩:=hrel;clear H8;by_cases V:j<8
    ·have hd8:decide ((j:Int)<8)=true:=aap (by omega);obtain⟨I,B,Y⟩:=HE.out _ y.out;obtain⟨z0,-,-,-,z4⟩:=bG I;have g0:wr.cell? ⟨fb,(l.length+j)*2,none⟩=some (.string (Lw.bh j)):=by
      rw[aq B,aaV,abr (by omega),show(l.length+j)*2-(ax F).length=j*2 by omega];exact(Lw.KU j V).1
     have g1:wr.cell? ⟨fb,(l.length+j)*2+1,none⟩=some (.slice none 0 0):=by
      rw[aq B,aaV,abr (by omega),show(l.length+j)*2+1-(ax F).length=j*2+1 by omega];exact(Lw.KU j V).2
     have Vn:=lt_of_heap B;have hwj:IntKind.i64.wrap ((l.length:Int)+j)=(l.length:Int)+j:=by rw[aaR];omega
     have XS:IntKind.i64.wrap ((j:Int)+1)=(j:Int)+1:=by rw[aaR];omega
     have hnj:((l.length:Int)+j).toNat=l.length+j:=by omega
     have cq:(0:Int)<=(l.length:Int)+j:=by omega
     have aV:(l.length:Int)+j<((l.length+8:Nat):Int):=by omega
     have cX:(l.length:Int)+j<(l.length:Int)+8:=by omega
     have Ag:Hid (∀W:World,Calls prog 167 #[.int .i64 j] W λe w'=>e=.returned (.string ⟨(Lib.decDigits j).toArray⟩)/\w'=W):=λW=>nu j W;have vS:¬9223372036854775807<6+(Lib.decDigits j).toArray.size:=by
      rw[abz,wE j V];decide
     rw[show Lw.bh j=(⟨#[98,101,104,105,110,100]⟩:ByteArray)++⟨(Lib.decDigits j).toArray⟩from rfl]at g0;generalize (Lib.decDigits j).toArray=dd at*;clear I B Y
     go_upto_region 22 with fail
     obtain⟨wB,J⟩:∃wB,wB=wr.alloc (.cells #[.string ((⟨#[98,101,104,105,110,100]⟩:ByteArray)++⟨dd⟩),.slice none 0 0] 48):=⟨_,rfl⟩;have jP:Hid (Kb (Lw.bs F) w wB):=by
      rw[J];exact y.out.alloc _
     have tH:wB.heap[wr.heap.size]?=some (.cells #[.string ((⟨#[98,101,104,105,110,100]⟩:ByteArray)++⟨dd⟩),.slice none 0 0] 48 (0,0)):=by
      rw[J];exact By _ _
     obtain⟨fv,Wm⟩:∃fv,fv=wr.heap.size:=⟨_,rfl⟩;rw[<-Wm]at tH;rw[<-J,<-Wm];obtain⟨f0,f1,-,-,f4⟩:=bG tH;have iu:(((⟨#[98,101,104,105,110,100]⟩:ByteArray)++⟨dd⟩).toList==((⟨#[98,101,104,105,110,100]⟩:ByteArray)++⟨dd⟩).toList)=true:=beq_self_eq_true _;clear J Wm tH z0 z4 g0 g1 Vn y
     go_region_held3 (λW=>W.cell? ⟨fv,0,none⟩=some (.string ((⟨#[98,101,104,105,110,100]⟩:ByteArray)++⟨dd⟩))/\W.cell? ⟨fv,1,none⟩=some (.slice none 0 0)) (go_keep) ((go_at_call 167;refine(Ag.out _).mono ?_;rintro e w3 ⟨rfl,h3⟩;subst h3))
     go_wp2_with fail
     go_roundw
     ·exact⟨rfl,j+1,V,by go_num,jP.out.drew⟩
     ·(simp[intOf];omega)
    ·have hd8:decide ((j:Int)<8)=false:=aab (by omega);have H5:Hid (Kb (fb::Lw.bs F) w wr/\wr.heap[nb]?=some (.cells #[.slice (some ⟨fb,0,none⟩) (l.length+8) (l.length+8),.slice gd l.length gc] 192 (0,0))/\∃xs:List Value,wr.heap[fb]?=some (.cells xs.toArray 48 (0,0))/\xs.length=(l.length+8)*2):=by
      obtain⟨I,B,Y⟩:=HE.out _ y.out;exact⟨y.out.mono (λi D _=>adr _ D),I,_,B,by rw[If,Y,Lw.CK];omega⟩
     clear y HE
     go_wp2_with fail
     go_loopw [12] (λi wr=>∃q:Nat,q<=l.length+8/\i=.int .i64 q/\Hid (Kb (fb::Lw.bs F) w wr/\wr.heap[nb]?=some (.cells #[.slice (some ⟨fb,0,none⟩) (l.length+8) (l.length+8),.slice gd l.length gc] 192 (0,0))/\∃xs:List Value,wr.heap[fb]?=some (.cells xs.toArray 48 (0,0))/\xs.length=(l.length+8)*2)) (λi _=>l.length+8-(intOf i).toNat)
     ·exact⟨0,IS _,rfl,H5.out⟩
     ·
      obtain⟨q,hq,rfl,U⟩:=hrel;clear H5;obtain⟨q0,I,xs,B,Y⟩:=U.out;obtain⟨z0,-,-,-,z4⟩:=bG I;by_cases M:q<l.length+8
      ·have Z:decide ((q:Int)<((l.length+8:Nat):Int))=true:=aap (by omega);have P6:decide ((q:Int)<l.length+8)=true:=aap (by omega);have dp:(q:Int)<((l.length+8:Nat):Int):=by omega
       have jL:(q:Int)<l.length+8:=by omega
       have Vn:=lt_of_heap B;have NX:nb≠fb:=fM I B;have cE:=aJ B (q*2);have ch:=aJ B (q*2+1);have c0:wr.cell? ⟨fb,q*2,none⟩=some (xs[q*2]'(by omega)):=by rw[aq B,aaV];exact AS _
       have c1:wr.cell? ⟨fb,q*2+1,none⟩=some (xs[q*2+1]'(by omega)):=by rw[aq B,aaV];exact AS _
       generalize xs[q*2]'(by omega)=y0 at c0;generalize xs[q*2+1]'(by omega)=y1 at c1;have X:Hid (∀u v:Value,Kb (fb::Lw.bs F) w ((wr.setCell ⟨fb,q*2,none⟩ u).setCell ⟨fb,q*2+1,none⟩ v)/\((wr.setCell ⟨fb,q*2,none⟩ u).setCell ⟨fb,q*2+1,none⟩ v).heap[nb]?=some (.cells #[.slice (some ⟨fb,0,none⟩) (l.length+8) (l.length+8),.slice gd l.length gc] 192 (0,0))/\∃xs:List Value,((wr.setCell ⟨fb,q*2,none⟩ u).setCell ⟨fb,q*2+1,none⟩ v).heap[fb]?=some (.cells xs.toArray 48 (0,0))/\xs.length=(l.length+8)*2):=λu v=>by
        have k1:=Kb.setCell wr ⟨fb,q*2,none⟩ u;have k2:=Kb.setCell (wr.setCell ⟨fb,q*2,none⟩ u) ⟨fb,q*2+1,none⟩ v;have kk:Kb [fb] wr ((wr.setCell ⟨fb,q*2,none⟩ u).setCell ⟨fb,q*2+1,none⟩ v):=(k1.mono (S':=[fb]) (λi D _=>by simpa using D)).trans (k2.mono (λi D _=>by simpa using D));refine⟨q0.trans (kk.mono (λi D _=>by simp only[aae]at D;simp[D])),kk.heap I (by simpa using NX),(xs.set (q*2) u).set (q*2+1) v, ?_,by simp[Y]⟩;rw[aC _ (aC _ B (q*2) u) (q*2+1) v,IT,IT]
       have agP:IntKind.i64.wrap ((q:Int)+1)=(q:Int)+1:=by rw[aaR];omega
       clear q0 I B Y U
       go_wp2_with fail
       go_roundw
       ·exact⟨q+1,M,by go_num,X.out _ _⟩
       ·(simp[intOf];omega)
      ·have Z:decide ((q:Int)<((l.length+8:Nat):Int))=false:=aab (by omega);have P6:decide ((q:Int)<l.length+8)=false:=aab (by omega);have H9:=aj q0;clear q0 I B Y U
       go_wp2_with fail
       go_ret;exact⟨rfl,H9.out⟩
/- axiomlaw: Apply by both: the same answer, and both hold the same. No walk here. -/
theorem kX.ql(h:kX w B N x):(∀p,p∈x.Q->1<=p.2/\p.2<=3)/\(∀p,(x.R p).length<=40)/\x.G.length<=1000:=by
 have hs:=h.tw.len h.p.gq h.p.Ai.names;rw[aaL]at hs;refine⟨λp H=>?_,λp=>?_, ?_⟩
 ·obtain⟨a,e,rfl⟩:=aax.1 ((h.tw.qs p).1 H);obtain⟨r,D,e⟩:=aa9.1 e;obtain⟨A,k2⟩:=h.tw.ok.ok.atoms r D a e;exact⟨List.length_pos_iff.2 A.1,k2⟩
 ·cases q:x.R p with
  | nil=>simp
  | cons r l=>
   obtain⟨a,e,_⟩:=(h.tw.rows p r).1 (by rw[q];simp);obtain⟨t,i,y,_⟩:=h.p.gq.has _ (wm (h.tw.CD _ e)).1;have u:=Gh i;have j:=(h.p.gq.sub t i).2;simp only at y;rw[y,q]at j;rw[j]at u;have:=h.my;omega
 ·have u:(x.G.map λt=>(t.nm,t.pl)).Nodup:=by
   have I:=h.p.Ai.names;have:(x.G.map GT.nm)=(x.G.map λt=>(t.nm,t.pl)).map Prod.fst:=by simp[Function.comp_def]
   rw[this]at I;grind
  obtain⟨all,j,M⟩:=h.tw.ok.ok.lj;have J:(x.G.map GT.nm).length<=all.length:=by
   refine acM h.p.Ai.names (λa e=>?_);obtain⟨t,i,rfl⟩:=aax.1 e;exact M _ ((h.tw.qs _).1 (h.p.gq.sub t i).1)
  rw[aaL]at J;omega
theorem kX.vW(h:kX w B N x)(p:ByteArray)(a:List ByteArray):vW x.o p a=nf x.Q p a:=by
 have hm:∀y,y∈x.o↔y∈bo x.rs:=λy=>by rw[h.os.mem_iff,Ax.zL h.tw.ok.ok.one]
 exact SR (λa i b e=>h.tw.ok.ok.one a ((hm a).1 i) b ((hm b).1 e)) (λy=>by rw[hm,h.tw.qs]) p a
theorem kX.yi(h:kX w B N x)(p:ByteArray):yi x.o p<0↔∀n,¬(p,n)∈x.Q:=by
 have hm:∀y,y∈x.o↔y∈x.Q:=λy=>by rw[h.os.mem_iff,Ax.zL h.tw.ok.ok.one,h.tw.qs]
 have t:Pd.One x.o:=λa j b i=>h.tw.ok.ok.one a ((h.tw.qs a).1 ((hm a).1 j)) b ((h.tw.qs b).1 ((hm b).1 i));constructor
 ·intro u n e;rw[wu t ((hm _).2 e)]at u;omega
 ·intro e;rw[yb (λn q=>e n ((hm _).1 q))];decide
theorem wM(h:kX w B N x){l F}(e:F.map FI.f=l.map FI.f):okF x.o l=mh x.Q F:=by
 have j:okF x.o l=(l.map FI.f).all λf=>nf x.Q f.1 f.2:=by
  unfold okF;rw[List.all_map];exact List.all_congr rfl (λf=>h.vW f.pred f.args)
 have i:mh x.Q F=(F.map FI.f).all λf=>nf x.Q f.1 f.2:=by
  unfold mh;rw[List.all_map];exact List.all_congr rfl (λf=>rfl)
 rw[j,i,e]
theorem kX.small(h:kX w B N x){l}(y:mh x.Q l=true)(J:l.length<=64):mj l/\(Rc.dK l).length<=50000:=by
 have q:∀f,f∈l->f.pred.size<=600/\f.args.length<=3/\∀a,a∈f.args->a.size<=24:=λf e=>by
  have j:=aeM.1 y f e;obtain⟨D,A⟩:=pB h.tw.ok (h.tw.LI j);exact⟨D,A,λa i=>Ax.iB ((wm j).2 a i)⟩
 refine⟨⟨by omega,λf e=>by have:=(q f e).1;omega,λf e=>by have:=(q f e).2.1;omega,λf e a i=>by have:=(q f e).2.2 a i;omega⟩, ?_⟩;have u:∀{t:ByteArray} {k:Nat},t.size<=k->k<=1000->(Rc.bU t).length<=k+10:=λ{t k} O M=>by
  unfold Rc.bU;rw[If];have:=Rc.lN t.size (by omega);have U:t.data.toList.length=t.size:=abP;omega
 have j:∀f,f∈l->(Rc.eL f).length<=720:=λf e=>by
  obtain⟨I,V,H⟩:=q f e;unfold Rc.eL;rw[If];have b1:=u I (by omega);have b2:=Rc.mJ Rc.bU 34 f.args (λa i=>u (H a i) (by omega));omega
 unfold Rc.dK;rw[If];have b1:=Rc.lN l.length (by omega);have b2:=Rc.mJ Rc.eL 720 l j;omega
structure VO(w3 w5:World)(B N:Nat)(x x':EP):Prop where
 two:kX w5 B N x'
 kb:Kb (x.eg::x.rg::x.lv.ownBlock.toList) w3 w5
 eg:x'.eg=x.eg
 rg:x'.rg=x.rg
 lv:aZ w3 x.lv x'.lv
 st:∀q,tO x'.rl x'.Gf x'.out q->tO x.rl x.Gf x.out q\/w3.heap.size<=q
 ms:∀q,L5 x' q->L5 x q\/w3.heap.size<=q
theorem VO.same{e j}(h:kX e B N x)(t:Below e.heap.size e j):VO e j B (N+1) x x:=⟨(h.below t).mono (aej N),Kb.bD t _,rfl,rfl,aZ.refl _ _,λq i=>.inl i,λq i=>.inl i⟩
theorem kX.Sf(h:kX w B N x):x.eg≠x.rg/\∀q,x.lv.ownBlock=some q->q≠x.eg/\q≠x.rg/\∃i fz,w.heap[q]?=some (.cells i 5 fz):=by
 obtain⟨u,t⟩:=h.log;refine⟨fM h.p.aY h.r.aY,λq j=>?_⟩;obtain⟨i,fz,e⟩:=au t q j;exact⟨fM e h.p.aY,fM e h.r.aY,i,fz,e⟩
theorem kX.ad6{w'}(h:kX w B N x)(D:Kb (x.eg::x.lv.ownBlock.toList) w w'):qD w' x.rg x.rl x.o x.pl x.Gf x.out x.bs x.rh x.qv x.pv x.gv x.mv x.cv:=by
 obtain⟨M,H⟩:=h.Sf;have I:∀b,b∈x.eg::x.lv.ownBlock.toList->b=x.eg\/x.lv.ownBlock=some b:=λb u=>by
  rcases BY.1 u with e | e
  ·exact .inl e
  ·exact .inr (by simpa using e)
 have A:∀q,L5 x q->¬q∈x.eg::x.lv.ownBlock.toList:=λq j hm=>by
  have y:∀{i:Array Value} {t:TypeId} {fz:Nat×Nat},w.heap[q]?=some (.cells i t fz)->t≠109->t≠5->False:=λe n1 n2=>by
   rcases I _ hm with rfl | O
   ·rw[h.p.aY]at e;simp only[AT,aa1]at e;exact n1 e.2.1.symm
   ·grind
  rcases h.Dv q j with⟨i,fz,e⟩ | ⟨i,fz,e⟩
  ·exact y e (by decide) (by decide)
  ·exact y e (by decide) (by decide)
 refine h.r.kb D (Ch.cons h.p.aY (by decide) (λb u J=>?_)) (λhm=>?_) (λq j=>A q (.inl j)) (λq j=>A q (.inr j))
 ·obtain⟨_,_,i,fz,e⟩:=H b (by simpa using u);exact⟨i,_,fz,e,by decide⟩
 ·grind
theorem SV{A J w5}(h:kX A B N x)(hB:B<=A.heap.size){I H ay gone}(ec:I.map FI.f=ay.map FI.f)(eg:H.map FI.f=gone.map FI.f){e1 e2}(D:gA A x.eg x.rs x.pl x.Q x.R x.rv x.lv x.l x.ln I H e1 J)(t:ie J x.rg x.rl x.o x.pl (x.Gf.map FI.f) x.bs x.qv x.pv ay gone 100000 e2 w5):
 ∃c:Int,e1=.returned (.int .i64 c)/\e2=.returned (.int .i64 c)/\∃x',VO A w5 B (N+1) x x':=by
 have lc:I.length=ay.length:=by simpa using abu List.length ec
 have lg:H.length=gone.length:=by simpa using abu List.length eg
 have hs:∀{w':World},Below A.heap.size A J->Below J.heap.size J w'->Below A.heap.size A w':=λa b=>a.trans (b.mono a.size);unfold gA at D;unfold ie at t;rw[wM h ec,wM h eg,<-lc,<-lg,<-ec,<-eg]at t;split at D
 ·rename_i MD;rw[aa3 MD]at t;exact⟨3,D.1,t.1,x,VO.same h (hs D.2 t.2)⟩
 ·rename_i MD;rw[aaD MD]at t;split at D
  ·rename_i j;rw[aa3 j]at t;exact⟨6,D.1,t.1,x,VO.same h (hs D.2 t.2)⟩
  ·rename_i j;rw[aaD j,h.rr]at t;simp only[Bool.not_eq_false,acK]at j;have O:=h.tw.next j.1 j.2;rcases D with⟨q1,U,M,u,q4,q5,q6⟩ | ⟨q1,U,s',gm',hm',M,T',ox,Xj,V,lx',u,q4,q5,q6,q7⟩
   ·have hl:=O.len u q4;have Z:=O.both u q4;have hn:(if 40<(Rf.jV (H.map FI.f) [] (x.Gf.map FI.f++I.map FI.f)).length then none else Rf.tN x.rs 300 (Rf.jV (H.map FI.f) [] (x.Gf.map FI.f++I.map FI.f)) true [])=none:=by grind
    rw[hn]at t;exact⟨7,q1,t.1,x,VO.same h (hs U t.2)⟩
   ·have hl:=O.len u.gq u.Ai.names;have Z:=O.both u.gq u.Ai.names;rw[aaD (by omega)]at t;split at Z
    ·rename_i L hL;rw[hL]at t;obtain⟨k1,k2,G',Dt,vN,ib,V4,Wh,cv',k3,k4,k5,k6,k7,k8,k9⟩:=t;have Xg:=O.fS u.gq u.Ai.names u.YP hL;have cp:=U.size;have Tn:∃Y fz,J.heap[x.rg]?=some (.cells Y 269 fz):=⟨_,_,(h.ad6 U).aY⟩;obtain⟨aoe,rfz,Tn⟩:=Tn;have X:∀q,Xj.ownBlock=some q->B<=q/\q≠x.rg:=λq j=>by
      obtain⟨Y,fz,e⟩:=au q5 q j;refine⟨?_,fM e Tn⟩;rcases q7 q j with e9 | e9
      ·obtain⟨lx,h9⟩:=h.log;exact(h9.lt q e9).1
      ·omega
     have hp5:jl w5 x.eg x.rs x.pl x.Q (fO (dI x.R I) H) s' x.rv gm' hm' x.l M T' ox Xj:=u.kb k2 (Ch.one Tn (by decide)) (by simpa using h.Sf.1);have ah7:Tw x.rs x.Q (fO (dI x.R I) H) (G'.map FI.f):=by
      rw[k4];exact O
     refine⟨0,q1,k1,{x with R:=fO (dI x.R I) H,s:=s',gm:=gm',hm:=hm',G:=M,T:=T',hd:=ox,lv:=Xj,ln:=V,Gf:=G',out:=Dt,bs:=vN,rh:=ib,gv:=V4,mv:=Wh,cv:=cv'},⟨hp5,⟨lx',k2.row (gM q5 (λq j=>(X q j).1)) (λq j=>by simpa using(X q j).2)⟩,k3,h.rr,h.os,ah7, ?_, ?_, ?_, ?_, ?_,h.ge⟩, ?_,rfl,rfl,q7, ?_, ?_⟩
     ·grind
     ·grind
     ·have:=h.ln;show V<=100100*(N+1);omega
     ·have:=h.bs;show vN.size<=300000*(N+1);omega
     ·show ib.size<=32;omega
     ·refine Kb.trans' (U.mono (λi hi _=>?_)) k2 (λi hi _=>?_)
      ·grind
      ·grind
     ·intro q j;rcases j with⟨r,hr,y,hy,j⟩ | ⟨f,hf,j⟩
      ·exact .inl (.inl ⟨r,hr,y,hy,j⟩)
      ·grind
     ·intro q j;rcases j with(⟨r,hr,y,hy,j⟩ | ⟨f,hf,j⟩) | j
      ·exact .inl (.inl (.inl ⟨r,hr,y,hy,j⟩))
      ·grind
      ·have:=k9 q j;exact .inr (by omega)
    ·rw[u.YP]at Z;cases Z
/- axiomlaw: World.facts: what the loans and a change leave. -/
section
variable {w00 w W W':World} {nb fb k:Nat} {F:List FI} {gd:Option Addr} {gc:Nat}
theorem mS.QF(h:mS w W nb fb F gd gc k)(e:Below w00.heap.size w00 w):mS w00 W nb fb F gd gc k:=
 ⟨h.aY,h.xN,λf i=>by obtain⟨t,q,j,e3⟩:=h.each f i;exact⟨t,q,aaK e.size j,e3⟩,aD h.row e.size,h.apart,e.trans (h.be.mono e.size),aaK e.size h.ge.1,aaK e.size h.ge.2⟩
theorem mS.M5{S}(h:mS w W nb fb F gd gc k)(i:Kb S W W')(A:∀b,b∈S->w.heap.size<=b)(q:∀b,b∈S->∀j t fz,W.heap[b]?=some (.cells j t fz)->t≠192/\t≠46/\(t=48->b≠fb)/\(t=9->∀f,f∈F->f.av.ownBlock≠some b)):mS w W' nb fb F gd gc k:=by
 refine⟨i.heap h.aY (λhm=>(q _ hm _ _ _ h.aY).1 rfl),i.heap h.xN (λhm=>(q _ hm _ _ _ h.xN).2.2.1 rfl rfl),λf u=>?_,i.aR h.row (λb j fz y e=>(q b y _ _ _ e).2.1 rfl),h.apart,i.aQ h.be h.be.size A,h.ge⟩;obtain⟨D,x,B,e3⟩:=h.each f u;exact⟨D,x,B,i.heap e3 (λhm=>(q _ hm _ _ _ e3).2.2.2 rfl f u (by rw[x];rfl))⟩
theorem mS.facts(h:mS w W nb fb F gd gc 8)(t:F.length<=1048576)(i:∀f,f∈F->f.args.length<=1048576):bJ W (some ⟨fb,0,none⟩) (F.length+8) F:=by
 have hlen:=aX F;refine⟨⟨hlen,.inr ⟨fb,F.length+8,_,rfl,IS _,h.xN,by omega,by unfold maxLen;omega, ?_, ?_⟩⟩,λf e=>?_⟩
 ·rw[abz,If,hlen,Lw.CK];omega
 ·grind
 ·obtain⟨q,j,x,e3⟩:=h.each f e;have u:=i f e;unfold FI.ok;rw[j];refine⟨by simp[strCells],.inr ⟨q,f.args.length+8,_,rfl,IS _,e3,by omega,by unfold maxLen;omega, ?_, ?_⟩⟩
  ·rw[abz,Lw.yN _ (OF 8),Nat.mul_one]
  ·rw[adJ,Nat.mul_one];unfold Lw.jo strCells;rw[aa8,aa6,aeB (by simp)]
theorem mS.yO(h:mS w W nb fb F gd gc k):∀b,b∈fb::Lw.bs F->w.heap.size<=b/\((b=fb/\∃i,W.heap[b]?=some (.cells i 48 (0,0)))\/((∃f,f∈F/\f.av.ownBlock=some b)/\∃i,W.heap[b]?=some (.cells i 9 (0,0)))):=by
 intro b j;rcases BY.1 j with rfl | j
 ·exact⟨h.ge.2,.inl ⟨rfl,_,h.xN⟩⟩
 ·unfold Lw.bs at j;obtain⟨f,q,e⟩:=acz.1 j;obtain⟨x,t,u,e3⟩:=h.each f q;have e':=e;rw[t]at e;simp only[Value.ownBlock,AT]at e;subst e;grind
theorem mS.yJ(h:mS w W nb fb F gd gc k)(e:Kb (Lw.bs F) W W'):Below w.heap.size w W':=e.aQ h.be h.be.size (λb i=>(h.yO b (adr _ i)).1)
end
section
variable {w0 w w':World} {wb:Nat} {ev qv k2 k3 k4 fv av bV bW:Value} {n:Nat} {FP AP:List fh} {E:List EP} {N:Nat}
theorem WI.apply(h:WI w0 w wb ev qv k2 k3 k4 fv av bV bW n FP AP E N (qV E) (qO E)){k}(hk:k<E.length){A}(kJ:Kb ((E[k]).eg::(E[k]).rg::(E[k]).lv.ownBlock.toList) w w')(M2:kX w' w0.heap.size (N+1) A)(ZA:A.eg=(E[k]).eg)(I9:A.rg=(E[k]).rg)(Mb:aZ w (E[k]).lv A.lv)(gT:∀q,tO A.rl A.Gf A.out q->tO (E[k]).rl (E[k]).Gf (E[k]).out q\/w.heap.size<=q):
 WI w0 w' wb ev qv k2 k3 k4 fv av bV bW n FP AP (E.set k A) (N+1) (qV (E.set k A)) (qO (E.set k A)):=by
 have H:=h.Ds _ (IN hk);obtain⟨x1,x2⟩:=H.Sf;have U:∀b,b∈(E[k]).eg::(E[k]).rg::(E[k]).lv.ownBlock.toList->b=(E[k]).eg\/b=(E[k]).rg\/(E[k]).lv.ownBlock=some b:=λb I=>by
  rcases BY.1 I with e | I
  ·exact .inl e
  ·grind
 have wF:∀b,b∈(E[k]).eg::(E[k]).rg::(E[k]).lv.ownBlock.toList->∀x t fz,w.heap[b]?=some (.cells x t fz)->t=109\/t=269\/t=5:=λb I x t fz e=>by
  rcases U b I with rfl | rfl | I
  ·rw[H.p.aY]at e;simp only[AT,aa1]at e;exact .inl e.2.1.symm
  ·rw[H.r.aY]at e;simp only[AT,aa1]at e;exact .inr (.inl e.2.1.symm)
  ·grind
 have fP:∀{b:Nat} {x:Array Value} {t:TypeId} {fz:Nat×Nat},w.heap[b]?=some (.cells x t fz)->t≠109->t≠269->t≠5->¬b∈(E[k]).eg::(E[k]).rg::(E[k]).lv.ownBlock.toList:=λe n1 n2 n3 hm=>by
  rcases wF _ hm _ _ _ e with e | e | e
  ·exact n1 e
  ·exact n2 e
  ·exact n3 e
 have hch:Ch w ((E[k]).eg::(E[k]).rg::(E[k]).lv.ownBlock.toList):=Ch.cons H.p.aY (by decide) (Ch.cons H.r.aY (by decide) (λb I _=>by
  obtain⟨_,_,V,O,u⟩:=x2 b (by simpa using I);exact⟨V,_,O,u,by decide⟩))
 have JM:∀f:EP->Value,f A=f E[k]->(E.set k A).map f=E.map f:=λf e=>by
  refine aeL (by simp) (λi h1 h2=>?_);rw[adj,adj,List.getElem_set];split
  ·rename_i u;subst u;exact e
  ·rfl
 have e1:qV (E.set k A)=qV E:=JM _ (by rw[ZA]);have e2:qO (E.set k A)=qO E:=JM _ (by rw[I9]);have bC:∀{T:TypeId} {v:Value} {m:Nat} {ys:List Value},w.ownsRow w0.heap.size T 1 v m ys->T≠109->T≠269->T≠5->w'.ownsRow w0.heap.size T 1 v m ys:=λho n1 n2 n3=>kJ.aR ho (λb x fz I e=>fP e n1 n2 n3 I);have qQ:=adF.1 h.apart;have kQ:∀j (B:j<E.length),j≠k->(E[j]).eg≠(E[k]).eg/\(E[j]).rg≠(E[k]).rg/\∀q,(E[j]).lv.ownBlock=some q->(E[k]).lv.ownBlock≠some q:=λj B cB=>by
  rcases Nat.lt_or_gt_of_ne cB with X | X
  ·exact qQ j k B hk X
  ·grind
 have X:∀{y:EP},kX w w0.heap.size N y->∀q,y.lv.ownBlock=some q->q<w.heap.size:=λhy q D=>by
  obtain⟨_,_,V,O,u⟩:=hy.Sf.2 q D;exact lt_of_heap u
 rw[e1,e2];refine⟨kJ.aQ h.be h.be.size (λi J=>?_),h.bk.kb kJ (λb I=>⟨λe=>?_,λx T fz e=>?_⟩),bC h.es (by decide) (by decide) (by decide),bC h.qs (by decide) (by decide) (by decide),λy hy=>?_, ?_,λy hy=>?_, ?_⟩
 ·rcases U i J with rfl | rfl | J
  ·exact H.ge.1
  ·exact H.ge.2
  ·obtain⟨lx,h1⟩:=H.log;exact(h1.lt i J).1
 ·rw[e]at I;exact fP h.bk.rows.aY (by decide) (by decide) (by decide) I
 ·grind
 ·obtain⟨j,B,e⟩:=acf hy;rw[aeS]at B;rw[List.getElem_set]at e;split at e
  ·rw[<-e];exact M2
  ·rename_i cB;rw[<-e];have M:=h.Ds _ (IN B);obtain⟨a1,Z,Y⟩:=kQ j B (λe=>cB e.symm);obtain⟨y1,y2⟩:=M.Sf;refine(M.mono (aej N)).kb kJ hch (λhm=>?_) (λhm=>?_) (λq D hm=>?_) (λq D=>?_)
   ·rcases U _ hm with e | e | e
    ·exact a1 e
    ·exact fM M.p.aY H.r.aY (by decide) e
    ·obtain⟨_,_,V,O,u⟩:=x2 _ e;rw[M.p.aY]at u;simp at u
   ·rcases U _ hm with e | e | e
    ·exact fM M.r.aY H.p.aY (by decide) e
    ·exact Z e
    ·obtain⟨_,_,V,O,u⟩:=x2 _ e;rw[M.r.aY]at u;simp at u
   ·obtain⟨_,_,V,O,u⟩:=y2 q D;rcases U _ hm with rfl | rfl | e
    ·rw[H.p.aY]at u;simp at u
    ·rw[H.r.aY]at u;simp at u
    ·exact Y q D e
   ·rcases M.Dv q D with⟨x,fz,e⟩ | ⟨x,fz,e⟩
    ·grind
    ·grind
 ·rw[adF];intro i j J B RP;rw[aeS]at J B;rw[List.getElem_set,List.getElem_set];split
  ·rename_i e;rw[aaD (by omega)];subst e;obtain⟨a1,Z,Y⟩:=kQ j B (by omega);refine⟨by rw[ZA];exact λe=>a1 e.symm,by rw[I9];exact λe=>Z e.symm,λq D e=>?_⟩;rcases Mb q D with u | u
   ·exact Y q e u
   ·have:=X (h.Ds _ (IN B)) q e;omega
  ·split
   ·rename_i _ e;subst e;obtain⟨a1,Z,Y⟩:=kQ i J (by omega);refine⟨by rw[ZA];exact a1,by rw[I9];exact Z,λq D e=>?_⟩;rcases Mb q e with u | u
    ·exact Y q D u
    ·have:=X (h.Ds _ (IN J)) q D;omega
   ·exact qQ i j J B RP
 ·obtain⟨j,B,e⟩:=acf hy;rw[aeS]at B;rw[List.getElem_set]at e;split at e
  ·rw[<-e];intro q D;rcases gT q D with h9 | h9
   ·exact h.off _ (IN hk) q h9
   ·refine⟨λu=>?_,λu=>?_⟩
    ·obtain⟨c8,f8,e8⟩:=au h.bk.rows.fm _ u;have:=lt_of_heap e8;omega
    ·obtain⟨c8,f8,e8⟩:=au h.bk.rows.am _ u;have:=lt_of_heap e8;omega
  ·rw[<-e];exact h.off _ (IN B)
 ·have:=h.len;rw[aeS];omega
end
variable{x:EP}{ay:List FI}{i N j gc q:Nat}{gd:Option Addr}{u1 u2:Value}{w w' w0 W W':World}
structure tJ where
 kd:Int
 a:Int
 b:Int
 wh:Int
 S:ByteArray
 T:ByteArray
 fp:ByteArray
 fa:List ByteArray
 fd:Option Addr
 fc:Nat
 ay:List FI
 cd:Option Addr
 cc:Nat
 gone:List FI
 gd:Option Addr
 gc:Nat
def tJ.cells(d:tJ):Array Value:=#[.int .i64 d.kd,.int .i64 d.a,.int .i64 d.b,.int .i64 d.wh,.string d.S,.string d.T,.string d.fp,.slice d.fd d.fa.length d.fc,.slice d.cd d.ay.length d.cc,.slice d.gd d.gone.length d.gc]
structure RY(w0:World)(d:tJ):Prop where
 ay:vD w0 d.cd d.cc d.ay
 gone:vD w0 d.gd d.gc d.gone
 fact:dr w0 (.slice d.fd d.fa.length d.fc) d.fa
 fl:d.fa.length<=1048576
 fs:∀a,a∈d.fa->a.size<=1048576
 ss:d.S.size<=1048576
 ps:d.fp.size<=1048576
 wr:-9223372036854775808<=d.wh/\d.wh<=9223372036854775807
 cs:∀f,f∈d.ay->f.pred.size<=1048576/\∀a,a∈f.args->a.size<=1048576
 gs:∀f,f∈d.gone->f.pred.size<=1048576/\∀a,a∈f.args->a.size<=1048576
theorem gA.shape{eg rs pl Q R rv lv l ln gone e}(h:gA w eg rs pl Q R rv lv l ln ay gone e w'):(∃c:Int,e=.returned (.int .i64 c))/\Kb (eg::lv.ownBlock.toList) w w':=by
 unfold gA at h;split at h
 ·exact⟨⟨_,h.1⟩,Kb.bD h.2 _⟩
 ·split at h
  ·exact⟨⟨_,h.1⟩,Kb.bD h.2 _⟩
  ·rcases h with⟨j,i,_⟩ | ⟨j,i,_⟩
   ·exact⟨⟨_,j⟩,Kb.bD i _⟩
   ·exact⟨⟨_,j⟩,i⟩
theorem ie.shape{rg rl o pl i bs rv pv gone L e}(h:ie w rg rl o pl i bs rv pv ay gone L e w'):(∃c:Int,e=.returned (.int .i64 c))/\Kb [rg] w w':=by
 unfold ie at h;split at h
 ·exact⟨⟨_,h.1⟩,Kb.bD h.2 _⟩
 ·split at h
  ·exact⟨⟨_,h.1⟩,Kb.bD h.2 _⟩
  ·split at h
   ·exact⟨⟨_,h.1⟩,Kb.bD h.2 _⟩
   ·exact⟨⟨_,h.1⟩,h.2.1⟩
theorem kX.XQ(K:Nat->Int)(u:Below w0.heap.size w0 W)(V:Dg.EA w0 K)(U:gJ w0)(hN:N<=100000)(h:kX W w0.heap.size N x){cd cc j i}(Y:bJ W cd cc j)(X:bJ W gd gc i)(l1:j.length<=1048576)(l2:i.length<=1048576)(B:∀f,f∈j->f.pred.size<=1048576/\∀a,a∈f.args->a.size<=1048576)(A:∀f,f∈i->f.pred.size<=1048576/\∀a,a∈f.args->a.size<=1048576):
 Calls prog 38 #[.pointer (some ⟨x.eg,0,none⟩),.slice cd j.length cc,.slice gd i.length gc] W λe w'=>gA W x.eg x.rs x.pl x.Q x.R x.rv x.lv x.l x.ln j i e w':=by
 obtain⟨F,E,D⟩:=h.ql;obtain⟨J,q⟩:=h.log;have y:∀{l:List FI},(∀f,f∈l->f.pred.size<=1048576/\∀a,a∈f.args->a.size<=1048576)->∀f,f∈l->f.pred.size<=100000000/\∀a,a∈f.args->a.size<=maxLen:=λw f t=>⟨by have:=(w f t).1;omega,λa O=>by have:=(w f t).2 a O;unfold maxLen;omega⟩;refine Il K W x.eg x.rs x.pl x.Q x.R x.s x.rv x.gm x.hm x.l x.G x.T x.hd x.lv h.p h.tw.ok.ok (λp M=>(F p M).2) D (λp=>by have:=E p;omega) (V.below u) (Utf8Tabs_below U u) x.ln J (aD q (IS _)) (by have:=h.ln;omega) cd cc j gd gc i Y X l1 l2 (y B) (y A) (λI H q=>?_);obtain⟨Z,a2⟩:=h.small I (by omega);obtain⟨b1,b2⟩:=h.small H (by omega);refine⟨Z,b1, ?_⟩;unfold Rc.jK;rw[If];omega
theorem kX.WN{q}(y:Below w0.heap.size w0 q)(E:N<=100000)(h:kX W w0.heap.size N x)(A:qD q x.rg x.rl x.o x.pl x.Gf x.out x.bs x.rh x.qv x.pv x.gv x.mv x.cv){cd cc gone}(D:vD w0 cd cc ay)(B:vD w0 gd gc gone):
 Calls prog 93 #[.pointer (some ⟨x.rg,0,none⟩),.slice cd ay.length cc,.slice gd gone.length gc] q λe w'=>ie q x.rg x.rl x.o x.pl (x.Gf.map FI.f) x.bs x.qv x.pv ay gone 100000 e w':=by
 have i:=h.rr;refine Iw q x.rg x.rl x.o x.pl x.Gf x.out x.bs x.rh x.qv x.pv x.gv x.mv x.cv A (by rw[i];exact h.tw.ok) (λp a u=>by rw[i];rw[h.vW]at u;exact h.tw.LI u) h.tw.nod (λf w=>by rw[i];exact h.tw.LI (h.tw.CD _ (aaN w))) h.my cd cc ay gd gc gone w0 y h.ge.2 D B 100000 (by omega) (λj t=>?_) (λj t=>?_) (by have:=h.bs;omega) h.rh
 ·rw[wM h rfl]at j;have:=(h.small j t).2;omega
 ·rw[wM h rfl]at j;have:=(h.small j t).2;omega
def nL(w0:World)(wb:Nat)(ev qv k2 k3 k4:Value)(N:Nat)(w':World):Prop:=∃fv av bV bW n FP AP E,WI w0 w' wb ev qv k2 k3 k4 fv av bV bW n FP AP E N (qV E) (qO E)
theorem ZF{d:tJ}(i:Below (w.alloc (.cells d.cells 80)).heap.size (w.alloc (.cells d.cells 80)) W):W.cell? ⟨w.heap.size,0,none⟩=some (.int .i64 d.kd)/\W.cell? ⟨w.heap.size,3,none⟩=some (.int .i64 d.wh)/\W.cell? ⟨w.heap.size,4,none⟩=some (.string d.S)/\W.cell? ⟨w.heap.size,6,none⟩=some (.string d.fp)/\W.cell? ⟨w.heap.size,7,none⟩=some (.slice d.fd d.fa.length d.fc)/\W.cell? ⟨w.heap.size,8,none⟩=some (.slice d.cd d.ay.length d.cc)/\W.cell? ⟨w.heap.size,9,none⟩=some (.slice d.gd d.gone.length d.gc)/\w.heap.size<W.heap.size:=by
 have j:=By w (.cells d.cells 80);have e:W.heap[w.heap.size]?=some (.cells d.cells 80 (0,0)):=by
  rw[i.block _ (by simp)];exact j
 refine⟨?_, ?_, ?_, ?_, ?_, ?_, ?_,lt_of_heap e⟩<;>(rw[aq e];rfl)
def KO(w w':World):Prop:=∀(b:Nat) (cur:Array Value) (t:TypeId) (fz:Nat×Nat),w.heap[b]?=some (.cells cur t fz)->(t=80\/t=40\/t=131)->w'.heap[b]?=some (.cells cur t fz)
theorem KO.bD(i:Below w.heap.size w w'):KO w w':=λb j t fz e _=>(i.block _ (lt_of_heap e)).trans e
theorem KO.trans{a b c}(h:KO a b)(k:KO b c):KO a c:=by grind [KO]
theorem kX.ko{B}(h:kX w B N x)(u:Kb (x.eg::x.rg::x.lv.ownBlock.toList) w w'):KO w w':=λb y t fz e q=>u.heap e (λhm=>by
 have i:t≠109/\t≠269/\t≠5:=by rcases q with rfl | rfl | rfl<;>decide
 rcases BY.1 hm with rfl | hm
 ·rw[h.p.aY]at e;simp only[AT,aa1]at e;exact i.1 e.2.1.symm
 ·rcases BY.1 hm with rfl | hm
  ·rw[h.r.aY]at e;simp only[AT,aa1]at e;exact i.2.1 e.2.1.symm
  ·obtain⟨_,_,D,A,j⟩:=h.Sf.2 b (by simpa using hm);rw[e]at j;simp only[AT,aa1]at j;exact i.2.2 j.2.1)
theorem mS.later{k F}(h:mS w W i j F gd gc k)(e:Below W.heap.size W W'):mS w W' i j F gd gc k:=h.M5 (Kb.bD e []) (λb e=>by cases e) (λb e=>by cases e)
theorem OT{w1 w2 w3 w5 wb ev qv k2 k3 k4 fv av bV bW n FP AP E}(h:WI w0 w wb ev qv k2 k3 k4 fv av bV bW n FP AP E N (qV E) (qO E)){k}(hk:k<E.length)(aV:Below w.heap.size w w1){yz pA c1 wJ X c2 F1 F2 g1 g2}(J:mS w1 w2 yz pA F1 g1 c1 8)(D:mS w2 w3 wJ X F2 g2 c2 8)(hW:Below w3.heap.size w3 W){H}(B:VO W w5 w0.heap.size (N+1) E[k] H):
 mS w0 w5 yz pA F1 g1 c1 8/\∀V,Kb (pA::Lw.bs F1) w5 V->mS w0 V wJ X F2 g2 c2 8/\∀U,Kb (X::Lw.bs F2) V U->WI w0 U wb ev qv k2 k3 k4 fv av bV bW n FP AP (E.set k H) (N+1) (qV (E.set k H)) (qO (E.set k H))/\KO w U:=by
 have dU:Below w0.heap.size w0 w1:=h.be.trans (aV.mono h.be.size);have ou:Below w0.heap.size w0 w2:=dU.trans (J.be.mono dU.size);have Ty:Below w1.heap.size w1 W:=(J.be.trans (D.be.mono J.be.size)).trans (hW.mono (aaK J.be.size D.be.size));have jZ:Below w.heap.size w W:=aV.trans (Ty.mono aV.size);have s1:=aV.size;have s2:=J.be.size;have s3:=D.be.size;have s4:=hW.size;have s0:=h.be.size;have M:=(h.Ds _ (IN hk)).below jZ;obtain⟨x1,x2⟩:=M.Sf;have Z:∀b,b∈(E[k]).eg::(E[k]).rg::(E[k]).lv.ownBlock.toList->w0.heap.size<=b/\∀x t fz,W.heap[b]?=some (.cells x t fz)->t=109\/t=269\/t=5:=λb j=>by
  rcases BY.1 j with rfl | j
  ·refine⟨M.ge.1,λx t fz e=>?_⟩;rw[M.p.aY]at e;simp only[AT,aa1]at e;exact .inl e.2.1.symm
  ·rcases BY.1 j with rfl | j
   ·refine⟨M.ge.2,λx t fz e=>?_⟩;rw[M.r.aY]at e;simp only[AT,aa1]at e;exact .inr (.inl e.2.1.symm)
   ·have j:(E[k]).lv.ownBlock=some b:=by simpa using j
    obtain⟨lx,hl⟩:=M.log;refine⟨(hl.lt b j).1,λx t fz e=>?_⟩;obtain⟨_,_,y,f9,A⟩:=x2 b j;rw[e]at A;simp only[AT,aa1]at A;exact .inr (.inr A.2.1)
 have VP:∀{nb fb gc:Nat} {F:List FI} {gd:Option Addr},mS w0 W nb fb F gd gc 8->mS w0 w5 nb fb F gd gc 8:=λhL=>hL.M5 B.kb (λb j=>(Z b j).1) (λb j x t fz e=>by
  rcases(Z b j).2 _ _ _ e with rfl | rfl | rfl<;>exact⟨by decide,by decide,(λe=>by cases e),(λe=>by cases e)⟩)
 have L1:=VP ((J.QF dU).later ((D.be.trans (hW.mono s3))));have L2:=VP ((D.QF ou).later hW);have m1:∀b,b∈pA::Lw.bs F1->w1.heap.size<=b/\b<w2.heap.size:=λb j=>by
  obtain⟨a1,⟨_,_,u⟩ | ⟨_,_,u⟩⟩:=J.yO b j
  ·exact⟨a1,lt_of_heap u⟩
  ·exact⟨a1,lt_of_heap u⟩
 have m2:∀b,b∈X::Lw.bs F2->w2.heap.size<=b/\b<w3.heap.size:=λb j=>by
  obtain⟨a1,⟨_,_,u⟩ | ⟨_,_,u⟩⟩:=D.yO b j
  ·exact⟨a1,lt_of_heap u⟩
  ·exact⟨a1,lt_of_heap u⟩
 have gy:∀q,L5 H q->q<w.heap.size\/W.heap.size<=q:=λq O=>by
  rcases B.ms q O with h9 | h9
  ·rcases(h.Ds _ (IN hk)).Dv q h9 with⟨_,_,e⟩ | ⟨_,_,e⟩<;>exact .inl (lt_of_heap e)
  ·exact .inr h9
 have Yl:∀{Wa Wb:World} {S:List Nat},kX Wa w0.heap.size (N+1) H->Kb S Wa Wb->(∀b,b∈S->w.heap.size<=b/\b<W.heap.size/\∃x t,Wa.heap[b]?=some (.cells x t (0,0))/\(t=48\/t=9))->kX Wb w0.heap.size (N+1) H:=λ{Wa Wb S} ht hkS hS=>by
  have fP:∀{b:Nat} {x:Array Value} {t:TypeId} {fz:Nat×Nat},Wa.heap[b]?=some (.cells x t fz)->t≠48->t≠9->¬b∈S:=λe n1 n2 hm=>by
   obtain⟨_,_,y,t9,A,I⟩:=hS _ hm;rw[e]at A;simp only[AT,aa1]at A;rcases I with I | I
   ·exact n1 (A.2.1.trans I)
   ·exact n2 (A.2.1.trans I)
  refine ht.kb hkS (λb j _=>?_) (fP ht.p.aY (by decide) (by decide)) (fP ht.r.aY (by decide) (by decide)) (λq O=>?_) (λq O hm=>?_)
  ·obtain⟨_,_,y,t9,A,I⟩:=hS _ j;exact⟨y,t9,_,A,by rcases I with rfl | rfl<;>decide⟩
  ·obtain⟨_,_,y,f9,A⟩:=ht.Sf.2 q O;grind
  ·grind
 refine⟨L1,λV k6=>?_⟩;have L3:mS w0 V wJ X F2 g2 c2 8:=L2.M5 k6 (λb j=>by have:=(m1 b j).1;omega) (λb j x t fz e=>by
  have aL:=(m1 b j).2;refine⟨?_, ?_,λ_ A=>?_,λ_ f hf A=>?_⟩
  ·rintro rfl;obtain⟨_,⟨_,y,u⟩ | ⟨_,y,u⟩⟩:=L1.yO b j<;>(rw[e]at u;simp at u)
  ·rintro rfl;obtain⟨_,⟨_,y,u⟩ | ⟨_,y,u⟩⟩:=L1.yO b j<;>(rw[e]at u;simp at u)
  ·have:=D.ge.2;omega
  ·obtain⟨ab,q1,q2,_⟩:=D.each f hf;rw[q1]at A;simp only[Value.ownBlock,AT]at A;omega)
 refine⟨L3,λU k7=>?_⟩;have t6:=Yl B.two k6 (λb j=>by
  have:=m1 b j;refine⟨by omega,by omega, ?_⟩;obtain⟨_,⟨_,y,u⟩ | ⟨_,y,u⟩⟩:=L1.yO b j
  ·exact⟨y,_,u,.inl rfl⟩
  ·exact⟨y,_,u,.inr rfl⟩)
 have t7:=Yl t6 k7 (λb j=>by
  have:=m2 b j;refine⟨by omega,by omega, ?_⟩;obtain⟨_,⟨_,y,u⟩ | ⟨_,y,u⟩⟩:=L3.yO b j
  ·exact⟨y,_,u,.inl rfl⟩
  ·exact⟨y,_,u,.inr rfl⟩)
 have kk:Kb ((E[k]).eg::(E[k]).rg::(E[k]).lv.ownBlock.toList) w U:=by
  refine Kb.trans' (Kb.trans' (Kb.trans' (Kb.bD jZ _) B.kb (λi Y _=>Y)) k6 (λi Y hl=>?_)) k7 (λi Y hl=>?_)
  ·have:=(m1 i Y).1;omega
  ·have:=(m2 i Y).1;omega
 exact⟨h.apply hk kk t7 B.eg B.rg (B.lv.mono jZ.size) (λq O=>(B.st q O).imp id (λh9=>by omega)),(h.Ds _ (IN hk)).ko kk⟩
structure Cs(d:tJ)(W:World)(ob yz pA wJ qf:Nat)(u1 u2:Value):Prop where
 op:W.heap[ob]?=some (.cells d.cells 80 (0,0))
 l1:W.heap[yz]?=some (.cells #[.slice (some ⟨pA,0,none⟩) (d.ay.length+8) (d.ay.length+8),u1] 192 (0,0))
 l2:W.heap[wJ]?=some (.cells #[.slice (some ⟨qf,0,none⟩) (d.gone.length+8) (d.gone.length+8),u2] 192 (0,0))
theorem Cs.kb{d:tJ}{y x u w S}(h:Cs d W y q x u w u1 u2)(e:Kb S W W')(i:∀b,b∈S->∀j t fz,W.heap[b]?=some (.cells j t fz)->t≠80/\t≠192):Cs d W' y q x u w u1 u2:=⟨e.heap h.op (λhm=>(i _ hm _ _ _ h.op).1 rfl),e.heap h.l1 (λhm=>(i _ hm _ _ _ h.l1).2 rfl),e.heap h.l2 (λhm=>(i _ hm _ _ _ h.l2).2 rfl)⟩
theorem Cs.below{d:tJ}{u t}(h:Cs d W u i t j q u1 u2)(e:Below W.heap.size W W'):Cs d W' u i t j q u1 u2:=h.kb (Kb.bD e []) (λb e=>by cases e)
theorem Cs.cells{d:tJ}{e t}(h:Cs d W e i t j q u1 u2):(W.cell? ⟨i,0,none⟩=some (.slice (some ⟨t,0,none⟩) (d.ay.length+8) (d.ay.length+8))/\W.cell? ⟨e,8,none⟩=some (.slice d.cd d.ay.length d.cc)/\W.cell? ⟨j,0,none⟩=some (.slice (some ⟨q,0,none⟩) (d.gone.length+8) (d.gone.length+8))/\W.cell? ⟨e,9,none⟩=some (.slice d.gd d.gone.length d.gc))/\e<W.heap.size/\i<W.heap.size/\j<W.heap.size:=by
 refine⟨⟨?_, ?_, ?_, ?_⟩,lt_of_heap h.op,lt_of_heap h.l1,lt_of_heap h.l2⟩
 ·rw[aq h.l1];rfl
 ·rw[aq h.op];rfl
 ·rw[aq h.l2];rfl
 ·rw[aq h.op];rfl
theorem kX.types{B}(h:kX w B N x):∀b,b∈x.eg::x.lv.ownBlock.toList->∀i t fz,w.heap[b]?=some (.cells i t fz)->t≠80/\t≠192:=λb j i t fz e=>by
 rcases BY.1 j with rfl | j
 ·rw[h.p.aY]at e;simp only[AT,aa1]at e;rw[<-e.2.1];exact⟨by decide,by decide⟩
 ·obtain⟨_,_,y,u,q⟩:=h.Sf.2 b (by simpa using j);rw[e]at q;simp only[AT,aa1]at q;rw[q.2.1];exact⟨by decide,by decide⟩
theorem EZ(K:Nat->Int)(w0 w:World)(hK:Dg.EA w0 K)(hU:gJ w0)(wb:Nat)(ev qv k2 k3 k4 fv av bV bW:Value)(n:Nat)(FP AP E)(N:Nat)(h:WI w0 w wb ev qv k2 k3 k4 fv av bV bW n FP AP E N (qV E) (qO E))(hN:N<=100000)(k:Nat)(hk:k<E.length)(d:tJ)(hd:RY w0 d)(h3:d.kd=3):
 Calls prog 54 #[.pointer (some ⟨wb,0,none⟩),.pointer (some ⟨(E[k]).eg,0,none⟩),.pointer (some ⟨(E[k]).rg,0,none⟩),.agg d.cells] w λe w'=>e=.returned (.bool true)/\nL w0 wb ev qv k2 k3 k4 (N+1) w'/\KO w w':=by
 obtain⟨w1,dA⟩:∃w1,w1=w.alloc (.cells d.cells 80):=⟨_,rfl⟩;have H:Below w.heap.size w w1:=by rw[dA];exact aM
 have HC:Hid (∀W,Below w1.heap.size w1 W->W.cell? ⟨w.heap.size,8,none⟩=some (.slice d.cd d.ay.length d.cc)/\W.cell? ⟨w.heap.size,9,none⟩=some (.slice d.gd d.gone.length d.gc)/\w.heap.size<W.heap.size):=λW q=>by
  rw[dA]at q;obtain⟨_,_,_,_,_,c8,O,wT⟩:=ZF q;exact⟨c8,O,wT⟩
 have c0:w1.cell? ⟨w.heap.size,0,none⟩=some (.int .i64 3):=by
  have:=(ZF (w:=w) (d:=d) (aaj _ _)).1;rw[<-dA,h3]at this;exact this
 obtain⟨c8,O,wT⟩:=HC.out w1 (aaj _ _);have HW:=aj h;have hx:=h.Ds _ (IN hk);have j:=aj hd;have HOP:Hid (w1.heap[w.heap.size]?=some (.cells d.cells 80 (0,0))):=by
  rw[dA];exact By _ _
 clear h h3 hd;unfold tJ.cells;unfold tJ.cells at dA
 go_enter func54,ntmps54
 go_upto_region 1 with fail
 rw[<-dA];clear dA;obtain⟨u,Cd⟩:∃u,u=w.heap.size:=⟨_,rfl⟩;rw[<-Cd]at HC HOP c0 c8 O wT;rw[<-Cd];clear Cd;have dU:Below w0.heap.size w0 w1:=HW.out.be.trans (H.mono HW.out.be.size);have HL1:Hid (Calls prog 92 #[.slice d.cd d.ay.length d.cc] w1 λe w'=>∃nb fb F gd gc,e=.returned (.pointer (some ⟨nb,0,none⟩))/\Hid (mS w1 w' nb fb F gd gc 8/\F.map FI.f=d.ay.map FI.f)):=yV w1 d.cd d.cc d.ay (j.out.ay.z.below dU) j.out.ay.my j.out.ay.args
 go_upto_region 4 with(go_at_call 92;refine HL1.out.mono ?_;rintro e w2 ⟨I,y,D,g1,c1,rfl,B⟩)
 clear c0 c8 O wT HL1;have lH:=B.out.1.be;have ou:Below w0.heap.size w0 w2:=dU.trans (lH.mono dU.size);obtain⟨c8,O,wT⟩:=HC.out w2 lH;have HL2:Hid (Calls prog 92 #[.slice d.gd d.gone.length d.gc] w2 λe w'=>∃nb fb F gd gc,e=.returned (.pointer (some ⟨nb,0,none⟩))/\Hid (mS w2 w' nb fb F gd gc 8/\F.map FI.f=d.gone.map FI.f)):=yV w2 d.gd d.gc d.gone (j.out.gone.z.below ou) j.out.gone.my j.out.gone.args
 go_upto_region 5 with(go_at_call 92;refine HL2.out.mono ?_;rintro e Y ⟨J,M,X,g2,c2,rfl,A⟩)
 clear c8 O wT HL2 HC;have O6:=A.out.1.be;have Z:Below w0.heap.size w0 Y:=ou.trans (O6.mono ou.size);have Dn:Below w1.heap.size w1 Y:=lH.trans (O6.mono lH.size);have rE:D.length=d.ay.length:=by simpa using abu List.length B.out.2
 have qB:X.length=d.gone.length:=by simpa using abu List.length A.out.2
 have HCS:Hid (Cs d Y u I y J M (.slice g1 D.length c1) (.slice g2 X.length c2)):=by
  have a1:=(B.out.1.later O6).aY;have x:=A.out.1.aY;rw[rE]at a1;rw[qB]at x;refine⟨?_,by rw[rE];exact a1,by rw[qB];exact x⟩;rw[Dn.block _ (lt_of_heap HOP.out)];exact HOP.out
 have ZH:Hid (∀W,Below Y.heap.size Y W->Calls prog 38 #[.pointer (some ⟨(E[k]).eg,0,none⟩),.slice (some ⟨y,0,none⟩) d.ay.length (d.ay.length+8),.slice (some ⟨M,0,none⟩) d.gone.length (d.gone.length+8)] W λe w'=>∃c:Int,e=.returned (.int .i64 c)/\Hid (gA W (E[k]).eg (E[k]).rs (E[k]).pl (E[k]).Q (E[k]).R (E[k]).rv (E[k]).lv (E[k]).l (E[k]).ln D X e w'/\Cs d w' u I y J M (.slice g1 D.length c1) (.slice g2 X.length c2))/\w'.cell? ⟨I,0,none⟩=some (.slice (some ⟨y,0,none⟩) (d.ay.length+8) (d.ay.length+8))/\w'.cell? ⟨u,8,none⟩=some (.slice d.cd d.ay.length d.cc)/\w'.cell? ⟨J,0,none⟩=some (.slice (some ⟨M,0,none⟩) (d.gone.length+8) (d.gone.length+8))/\w'.cell? ⟨u,9,none⟩=some (.slice d.gd d.gone.length d.gc)/\u<w'.heap.size):=λW q=>by
  have hwW:Below w.heap.size w W:=(H.trans (Dn.mono H.size)).trans (q.mono (aaK H.size Dn.size));have V:=hx.below hwW;have cp:∀{F l:List FI},F.map FI.f=l.map FI.f->(∀f,f∈l->f.pred.size<=1048576/\∀a,a∈f.args->a.size<=1048576)->∀f,f∈F->f.pred.size<=1048576/\∀a,a∈f.args->a.size<=1048576:=λe h9 f hf=>by
   have h8:FI.f f∈_:=aaN hf;rw[e]at h8;obtain⟨f',NV,e'⟩:=aax.1 h8;unfold FI.f at e';simp only[abZ]at e';rw[<-e'.1,<-e'.2];exact h9 f' NV
  have C5:∀{F l:List FI},F.map FI.f=l.map FI.f->(∀f,f∈l->f.args.length<=1048576)->∀f,f∈F->f.args.length<=1048576:=λe h9 f hf=>by
   have h8:FI.f f∈_:=aaN hf;rw[e]at h8;obtain⟨f',NV,e'⟩:=aax.1 h8;unfold FI.f at e';simp only[abZ]at e';rw[<-e'.2];exact h9 f' NV
  have f1:=((B.out.1.later O6).later q).facts (by rw[rE];exact j.out.ay.my) (C5 B.out.2 j.out.ay.args);have f2:=(A.out.1.later q).facts (by rw[qB];exact j.out.gone.my) (C5 A.out.2 j.out.gone.args);have h9:=V.XQ K (Z.trans (q.mono Z.size)) hK hU hN f1 f2 (by rw[rE];exact j.out.ay.my) (by rw[qB];exact j.out.gone.my) (cp B.out.2 j.out.cs) (cp A.out.2 j.out.gs);rw[rE,qB]at h9;refine h9.mono ?_;intro e w' hp;obtain⟨⟨c,rfl⟩,NO⟩:=hp.shape;have U:=(HCS.out.below q).kb NO V.types;obtain⟨⟨a1,x,a3,a4⟩,a5,_⟩:=U.cells;exact⟨c,rfl,⟨hp,U⟩,a1,x,a3,a4,a5⟩
 obtain⟨⟨v1,v2,v3,v4⟩,v5,v6,v7⟩:=HCS.out.cells;have AG:(d.ay.length:Int)<=((d.ay.length+8:Nat):Int):=by omega
 have ahK:(d.ay.length:Int)<=d.ay.length+8:=by omega
 have jy:(d.gone.length:Int)<=((d.gone.length+8:Nat):Int):=by omega
 have ajh:(d.gone.length:Int)<=d.gone.length+8:=by omega
 have Av:Hid (∀W e1 w4,Below Y.heap.size Y W->gA W (E[k]).eg (E[k]).rs (E[k]).pl (E[k]).Q (E[k]).R (E[k]).rv (E[k]).lv (E[k]).l (E[k]).ln D X e1 w4/\Cs d w4 u I y J M (.slice g1 D.length c1) (.slice g2 X.length c2)->Calls prog 93 #[.pointer (some ⟨(E[k]).rg,0,none⟩),.slice d.cd d.ay.length d.cc,.slice d.gd d.gone.length d.gc] w4 λe w'=>∃c:Int,e=.returned (.int .i64 c)/\Hid (∃x',e1=.returned (.int .i64 c)/\VO W w' w0.heap.size (N+1) E[k] x'/\Cs d w' u I y J M (.slice g1 D.length c1) (.slice g2 X.length c2))/\w'.cell? ⟨u,8,none⟩=some (.slice d.cd d.ay.length d.cc)/\u<w'.heap.size):=λW e1 w4 q hp=>by
  have hwW:Below w.heap.size w W:=(H.trans (Dn.mono H.size)).trans (q.mono (aaK H.size Dn.size));have V:=hx.below hwW;have hk4:=hp.1.shape.2;have jL:Below w0.heap.size w0 w4:=hk4.aQ (Z.trans (q.mono Z.size)) (aaK Z.size q.size) (λi hi=>by
   rcases BY.1 hi with rfl | hi
   ·exact V.ge.1
   ·obtain⟨lx,hl⟩:=V.log;exact(hl.lt i (by simpa using hi)).1)
  have hR:=V.ad6 hk4;refine(V.WN jL hN hR j.out.ay j.out.gone).mono ?_;intro e w5 hr;obtain⟨⟨c5,rfl⟩,hk5⟩:=hr.shape;obtain⟨c,XD,e2',x',hA⟩:=SV V (aaK Z.size q.size) B.out.2 A.out.2 hp.1 hr;simp only[Ending.returned.injEq,Value.int.injEq,true_and]at e2';subst e2';have U:=hp.2.kb hk5 (λb hb cur t fz e=>by
   simp only[aae]at hb;subst hb;rw[hR.aY]at e;simp only[AT,aa1]at e;rw[<-e.2.1];exact⟨by decide,by decide⟩)
  obtain⟨⟨_,x,_,_⟩,a5,_⟩:=U.cells;exact⟨c5,rfl,⟨x',XD,hA,U⟩,x,a5⟩
 clear hx HCS dU ou Z lH O6 Dn rE qB
 go_region_held3 (λW=>W.cell? ⟨I,0,none⟩=some (.slice (some ⟨y,0,none⟩) (d.ay.length+8) (d.ay.length+8))/\W.cell? ⟨u,8,none⟩=some (.slice d.cd d.ay.length d.cc)/\W.cell? ⟨J,0,none⟩=some (.slice (some ⟨M,0,none⟩) (d.gone.length+8) (d.gone.length+8))/\W.cell? ⟨u,9,none⟩=some (.slice d.gd d.gone.length d.gc)) (go_keep) ((go_at_call 38;refine(ZH.out _ (by exact(aaj _ _).drew)).mono ?_;rintro e w4 ⟨c,rfl,H4,d1,d2,d3,d4,d5⟩))
 clear v1 v2 v3 v4 v5 v6 v7 ZH AG ahK jy ajh
 go_upto_region 7 with(go_at_call 93;refine(Av.out _ _ _ (by exact(aaj _ _).drew) H4.out).mono ?_;rintro e w5 ⟨c5,rfl,H5,y1,y2⟩)
 clear d1 d2 d3 d4 d5 Av H4;obtain⟨x',XD,hA,U⟩:=H5.out;simp only[Ending.returned.injEq,Value.int.injEq,true_and]at XD;subst XD;obtain⟨L1,hL6⟩:=OT HW.out hk H B.out.1 A.out.1 (by exact(aaj _ _).drew) hA;have jP:Hid (Calls prog 94 #[.pointer (some ⟨I,0,none⟩),.slice d.cd d.ay.length d.cc] w5 λe w'=>e=.returned (.bool true)/\Hid (Kb (y::Lw.bs D) w5 w')/\w'.cell? ⟨u,9,none⟩=some (.slice d.gd d.gone.length d.gc)/\u<w'.heap.size):=by
  refine(xA w0 w5 I y D g1 c1 L1 d.cd d.cc d.ay (λW q=>j.out.ay.z.below (L1.yJ q)) B.out.2 j.out.ay.my j.out.ay.args).mono ?_;rintro e w' ⟨rfl,R8⟩;have ahz:=U.kb R8 (λb hb cur t fz e=>by
   obtain⟨_,⟨_,O,x⟩ | ⟨_,O,x⟩⟩:=L1.yO b hb
   ·rw[e]at x;simp only[AT,aa1]at x;rw[x.2.1];exact⟨by decide,by decide⟩
   ·rw[e]at x;simp only[AT,aa1]at x;rw[x.2.1];exact⟨by decide,by decide⟩)
  obtain⟨⟨_,_,_,a4⟩,a5,_⟩:=ahz.cells;exact⟨rfl,R8,a4,a5⟩
 have mM:Hid (∀w6,Kb (y::Lw.bs D) w5 w6->Calls prog 94 #[.pointer (some ⟨J,0,none⟩),.slice d.gd d.gone.length d.gc] w6 λe w'=>e=.returned (.bool true)/\Hid (nL w0 wb ev qv k2 k3 k4 (N+1) w'/\KO w w')):=λw6 R8=>by
  obtain⟨L2,hL7⟩:=hL6 w6 R8;refine(xA w0 w6 J M X g2 c2 L2 d.gd d.gc d.gone (λW q=>j.out.gone.z.below (L2.yJ q)) A.out.2 j.out.gone.my j.out.gone.args).mono ?_;rintro e w' ⟨rfl,hk7⟩;obtain⟨r1,r2⟩:=hL7 w' hk7;exact⟨rfl,⟨fv,av,bV,bW,n,FP,AP,_,r1⟩,r2⟩
 clear L1 hL6 hA U H5
 go_upto_region 8 with(go_at_call 94;refine jP.out.mono ?_;rintro e w6 ⟨rfl,H6,y9,y8⟩)
 clear y1 y2 jP
 go_upto_region 9 with(go_at_call 94;refine(mM.out _ H6.out).mono ?_;rintro e w7 ⟨rfl,H7⟩)
 clear mM H6 y8 y9 HW j B A H
 go_wp2_with (go_at_call 49;refine(mN).mono ?_;rintro e w8 ⟨rfl,h8⟩;subst h8)
 go_ret;exact⟨by simp,H7.out⟩
/- axiomlaw: World.facts, its Ask, walked. -/
theorem yT{lb c d p a}(h:W.heap[lb]?=some (.cells #[.string p,.slice d a.length c] 48 (0,0)))(hs:dr W (.slice d a.length c) a):eV W (some ⟨lb,0,none⟩) 1 [⟨p,a,.slice d a.length c⟩]:=by
 obtain⟨c0,c1,_,_,e⟩:=bG h;refine⟨by simp,λ{k} i=>?_,λf j=>?_⟩
 ·grind
 ·grind
theorem O0(E:Below w0.heap.size w0 W)(U:gJ w0)(h:kX W w0.heap.size N x)(p:ByteArray)(a)(u:p.size<=1048576)(hs:∀y,y∈a->y.size<=1048576):∃(B A:Bool) (tc H:Int),(∀W' av,Below W.heap.size W W'->W'.ownsRow 0 9 1 av a.length (strCells a)->Calls prog 21 #[.pointer (some ⟨x.eg,0,none⟩),.agg #[.string p,av]] W' λe w'=>e=.returned (.tuple #[.agg #[.bool B,.bool A,.int .i64 tc],.int .i64 H])/\Below W'.heap.size W' w')/\
 ∀W' av,Below W.heap.size W W'->dr W' av a->Calls prog 95 #[.pointer (some ⟨x.rg,0,none⟩),.agg #[.string p,av]] W' λe w'=>e=.returned (.tuple #[.agg #[.bool B,.bool A,.int .i64 tc],.int .i64 H])/\Below W'.heap.size W' w':=by
 obtain⟨D,I,V⟩:=h.ql;have t:∀{W'},Below W.heap.size W W'->gJ W':=λi=>Utf8Tabs_below U (E.trans (i.mono E.size));have O:x.s.found.length<=200:=by
  have F:=h.fS.perm.length_eq;rw[aaL]at F;rw[<-F];exact h.fS.my
 have q:∀W' av,Below W.heap.size W W'->dr W' av a->_:=λW' av i M=>Qx W' x.rg x.rl x.o x.pl x.Gf x.out x.bs x.rh x.qv x.pv x.gv x.mv x.cv (h.below i).r h.fS.nod p a av M (λy hy=>by have:=hs y hy;omega);rw[h.vW,h.rr]at q;by_cases j:nf x.Q p a=true
 ·rw[aa3 j]at q;refine⟨_,_,_,_,λW' av i w=>?_,q⟩;refine((h.below i).p.Xe (λp u=>(D p u).2) O (λp=>by have:=I p;omega) p a av w (by omega) (t i) j).mono ?_;rintro e w' ⟨rfl,J⟩;rw[h.tw.given j,h.fS.held h.tw j,h.fS.count h.tw h.p.YP h.p.jE.zero j];exact⟨rfl,J⟩
 ·rw[aaD j]at q;refine⟨_,_,_,_,λW' av i w=>?_,q⟩;exact(h.below i).p.abj (λp u=>(D p u).2) p a av w (by omega) (λy hy=>by have:=hs y hy;unfold maxLen;omega) (t i) (by simpa using j)
theorem Ms(w0 w:World)(hU:gJ w0)(wb:Nat)(ev qv k2 k3 k4 fv av bV bW:Value)(n:Nat)(FP AP E)(N:Nat)(h:WI w0 w wb ev qv k2 k3 k4 fv av bV bW n FP AP E N (qV E) (qO E))(k:Nat)(hk:k<E.length)(d:tJ)(hd:RY w0 d)(h4:d.kd=4):
 Calls prog 54 #[.pointer (some ⟨wb,0,none⟩),.pointer (some ⟨(E[k]).eg,0,none⟩),.pointer (some ⟨(E[k]).rg,0,none⟩),.agg d.cells] w λe w'=>e=.returned (.bool true)/\nL w0 wb ev qv k2 k3 k4 (N+1) w'/\KO w w':=by
 obtain⟨w1,dA⟩:∃w1,w1=w.alloc (.cells d.cells 80):=⟨_,rfl⟩;have aV:Below w.heap.size w w1:=by rw[dA];exact aM
 have HC:Hid (∀W,Below w1.heap.size w1 W->W.cell? ⟨w.heap.size,6,none⟩=some (.string d.fp)/\W.cell? ⟨w.heap.size,7,none⟩=some (.slice d.fd d.fa.length d.fc)/\w.heap.size<W.heap.size):=λW V=>by
  rw[dA]at V;obtain⟨_,_,_,M,J,_,_,I⟩:=ZF V;exact⟨M,J,I⟩
 have c0:w1.cell? ⟨w.heap.size,0,none⟩=some (.int .i64 4):=by
  have:=(ZF (w:=w) (d:=d) (aaj _ _)).1;rw[<-dA,h4]at this;exact this
 obtain⟨M,J,I⟩:=HC.out w1 (aaj _ _);have dU:Below w0.heap.size w0 w1:=h.be.trans (aV.mono h.be.size);have hx:=(h.Ds _ (IN hk)).below aV;obtain⟨u,t,tc,ec,hAK,hRK⟩:=O0 dU hU hx d.fp d.fa hd.ps hd.fs;have HAK:=aj hAK;have HRK:=aj hRK;have HW:=aj h;have HD:=aj hd;have B7:Hid (∀W,Below w1.heap.size w1 W->dr W (.slice d.fd d.fa.length d.fc) d.fa):=λW V=>hd.fact.below (dU.trans (V.mono dU.size));clear h h4 hd hx hAK hRK;unfold tJ.cells;unfold tJ.cells at dA;generalize (E[k]).eg=eg at*;generalize (E[k]).rg=rg at*
 go_enter func54,ntmps54
 go_upto_region 1 with fail
 rw[<-dA];clear dA;obtain⟨ob,Cd⟩:∃ob,ob=w.heap.size:=⟨_,rfl⟩;rw[<-Cd]at HC c0 M J I;rw[<-Cd];clear Cd;obtain⟨w2,pZ⟩:∃w2,w2=w1.alloc (.cells #[.string d.fp,.slice d.fd d.fa.length d.fc] 48):=⟨_,rfl⟩;have cX:Below w1.heap.size w1 w2:=by rw[pZ];exact aM
 have eB:w2.heap[w1.heap.size]?=some (.cells #[.string d.fp,.slice d.fd d.fa.length d.fc] 48 (0,0)):=by rw[pZ];exact By _ _
 have HL:Hid (Calls prog 92 #[.slice (some ⟨w1.heap.size,0,none⟩) 1 1] w2 λe w'=>∃nb X F gd gc,e=.returned (.pointer (some ⟨nb,0,none⟩))/\Hid (mS w2 w' nb X F gd gc 8/\F.map FI.f=[(d.fp,d.fa)])):=by
  refine(yV w2 (some ⟨w1.heap.size,0,none⟩) 1 [⟨d.fp,d.fa,.slice d.fd d.fa.length d.fc⟩] (yT eB (B7.out _ cX)) (by simp) (λf y=>?_));simp only[aae]at y;subst y;exact HD.out.fl
 rw[pZ]at HL
 go_upto_region 12 with(go_at_call 92;refine HL.out.mono ?_;rintro e q ⟨nb,X,F,gd,gc,rfl,H3⟩)
 rw[<-pZ]at H3;clear c0 M J I HL pZ eB;obtain⟨A,hF⟩:=H3.out;obtain⟨f0,rfl⟩:∃f0,F=[f0]:=by
  cases F with
  | nil=>simp at hF
  | cons f0 F=>
   cases F with
   | nil=>exact⟨f0,rfl⟩
   | cons a F=>simp at hF
 obtain⟨fp0,Ub,fav⟩:=f0;simp only[abn,adp,FI.f,aeP,abZ,aex]at hF;obtain⟨rfl,rfl⟩:=hF;have dp:Below w1.heap.size w1 q:=cX.trans (A.be.mono cX.size);obtain⟨ab,e1,_,_⟩:=A.each _ (aae.2 rfl);simp only at e1;subst e1;have HA3:Hid (Calls prog 21 #[.pointer (some ⟨eg,0,none⟩),.agg #[.string d.fp,.slice (some ⟨ab,0,none⟩) d.fa.length (d.fa.length+8)]] q λe w'=>e=.returned (.tuple #[.agg #[.bool u,.bool t,.int .i64 tc],.int .i64 ec])/\Hid (Below q.heap.size q w')):=HAK.out q _ dp ((A.facts (by simp) (λf y=>by simp only[aae]at y;subst y;exact HD.out.fl)).each _ (aae.2 rfl));have z0:q.cell? ⟨nb,0,none⟩=some (.slice (some ⟨X,0,none⟩) 9 9):=(bG A.aY).1;have z4:=lt_of_heap A.aY;have z1:q.cell? ⟨X,0,none⟩=some (.string d.fp):=by rw[aq A.xN];rfl
 have z2:q.cell? ⟨X,1,none⟩=some (.slice (some ⟨ab,0,none⟩) d.fa.length (d.fa.length+8)):=by rw[aq A.xN];rfl
 have z5:=lt_of_heap A.xN;have H:=aj A;clear A H3 HAK
 go_upto_region 13 with(go_at_call 21;refine HA3.out.mono ?_;rintro e w4 ⟨rfl,H4⟩)
 clear z0 z1 z2 z4 z5 HA3;obtain⟨j,Uu⟩:∃j,j=w4.alloc (.cells #[.bool u,.bool t,.int .i64 tc] 52):=⟨_,rfl⟩;have CL:Below q.heap.size q j:=by rw[Uu];exact H4.out.alloc H4.out.size _
 have U9:Hid (j.heap[w4.heap.size]?=some (.cells #[.bool u,.bool t,.int .i64 tc] 52 (0,0))):=by rw[Uu];exact By _ _
 rw[<-Uu];obtain⟨Zh,Z⟩:∃Zh,Zh=w4.heap.size:=⟨_,rfl⟩;rw[<-Z]at U9;rw[<-Z];clear Uu Z H4;have fR:Below w1.heap.size w1 j:=dp.trans (CL.mono dp.size);obtain⟨M,J,I⟩:=HC.out j fR;have OO:Hid (Calls prog 95 #[.pointer (some ⟨rg,0,none⟩),.agg #[.string d.fp,.slice d.fd d.fa.length d.fc]] j λe w'=>e=.returned (.tuple #[.agg #[.bool u,.bool t,.int .i64 tc],.int .i64 ec])/\Hid (Below j.heap.size j w')):=HRK.out j _ fR (B7.out j fR)
 go_upto_region 14 with(go_at_call 95;refine OO.out.mono ?_;rintro e w6 ⟨rfl,H6⟩)
 clear M J I OO HRK;obtain⟨i,B⟩:∃i,i=w6.alloc (.cells #[.bool u,.bool t,.int .i64 tc] 52):=⟨_,rfl⟩;have Y:Below j.heap.size j i:=by rw[B];exact H6.out.alloc H6.out.size _
 have D:Hid (i.heap[w6.heap.size]?=some (.cells #[.bool u,.bool t,.int .i64 tc] 52 (0,0))):=by rw[B];exact By _ _
 rw[<-B];obtain⟨Zv,Z⟩:∃Zv,Zv=w6.heap.size:=⟨_,rfl⟩;rw[<-Z]at D;rw[<-Z];clear B Z H6;have U:Below w1.heap.size w1 i:=fR.trans (Y.mono fR.size);obtain⟨M,J,I⟩:=HC.out i U;obtain⟨x,TO⟩:∃x,x=i.alloc (.cells #[.string d.fp,.slice d.fd d.fa.length d.fc] 48):=⟨_,rfl⟩;have QG:Below i.heap.size i x:=by rw[TO];exact aM
 have eB:x.heap[i.heap.size]?=some (.cells #[.string d.fp,.slice d.fd d.fa.length d.fc] 48 (0,0)):=by rw[TO];exact By _ _
 have HB:Hid (Calls prog 94 #[.pointer (some ⟨nb,0,none⟩),.slice (some ⟨i.heap.size,0,none⟩) 1 1] x λe w'=>e=.returned (.bool true)/\Hid (nL w0 wb ev qv k2 k3 k4 (N+1) w'/\KO w w')/\(w'.cell? ⟨Zh,0,none⟩=some (.bool u)/\w'.cell? ⟨Zh,1,none⟩=some (.bool t)/\w'.cell? ⟨Zh,2,none⟩=some (.int .i64 tc)/\Zh<w'.heap.size)/\w'.cell? ⟨Zv,0,none⟩=some (.bool u)/\w'.cell? ⟨Zv,1,none⟩=some (.bool t)/\w'.cell? ⟨Zv,2,none⟩=some (.int .i64 tc)/\Zv<w'.heap.size):=by
  have ah3:Below q.heap.size q x:=(CL.trans (Y.mono CL.size)).trans (QG.mono (aaK CL.size Y.size));have L8:=H.out.later ah3;have agW:Below w1.heap.size w1 x:=U.trans (QG.mono U.size);refine(xA w2 x nb X _ gd gc L8 (some ⟨i.heap.size,0,none⟩) 1 [⟨d.fp,d.fa,.slice d.fd d.fa.length d.fc⟩] (λW V=>?_) rfl (by simp) (λf y=>?_)).mono ?_
  ·refine yT (V.heap eB (λhm=>?_)) (B7.out W (cX.trans ((L8.yJ V).mono cX.size)));obtain⟨_,⟨e9,_,_⟩ | ⟨⟨f,y,e⟩,_⟩⟩:=L8.yO _ (adr _ hm)
   ·have:i.heap.size<q.heap.size:=by
     rw[e9];exact lt_of_heap H.out.xN
    have s1:=CL.size;have s2:=Y.size;omega
   ·obtain⟨ab',e1,_,e3⟩:=H.out.each f y;rw[e1]at e;simp only[Value.ownBlock,AT]at e;have:=lt_of_heap e3;have s1:=CL.size;have s2:=Y.size;omega
  ·simp only[aae]at y;subst y;exact HD.out.fl
  ·rintro e w9 ⟨rfl,NO⟩;have vu:∀b,b∈X::Lw.bs [⟨d.fp,d.fa,Value.slice (some ⟨ab,0,none⟩) d.fa.length (d.fa.length+8)⟩]->w.heap.size<=b:=λb hb=>by
    have h1:=(H.out.yO b hb).1;have h2:=aV.size;have h3:=cX.size;omega
   have hb8:Below w.heap.size w x:=aV.trans (agW.mono aV.size);have tH:=NO.aQ hb8 hb8.size vu;have XA:=HW.out.below tH;have htr:∀{O:Nat},x.heap[O]?=some (.cells #[.bool u,.bool t,.int .i64 tc] 52 (0,0))->w9.cell? ⟨O,0,none⟩=some (.bool u)/\w9.cell? ⟨O,1,none⟩=some (.bool t)/\w9.cell? ⟨O,2,none⟩=some (.int .i64 tc)/\O<w9.heap.size:=λ{O} h8=>by
    have h9:w9.heap[O]?=some (.cells #[.bool u,.bool t,.int .i64 tc] 52 (0,0)):=NO.heap h8 (λhm=>by
     obtain⟨_,⟨_,c9,a2⟩ | ⟨_,c9,a2⟩⟩:=L8.yO _ hm
     ·rw[h8]at a2;simp at a2
     ·rw[h8]at a2;simp at a2)
    refine⟨?_, ?_, ?_,lt_of_heap h9⟩<;>(rw[aq h9];rfl)
   exact⟨rfl,⟨⟨fv,av,bV,bW,n,FP,AP,E,XA.mono (aej N)⟩,KO.bD tH⟩,htr (by rw[QG.block _ (aa7 (lt_of_heap U9.out) Y.size),Y.block _ (lt_of_heap U9.out)];exact U9.out),htr (by rw[QG.block _ (lt_of_heap D.out)];exact D.out)⟩
 rw[TO]at HB;clear TO eB QG U9 D
 go_upto_region 15 with(go_at_call 94;refine HB.out.mono ?_;rintro e w9 ⟨rfl,H9,⟨y0,y1,y2,y3⟩,u0,u1,u2,u3⟩)
 clear HB M J I
 go_wp2_with (go_at_call 49;refine(mN).mono ?_;rintro e wz ⟨rfl,hz⟩;subst hz)
 go_ret;exact⟨by simp,H9.out⟩
