/- Package follow: join, one atom further. -/
import Derived.Test.YtdmicblafmhflaaGreatDoorC25
import Derived.Deep.RegionHeld3
set_option linter.unusedSimpArgs false
set_option linter.unusedVariables false
set_option maxHeartbeats 8000000
set_option maxRecDepth 100000
namespace Go.Proofs.YtdmicblafmhflaaGreatDoor
namespace En
theorem N5(s:dB cg)(f:cg)(n:Nat):s.found.length≤(hold s f n).found.length∧(hold s f n).found.length≤s.found.length+1:=by
 unfold hold
 simp only
 split<;>simp
theorem mF:∀(l:List cg) (s:dB cg),s.found.length≤(holds s l).found.length∧(holds s l).found.length≤s.found.length+l.length
 | [],s=>⟨Nat.le_refl _,Nat.le_refl _⟩
 | f::l,s=>by
  rw[kC]
  have h1:=N5 s f 1
  have h2:=mF l (hold s f 1)
  rw[List.length_cons]
  omega
theorem ir{F:Type}[DecidableEq F](l:List F)(s:dB F)(f:F):(holds s l).count f≤s.count f+l.length:=by
 obtain⟨_,_,_,_,_,h⟩:=gA l s
 rw[h f]
 exact Nat.add_le_add_left List.count_le_length _
theorem qa(l:List cg)(s:dB cg){m:Nat}(hm:m≤s.found.length):(holds s l).found.take m=s.found.take m:=by
 obtain⟨t,h,_⟩:=gA l s
 rw[h,List.take_append_of_le_length hm]
def Jb(P:List cg)(z:cg)(turn:Nat)(h:Ax.Atom)(i:Nat)(a:Ax.Atom)(l:List Ax.Atom)(b:Bind)(f:cg):List cg:=match dg a f b with
 | some b'=>jn P z turn h (i+1) l b'
 | none=>[]
theorem RY(P:List cg)(z:cg)(turn:Nat)(h:Ax.Atom)(i:Nat)(a:Ax.Atom)(l:List Ax.Atom)(b:Bind):jn P z turn h i (a::l) b=(sw P z turn i).flatMap (Jb P z turn h i a l b):=rfl
def p7(turn aX i:Nat):Nat:=if i=turn then aX else 0
def Tq(turn aX i:Nat):Nat:=if i=turn then aX+1 else if i<turn then aX else aX+1
theorem Du{F P:List cg}{z:cg}{aX:Nat}(hP:P.length=aX)(hF:F.take (aX+1)=P++[z])(turn i:Nat):sw P z turn i=(F.take (Tq turn aX i)).drop (p7 turn aX i):=by
 have hPn:F.take aX=P:=by
  have:=congrArg (List.take aX) hF
  rw[List.take_take,Nat.min_eq_left (by omega)]at this
  rw[this]
  exact List.take_left' hP
 unfold sw Tq p7
 by_cases h1:i=turn
 · rw[if_pos h1,if_pos h1,if_pos h1,hF]
   exact(List.drop_left' hP).symm
 · rw[if_neg h1,if_neg h1,if_neg h1]
   by_cases h2:i<turn
   · rw[if_pos h2,if_pos h2,List.drop_zero,hPn]
   · rw[if_neg h2,if_neg h2,List.drop_zero,hF]
end En
section
open Go.RowKit Go.Maps Go.WideMaps Go.WideElems
open Go.Sort (grow)
def Hs(sb mb:Nat)(rv:Value)(a:Ax.Atom)(ad:Option Addr)(ac:Nat)(bd:Option Addr)(bc:Nat)(body:List MA)(P:List En.cg)(z:En.cg)(turn aX i:Nat):Prop:=
 ∀(w:World) (fd:Option Addr) (fc:Nat) (T:List HT) (s:En.dB En.cg) (b:En.Bind) (n:Nat) (X Y:Nat→ByteArray),mL w sb mb rv fd fc T s→tm w a ad ac bd bc body→Cq b n X Y→n≤3*i→a.pred∈T.map HT.nm→aX<s.found.length→s.found.take (aX+1)=P++[z]→
  s.found.length+(En.jn P z turn a i ((body.drop i).map Prod.fst) b).length≤999990→(∀f,s.count f+(En.jn P z turn a i ((body.drop i).map Prod.fst) b).length≤1000000000000)→
  Calls Tryz.prog 232 #[.pointer (some ⟨sb,0,none⟩),.agg #[.int .i64 a.at_,.string a.pred,.slice ad a.ag.length ac,.slice bd body.length bc],.int .i64 i,.int .i64 turn,.int .i64 aX,.agg (cI n X Y)] w fun e w'=>e=.returned (.tuple #[])∧iy w w' sb mb rv fd fc T s (En.holds s (En.jn P z turn a i ((body.drop i).map Prod.fst) b))
theorem qP{w:World}{sb mb:Nat}{rv:Value}{fd:Option Addr}{fc:Nat}{T:List HT}{s:En.dB En.cg}(h:mL w sb mb rv fd fc T s){b:Nat}(hb:b∈dz sb fd fc s.found.length T):b<w.heap.size:=by
 obtain⟨cur,U,e,_⟩:=lD h hb
 exact lt_of_heap e
theorem JJ{f:En.cg}(h:f.2.length=3):∃p x y z,f=(p,[x,y,z]):=by
 obtain⟨p,r⟩:=f
 obtain⟨x,y,z,e⟩:=xq h
 exact⟨p,x,y,z,by rw[←e]⟩
theorem iy.post{w w1 w2:World}{sb mb:Nat}{rv:Value}{fd:Option Addr}{fc:Nat}{T:List HT}{s s':En.dB En.cg}(h:iy w w1 sb mb rv fd fc T s s')(hb:Below w1.heap.size w1 w2):iy w w2 sb mb rv fd fc T s s' where
 on:=by
  obtain⟨L5,OE,T',a,b,c⟩:=h.on
  exact⟨L5,OE,T',a.below hb,b,c⟩
 kept:=h.kept.below hb
 cells:=by
  intro b fl
  obtain⟨⟨cur,e⟩,c⟩:=h.cells b fl
  exact⟨⟨cur,by rw[hb.block b (lt_of_heap e)];exact e⟩,fun j hj=>(hb.cell (lt_of_heap e)).trans (c j hj)⟩
theorem K6{α β:Type}(G:α→List β)(cs:List α){k:Nat}(hk:k<cs.length):(cs.take (k+1)).flatMap G=(cs.take k).flatMap G++G cs[k]:=by
 rw[List.take_succ_eq_append_getElem hk,List.flatMap_append]
 simp
theorem nu{α β:Type}(G:α→List β)(cs:List α)(k:Nat):((cs.take k).flatMap G).length≤(cs.flatMap G).length:=by
 conv=>rhs;rw[←List.take_append_drop k cs,List.flatMap_append,List.length_append]
 omega
theorem KB{sb mb:Nat}{rv:Value}{a:Ax.Atom}{ad:Option Addr}{ac:Nat}{bd:Option Addr}{bc:Nat}{body:List MA}{P:List En.cg}{z:En.cg}{turn aX:Nat}:Hs sb mb rv a ad ac bd bc body P z turn aX body.length:=by
 intro w fd fc T s b n X Y h hr hb hn hp Xu TU hF hC
 have e:En.jn P z turn a body.length ((body.drop body.length).map Prod.fst) b=[En.dt (En.val b) a]:=by
  rw[List.drop_length]
  rfl
 rw[e]at hF hC ⊢
 exact NJ w sb mb rv fd fc T s h (by simp at hF;omega) (fun f=>by have:=hC f;omega) a ad ac bd bc body hr hp b n X Y hb turn aX
theorem NN{sb mb:Nat}{rv:Value}{a:Ax.Atom}{ad:Option Addr}{ac:Nat}{bd:Option Addr}{bc:Nat}{body:List MA}{P:List En.cg}{z:En.cg}{turn aX i:Nat}(hi:i<body.length)(Py:P.length=aX)(Bc:aX≤999990)(Ur:turn≤10)(IH:Hs sb mb rv a ad ac bd bc body P z turn aX (i+1)):Hs sb mb rv a ad ac bd bc body P z turn aX i:=by
 intro w fd fc T s b n X Y h hr hb hn hp Xu TU hF hC
 have h2:=hr.two
 obtain⟨ma,WW⟩:∃ma,body[i]=ma:=⟨_,rfl⟩
 have fY:ma∈body:=by rw[←WW];exact List.getElem_mem hi
 have hao:=hr.atoms ma fY
 have Jv:(body.drop i).map Prod.fst=ma.1::(body.drop (i+1)).map Prod.fst:=by rw[List.drop_eq_getElem_cons hi,WW];rfl
 rw[Jv,En.RY,En.Du Py TU]at hF hC ⊢
 obtain⟨cs,bH⟩:∃cs,cs=(s.found.take (En.Tq turn aX i)).drop (En.p7 turn aX i):=⟨_,rfl⟩
 have zq:En.p7 turn aX i≤En.Tq turn aX i∧En.Tq turn aX i≤aX+1∧En.p7 turn aX i≤aX:=by
  unfold En.p7 En.Tq
  split
  · omega
  · split<;>omega
 have vl:cs.length=En.Tq turn aX i-En.p7 turn aX i:=by rw[bH];simp only[List.length_drop,List.length_take];omega
 have Sy:∀k (hk:k<cs.length),∃(hq:En.p7 turn aX i+k<s.found.length),cs[k]=s.found[En.p7 turn aX i+k]:=by
  intro k hk
  refine⟨by omega, ?_⟩
  simp only[bH,List.getElem_drop,List.getElem_take]
 rw[←bH]at hF hC ⊢
 obtain⟨fr,vC⟩:∃fr,fr=En.p7 turn aX i:=⟨_,rfl⟩
 obtain⟨tn,U4⟩:∃tn,tn=En.Tq turn aX i:=⟨_,rfl⟩
 rw[←vC,←U4]at zq vl
 rw[←vC]at Sy
 have VU:Hid (fr=if i=turn then aX else 0):=vC
 have Wb:Hid (tn=if i=turn then aX+1 else if i<turn then aX else aX+1):=U4
 clear bH vC U4 Jv
 generalize hG:En.Jb P z turn a i ma.1 ((body.drop (i+1)).map Prod.fst) b=G at hF hC ⊢
 have HG:Hid (En.Jb P z turn a i ma.1 ((body.drop (i+1)).map Prod.fst) b=G):=hG
 clear hG
 obtain⟨fb,efd,Wo,PI,Xc⟩:=aD h.Bo (by omega)
 subst efd
 obtain⟨xd,xc,tV⟩:=ah (hr.mr.2.2 ma fY)
 obtain⟨bg,ebd,M1,yI,acN⟩:=aD hr.mr.2.1 (by omega)
 subst ebd
 have hblk:=h.cT
 have HH:Hid (mL w sb mb rv (some ⟨fb,0,none⟩) fc T s):=h
 have uV:Hid (tm w a ad ac (some ⟨bg,0,none⟩) bc body):=hr
 go_enter Tryz.func232,Tryz.ntmps232
 go_upto_region 1 with fail
 obtain⟨jb,js,jr,jx⟩:=Iz w (.cells #[.int .i64 a.at_,.string a.pred,.slice ad a.ag.length ac,.slice (some ⟨bg,0,none⟩) body.length bc] 222) (.cells (cI n X Y) 369)
 generalize (w.alloc (.cells #[.int .i64 a.at_,.string a.pred,.slice ad a.ag.length ac,.slice (some ⟨bg,0,none⟩) body.length bc] 222)).alloc (.cells (cI n X Y) 369)=w0 at jb js jr jx ⊢
 have Hn:w.heap.size<w0.heap.size:=by omega
 have XE:w.heap.size+1<w0.heap.size:=by omega
 have r3:w0.cell? ⟨w.heap.size,3,none⟩=some (.slice (some ⟨bg,0,none⟩) body.length bc):=by rw[cell_of_row _ _ _ _ _ _ jr];rfl
 have cA:¬((i:Int)=(body.length:Int)):=by omega
 have abE:((i:Int)==(body.length:Int))=false:=by simp;omega
 have s2:w0.cell? ⟨sb,2,none⟩=some (.slice (some ⟨fb,0,none⟩) s.found.length fc):=by rw[cell_of_row _ _ 2 _ _ _ (HH.out.below jb).cT];rfl
 have acJ:sb<w0.heap.size:=lt_of_heap (HH.out.below jb).cT
 have H0:Hid (mL w0 sb mb rv (some ⟨fb,0,none⟩) fc T s):=HH.out.below jb
 go_upto_if 31 with fail
 go_cut [12,13]from 29 (fun fv tv wx=>fv=.int .i64 fr∧tv=.int .i64 tn∧wx=w0)
 case first=>
  by_cases c1:i=turn
  · have e1:Hid (fr=aX):=by have:=VU.out;rw[if_pos c1]at this;exact this
    have e2:Hid (tn=aX+1):=by have:=Wb.out;rw[if_pos c1]at this;exact this
    have a8:((i:Int)==(turn:Int))=true:=by simp;omega
    clear c1
    go_wp2_with fail
    go_meet
    case rel=>exact⟨by rw[e1.out],by rw[e2.out];rfl,rfl⟩
  · have a8:((i:Int)==(turn:Int))=false:=by simp;omega
    by_cases c2:i<turn
    · have e1:Hid (fr=0):=by have:=VU.out;rw[if_neg c1]at this;exact this
      have e2:Hid (tn=aX):=by have:=Wb.out;rw[if_neg c1,if_pos c2]at this;exact this
      clear c1
      go_wp2_with fail
      go_meet
      case rel=>exact⟨by rw[e1.out];rfl,by rw[e2.out],rfl⟩
    · have e1:Hid (fr=0):=by have:=VU.out;rw[if_neg c1]at this;exact this
      have e2:Hid (tn=aX+1):=by have:=Wb.out;rw[if_neg c1,if_neg c2]at this;exact this
      clear c1
      go_wp2_with fail
      go_meet
      case rel=>exact⟨by rw[e1.out];rfl,by rw[e2.out];rfl,rfl⟩
 case rest=>
  obtain⟨rfl,rfl,hwx⟩:=ko
  have ab0:=hwx.symm
  subst ab0
  have g1:(fr:Int)≤(tn:Int):=by omega
  have g2:tn≤fc:=by omega
  have g3:¬(fc=fr):=by omega
  have g4:fr≤tn:=zq.1
  have hff:=bh HH.out.Bo
  have Wq:Hid (Below w.heap.size w w0):=jb
  have HJR:Hid (w0.heap[w.heap.size]?=some (.cells #[.int .i64 a.at_,.string a.pred,.slice ad a.ag.length ac,.slice (some ⟨bg,0,none⟩) body.length bc] 222 (0,0))):=jr
  have HJX:Hid (w0.heap[w.heap.size+1]?=some (.cells (cI n X Y) 369 (0,0))):=jx
  have HCS:Hid (∀k (hk:k<cs.length),∃(hq:fr+k<s.found.length),cs[k]=s.found[fr+k]):=Sy
  have HHF:Hid (s.found.length+(cs.flatMap G).length≤999990):=hF
  have HHC:Hid (∀f,s.count f+(cs.flatMap G).length≤1000000000000):=hC
  have HFN:Hid (∀j u,(cq s.found)[j]?=some u→w.cell? ⟨fb,j,none⟩=some u):=Xc
  have HPZ:Hid (s.found.take (aX+1)=P++[z]):=TU
  clear acN Xc Sy hF hC h hr jb jr jx TU cA abE r3 hblk
  go_upto_region 9 with fail
  have aib:tn-fr≤cs.length:=by omega
  have ai2:cs.length≤tn-fr:=by omega
  go_loopw [45] (fun iv wr=>∃k:Nat,k≤cs.length∧iv=.int .i64 k∧iy w0 wr sb mb rv (some ⟨fb,0,none⟩) fc T s (En.holds s ((cs.take k).flatMap G))) (fun iv _=>cs.length-(intOf iv).toNat)
  case atStart=>exact⟨0,Nat.zero_le _,rfl,iy.refl H0.out⟩
  case round=>
   obtain⟨k,hk,rfl,jN⟩:=hrel
   have HS:Hid (iy w0 wr sb mb rv (some ⟨fb,0,none⟩) fc T s (En.holds s ((cs.take k).flatMap G))):=jN
   clear jN
   have KL:w0.heap.size≤wr.heap.size:=HS.out.kept.size
   have IX:wr.heap[w.heap.size]?=some (.cells #[.int .i64 a.at_,.string a.pred,.slice ad a.ag.length ac,.slice (some ⟨bg,0,none⟩) body.length bc] 222 (0,0)):=HS.out.kept.heap HJR.out (fun hc=>by have:=qP HH.out hc;omega)
   have BJ:wr.heap[w.heap.size+1]?=some (.cells (cI n X Y) 369 (0,0)):=HS.out.kept.heap HJX.out (fun hc=>by have:=qP HH.out hc;omega)
   by_cases aE:k<cs.length
   · obtain⟨hq,hck⟩:=HCS.out k aE
     obtain⟨p,x,y,zz,hfp⟩:=JJ (HH.out.three _ (List.getElem_mem hq))
     have ab1:Hid (cs[k]=(p,[x,y,zz])):=by rw[hck,hfp];rfl
     obtain⟨c0,c1,c2,c3⟩:=Lx HH.out.three hq hfp
     have Xx:∀j u,j<s.found.length*4→(cq s.found)[j]?=some u→wr.cell? ⟨fb,j,none⟩=some u:=by
      intro j u hj hu
      rw[(HS.out.cells fb rfl).2 j hj,Wq.out.cell (by exact Wo)]
      exact HFN.out j u hu
     have f0:wr.cell? ⟨fb,fr*4+k*4,none⟩=some (.string p):=Xx _ _ (by omega) (by rw[show fr*4+k*4=(fr+k)*4 by omega];exact c0)
     have f1:wr.cell? ⟨fb,fr*4+k*4+1,none⟩=some (.string x):=Xx _ _ (by omega) (by rw[show fr*4+k*4+1=(fr+k)*4+1 by omega];exact c1)
     have f2:wr.cell? ⟨fb,fr*4+k*4+2,none⟩=some (.string y):=Xx _ _ (by omega) (by rw[show fr*4+k*4+2=(fr+k)*4+2 by omega];exact c2)
     have f3:wr.cell? ⟨fb,fr*4+k*4+3,none⟩=some (.string zz):=Xx _ _ (by omega) (by rw[show fr*4+k*4+3=(fr+k)*4+3 by omega];exact c3)
     have ahu:fb<wr.heap.size:=by have:=Wq.out.size;omega
     have F2:tm wr a ad ac (some ⟨bg,0,none⟩) bc body:=(uV.out.below Wq.out).search H0.out HS.out
     have HRA:Hid (tm wr a ad ac (some ⟨bg,0,none⟩) bc body):=F2
     obtain⟨bg',eb,aiw,ahB,Ia⟩:=aD F2.mr.2.1 (by show 0<body.length;omega)
     simp only[Option.some.injEq,Addr.mk.injEq,and_true]at eb
     subst eb
     obtain⟨a0,a1,a2⟩:=bK body i hi
     rw[WW]at a0 a1 a2
     rw[tV]at a2
     have m0:=Ia _ _ a0
     have m1:=Ia _ _ a1
     have m2:=Ia _ _ a2
     have WN:MA.ok wr (ma.1,.slice xd ma.1.ag.length xc):=by
      have:=F2.mr.2.2 ma fY
      rw[←tV]
      exact this
     have r0:wr.cell? ⟨w.heap.size,0,none⟩=some (.int .i64 a.at_):=by rw[cell_of_row _ _ _ _ _ _ IX];rfl
     have r1:wr.cell? ⟨w.heap.size,1,none⟩=some (.string a.pred):=by rw[cell_of_row _ _ _ _ _ _ IX];rfl
     have r2:wr.cell? ⟨w.heap.size,2,none⟩=some (.slice ad a.ag.length ac):=by rw[cell_of_row _ _ _ _ _ _ IX];rfl
     have r3:wr.cell? ⟨w.heap.size,3,none⟩=some (.slice (some ⟨bg,0,none⟩) body.length bc):=by rw[cell_of_row _ _ _ _ _ _ IX];rfl
     have q0:wr.cell? ⟨w.heap.size+1,0,none⟩=some (.int .i64 n):=by rw[cell_of_row _ _ _ _ _ _ BJ];rfl
     have q1:wr.cell? ⟨w.heap.size+1,1,none⟩=some (.string (X 0)):=by rw[cell_of_row _ _ _ _ _ _ BJ];rfl
     have q2:wr.cell? ⟨w.heap.size+1,2,none⟩=some (.string (Y 0)):=by rw[cell_of_row _ _ _ _ _ _ BJ];rfl
     have q3:wr.cell? ⟨w.heap.size+1,3,none⟩=some (.string (X 1)):=by rw[cell_of_row _ _ _ _ _ _ BJ];rfl
     have q4:wr.cell? ⟨w.heap.size+1,4,none⟩=some (.string (Y 1)):=by rw[cell_of_row _ _ _ _ _ _ BJ];rfl
     have q5:wr.cell? ⟨w.heap.size+1,5,none⟩=some (.string (X 2)):=by rw[cell_of_row _ _ _ _ _ _ BJ];rfl
     have q6:wr.cell? ⟨w.heap.size+1,6,none⟩=some (.string (Y 2)):=by rw[cell_of_row _ _ _ _ _ _ BJ];rfl
     have q7:wr.cell? ⟨w.heap.size+1,7,none⟩=some (.string (X 3)):=by rw[cell_of_row _ _ _ _ _ _ BJ];rfl
     have q8:wr.cell? ⟨w.heap.size+1,8,none⟩=some (.string (Y 3)):=by rw[cell_of_row _ _ _ _ _ _ BJ];rfl
     have q9:wr.cell? ⟨w.heap.size+1,9,none⟩=some (.string (X 4)):=by rw[cell_of_row _ _ _ _ _ _ BJ];rfl
     have Wa:wr.cell? ⟨w.heap.size+1,10,none⟩=some (.string (Y 4)):=by rw[cell_of_row _ _ _ _ _ _ BJ];rfl
     have V5:wr.cell? ⟨w.heap.size+1,11,none⟩=some (.string (X 5)):=by rw[cell_of_row _ _ _ _ _ _ BJ];rfl
     have WC:wr.cell? ⟨w.heap.size+1,12,none⟩=some (.string (Y 5)):=by rw[cell_of_row _ _ _ _ _ _ BJ];rfl
     have v1:w.heap.size<wr.heap.size:=by omega
     have v2:w.heap.size+1<wr.heap.size:=by omega
     obtain⟨w1,sI⟩:∃w1,w1=wr.alloc (.cells #[.string p,.string x,.string y,.string zz] 325):=⟨_,rfl⟩
     have jz:Below wr.heap.size wr w1:=by rw[sI];exact(Below.refl _ _).alloc (Nat.le_refl _) _
     have kA:w1.heap.size=wr.heap.size+1:=by rw[sI];simp
     have Sh:w1.heap[wr.heap.size]?=some (.cells #[.string p,.string x,.string y,.string zz] 325 (0,0)):=by rw[sI];exact heap_alloc_new wr _
     have XC:Hid (∀W:World,Below w1.heap.size w1 W→Calls Tryz.prog 266 #[.agg (cI n X Y),.agg #[.int .i64 ma.1.at_,.string ma.1.pred,.slice xd ma.1.ag.length xc],.agg #[.string p,.string x,.string y,.string zz]] W fun e w'=>∃n1 X1 Y1 ok,e=.returned (.tuple #[.agg (cI n1 X1 Y1),.bool ok])∧Below W.heap.size W w'∧Below w1.heap.size w1 w'∧
      Hid ((ok=false∧En.dg ma.1 (p,[x,y,zz]) b=none)∨(ok=true∧∃b1,En.dg ma.1 (p,[x,y,zz]) b=some b1∧Cq b1 n1 X1 Y1∧n1≤n+ma.1.ag.length))):=by
      intro W hW
      have tL:Below wr.heap.size wr W:=jz.trans (hW.mono jz.size)
      refine(Vc W b n X Y hb ma.1 xd xc p x y zz (ae WN tL) hao (by have:=hao.three;omega)).mono ?_
      rintro e w' ⟨n1,X1,Y1,ok,h1,h2,h3⟩
      exact⟨n1,X1,Y1,ok,h1,h2,hW.trans (h2.mono hW.size),h3⟩
     clear Xx c0 c1 c2 c3 a0 a1 a2 Ia F2 WN IX BJ hck hfp s2 Wo
     have Cp:∀n X Y,cI n X Y=#[.int .i64 n,.string (X 0),.string (Y 0),.string (X 1),.string (Y 1),.string (X 2),.string (Y 2),.string (X 3),.string (Y 3),.string (X 4),.string (Y 4),.string (X 5),.string (Y 5)]:=fun _ _ _=>rfl
     simp only[Cp]at XC
     clear Cp
     go_upto_region 11 with fail
     rw[←sI]
     have k0:w1.cell? ⟨w.heap.size,3,none⟩=some (.slice (some ⟨bg,0,none⟩) body.length bc):=by rw[jz.cell (World.block_lt_of_cell? wr _ r3)];exact r3
     have k1:w1.cell? ⟨w.heap.size+1,0,none⟩=some (.int .i64 n):=by rw[jz.cell (World.block_lt_of_cell? wr _ q0)];exact q0
     have k2:w1.cell? ⟨w.heap.size+1,1,none⟩=some (.string (X 0)):=by rw[jz.cell (World.block_lt_of_cell? wr _ q1)];exact q1
     have k3:w1.cell? ⟨w.heap.size+1,2,none⟩=some (.string (Y 0)):=by rw[jz.cell (World.block_lt_of_cell? wr _ q2)];exact q2
     have k4:w1.cell? ⟨w.heap.size+1,3,none⟩=some (.string (X 1)):=by rw[jz.cell (World.block_lt_of_cell? wr _ q3)];exact q3
     have k5:w1.cell? ⟨w.heap.size+1,4,none⟩=some (.string (Y 1)):=by rw[jz.cell (World.block_lt_of_cell? wr _ q4)];exact q4
     have k6:w1.cell? ⟨w.heap.size+1,5,none⟩=some (.string (X 2)):=by rw[jz.cell (World.block_lt_of_cell? wr _ q5)];exact q5
     have k7:w1.cell? ⟨w.heap.size+1,6,none⟩=some (.string (Y 2)):=by rw[jz.cell (World.block_lt_of_cell? wr _ q6)];exact q6
     have k8:w1.cell? ⟨w.heap.size+1,7,none⟩=some (.string (X 3)):=by rw[jz.cell (World.block_lt_of_cell? wr _ q7)];exact q7
     have k9:w1.cell? ⟨w.heap.size+1,8,none⟩=some (.string (Y 3)):=by rw[jz.cell (World.block_lt_of_cell? wr _ q8)];exact q8
     have Xr:w1.cell? ⟨w.heap.size+1,9,none⟩=some (.string (X 4)):=by rw[jz.cell (World.block_lt_of_cell? wr _ q9)];exact q9
     have Xh:w1.cell? ⟨w.heap.size+1,10,none⟩=some (.string (Y 4)):=by rw[jz.cell (World.block_lt_of_cell? wr _ Wa)];exact Wa
     have wL:w1.cell? ⟨w.heap.size+1,11,none⟩=some (.string (X 5)):=by rw[jz.cell (World.block_lt_of_cell? wr _ V5)];exact V5
     have u5:w1.cell? ⟨w.heap.size+1,12,none⟩=some (.string (Y 5)):=by rw[jz.cell (World.block_lt_of_cell? wr _ WC)];exact WC
     have s9:w1.cell? ⟨bg,i*3,none⟩=some (.int .i64 ma.1.at_):=by rw[jz.cell (World.block_lt_of_cell? wr _ m0)];exact m0
     have Fb:w1.cell? ⟨bg,i*3+1,none⟩=some (.string ma.1.pred):=by rw[jz.cell (World.block_lt_of_cell? wr _ m1)];exact m1
     have QU:w1.cell? ⟨bg,i*3+2,none⟩=some (.slice xd ma.1.ag.length xc):=by rw[jz.cell (World.block_lt_of_cell? wr _ m2)];exact m2
     have Zh:w1.cell? ⟨wr.heap.size,0,none⟩=some (.string p):=by rw[cell_of_row _ _ _ _ _ _ Sh];rfl
     have Xt:w1.cell? ⟨wr.heap.size,1,none⟩=some (.string x):=by rw[cell_of_row _ _ _ _ _ _ Sh];rfl
     have X5:w1.cell? ⟨wr.heap.size,2,none⟩=some (.string y):=by rw[cell_of_row _ _ _ _ _ _ Sh];rfl
     have XN:w1.cell? ⟨wr.heap.size,3,none⟩=some (.string zz):=by rw[cell_of_row _ _ _ _ _ _ Sh];rfl
     have v3:wr.heap.size<w1.heap.size:=by omega
     have v4:w.heap.size<w1.heap.size:=by omega
     have v5:w.heap.size+1<w1.heap.size:=by omega
     have v6:bg<w1.heap.size:=by omega
     have Pv:Hid (w1.heap.size=wr.heap.size+1):=kA
     clear kA sI r0 r1 r2 r3 q0 q1 q2 q3 q4 q5 q6 q7 q8 q9 Wa V5 WC m0 m1 m2 f0 f1 f2 f3 v1 v2 Sh
     go_cut [16,17,45]from 45 to 69 (fun nv ov kv wx=>kv=.int .i64 k∧∃g n1 X1 Y1 ok,nv=.pointer (some ⟨g,0,none⟩)∧ov=.bool ok∧wx.heap[g]?=some (.cells (cI n1 X1 Y1) 369 (0,0))∧Below w1.heap.size w1 wx∧Hid ((ok=false∧En.dg ma.1 (p,[x,y,zz]) b=none)∨(ok=true∧∃b1,En.dg ma.1 (p,[x,y,zz]) b=some b1∧Cq b1 n1 X1 Y1∧n1≤n+ma.1.ag.length)))
     case first=>
      have nn0:=World.new_ne w1 _ k0
      have nn1:=World.new_ne w1 _ k1
      have nn2:=World.new_ne w1 _ k2
      have nn3:=World.new_ne w1 _ k3
      have nn4:=World.new_ne w1 _ k4
      have nn5:=World.new_ne w1 _ k5
      have nn6:=World.new_ne w1 _ k6
      have nn7:=World.new_ne w1 _ k7
      have nn8:=World.new_ne w1 _ k8
      have nn9:=World.new_ne w1 _ k9
      have ai3:=World.new_ne w1 _ Xr
      have ai0:=World.new_ne w1 _ Xh
      have ajK:=World.new_ne w1 _ wL
      have ah9:=World.new_ne w1 _ u5
      have ahS:=World.new_ne w1 _ s9
      have ahU:=World.new_ne w1 _ Fb
      have aht:=World.new_ne w1 _ QU
      have ajR:=World.new_ne w1 _ Zh
      have ajU:=World.new_ne w1 _ Xt
      have ahw:=World.new_ne w1 _ X5
      have ag5:=World.new_ne w1 _ XN
      go_region_held3 (fun w'=>w'.cell? ⟨w.heap.size,3,none⟩=some (.slice (some ⟨bg,0,none⟩) body.length bc)∧w'.cell? ⟨w.heap.size+1,0,none⟩=some (.int .i64 n)∧w'.cell? ⟨w.heap.size+1,1,none⟩=some (.string (X 0))∧w'.cell? ⟨w.heap.size+1,2,none⟩=some (.string (Y 0))∧w'.cell? ⟨w.heap.size+1,3,none⟩=some (.string (X 1))∧w'.cell? ⟨w.heap.size+1,4,none⟩=some (.string (Y 1))∧w'.cell? ⟨w.heap.size+1,5,none⟩=some (.string (X 2))∧w'.cell? ⟨w.heap.size+1,6,none⟩=some (.string (Y 2))∧w'.cell? ⟨w.heap.size+1,7,none⟩=some (.string (X 3))∧w'.cell? ⟨w.heap.size+1,8,none⟩=some (.string (Y 3))∧w'.cell? ⟨w.heap.size+1,9,none⟩=some (.string (X 4))∧w'.cell? ⟨w.heap.size+1,10,none⟩=some (.string (Y 4))∧w'.cell? ⟨w.heap.size+1,11,none⟩=some (.string (X 5))∧w'.cell? ⟨w.heap.size+1,12,none⟩=some (.string (Y 5))∧w'.cell? ⟨bg,i*3,none⟩=some (.int .i64 ma.1.at_)∧w'.cell? ⟨bg,i*3+1,none⟩=some (.string ma.1.pred)∧w'.cell? ⟨bg,i*3+2,none⟩=some (.slice xd ma.1.ag.length xc)∧w'.cell? ⟨wr.heap.size,0,none⟩=some (.string p)∧w'.cell? ⟨wr.heap.size,1,none⟩=some (.string x)∧w'.cell? ⟨wr.heap.size,2,none⟩=some (.string y)∧w'.cell? ⟨wr.heap.size,3,none⟩=some (.string zz)) (go_keep) (first | (go_at_call 266;refine(XC.out _ (by first | exact(Below.refl _ _).drew | exact(((Below.refl _ _).drew).alloc (Nat.le_refl _) _) | exact(((Below.refl _ _).alloc (Nat.le_refl _) _).drew))).mono ?_;rintro e w5 ⟨n1,X1,Y1,ok,rfl,la,oQ,Sd⟩;have y0:w5.cell? ⟨w.heap.size,3,none⟩=some (.slice (some ⟨bg,0,none⟩) body.length bc):=(by rw[oQ.cell (World.block_lt_of_cell? w1 _ k0)];exact k0);have y1:w5.cell? ⟨w.heap.size+1,0,none⟩=some (.int .i64 n):=(by rw[oQ.cell (World.block_lt_of_cell? w1 _ k1)];exact k1);have y2:w5.cell? ⟨w.heap.size+1,1,none⟩=some (.string (X 0)):=(by rw[oQ.cell (World.block_lt_of_cell? w1 _ k2)];exact k2);have y3:w5.cell? ⟨w.heap.size+1,2,none⟩=some (.string (Y 0)):=(by rw[oQ.cell (World.block_lt_of_cell? w1 _ k3)];exact k3);have y4:w5.cell? ⟨w.heap.size+1,3,none⟩=some (.string (X 1)):=(by rw[oQ.cell (World.block_lt_of_cell? w1 _ k4)];exact k4);have y5:w5.cell? ⟨w.heap.size+1,4,none⟩=some (.string (Y 1)):=(by rw[oQ.cell (World.block_lt_of_cell? w1 _ k5)];exact k5);have y6:w5.cell? ⟨w.heap.size+1,5,none⟩=some (.string (X 2)):=(by rw[oQ.cell (World.block_lt_of_cell? w1 _ k6)];exact k6);have y7:w5.cell? ⟨w.heap.size+1,6,none⟩=some (.string (Y 2)):=(by rw[oQ.cell (World.block_lt_of_cell? w1 _ k7)];exact k7);have y8:w5.cell? ⟨w.heap.size+1,7,none⟩=some (.string (X 3)):=(by rw[oQ.cell (World.block_lt_of_cell? w1 _ k8)];exact k8);have y9:w5.cell? ⟨w.heap.size+1,8,none⟩=some (.string (Y 3)):=(by rw[oQ.cell (World.block_lt_of_cell? w1 _ k9)];exact k9);have y10:w5.cell? ⟨w.heap.size+1,9,none⟩=some (.string (X 4)):=(by rw[oQ.cell (World.block_lt_of_cell? w1 _ Xr)];exact Xr);have y11:w5.cell? ⟨w.heap.size+1,10,none⟩=some (.string (Y 4)):=(by rw[oQ.cell (World.block_lt_of_cell? w1 _ Xh)];exact Xh);have y12:w5.cell? ⟨w.heap.size+1,11,none⟩=some (.string (X 5)):=(by rw[oQ.cell (World.block_lt_of_cell? w1 _ wL)];exact wL);have y13:w5.cell? ⟨w.heap.size+1,12,none⟩=some (.string (Y 5)):=(by rw[oQ.cell (World.block_lt_of_cell? w1 _ u5)];exact u5);have y14:w5.cell? ⟨bg,i*3,none⟩=some (.int .i64 ma.1.at_):=(by rw[oQ.cell (World.block_lt_of_cell? w1 _ s9)];exact s9);have y15:w5.cell? ⟨bg,i*3+1,none⟩=some (.string ma.1.pred):=(by rw[oQ.cell (World.block_lt_of_cell? w1 _ Fb)];exact Fb);have y16:w5.cell? ⟨bg,i*3+2,none⟩=some (.slice xd ma.1.ag.length xc):=(by rw[oQ.cell (World.block_lt_of_cell? w1 _ QU)];exact QU);have y17:w5.cell? ⟨wr.heap.size,0,none⟩=some (.string p):=(by rw[oQ.cell (World.block_lt_of_cell? w1 _ Zh)];exact Zh);have y18:w5.cell? ⟨wr.heap.size,1,none⟩=some (.string x):=(by rw[oQ.cell (World.block_lt_of_cell? w1 _ Xt)];exact Xt);have y19:w5.cell? ⟨wr.heap.size,2,none⟩=some (.string y):=(by rw[oQ.cell (World.block_lt_of_cell? w1 _ X5)];exact X5);have y20:w5.cell? ⟨wr.heap.size,3,none⟩=some (.string zz):=(by rw[oQ.cell (World.block_lt_of_cell? w1 _ XN)];exact XN);(try (have hz:w5.heap[w1.heap.size]?=some (.cells (cI 0 (fun _=>⟨#[]⟩) (fun _=>⟨#[]⟩)) 369 (0,0)):=(by rw[la.block _ (by simp)];first | exact heap_alloc_new w1 _ | exact heap_alloc_new w1.drew _);have z0:w5.cell? ⟨w1.heap.size,0,none⟩=some (.int .i64 0):=(by rw[cell_of_row _ _ _ _ _ _ hz];rfl);have z1:w5.cell? ⟨w1.heap.size,1,none⟩=some (.string ⟨#[]⟩):=(by rw[cell_of_row _ _ _ _ _ _ hz];rfl);have z2:w5.cell? ⟨w1.heap.size,2,none⟩=some (.string ⟨#[]⟩):=(by rw[cell_of_row _ _ _ _ _ _ hz];rfl);have z3:w5.cell? ⟨w1.heap.size,3,none⟩=some (.string ⟨#[]⟩):=(by rw[cell_of_row _ _ _ _ _ _ hz];rfl);have z4:w5.cell? ⟨w1.heap.size,4,none⟩=some (.string ⟨#[]⟩):=(by rw[cell_of_row _ _ _ _ _ _ hz];rfl);have z5:w5.cell? ⟨w1.heap.size,5,none⟩=some (.string ⟨#[]⟩):=(by rw[cell_of_row _ _ _ _ _ _ hz];rfl);have z6:w5.cell? ⟨w1.heap.size,6,none⟩=some (.string ⟨#[]⟩):=(by rw[cell_of_row _ _ _ _ _ _ hz];rfl);have z7:w5.cell? ⟨w1.heap.size,7,none⟩=some (.string ⟨#[]⟩):=(by rw[cell_of_row _ _ _ _ _ _ hz];rfl);have z8:w5.cell? ⟨w1.heap.size,8,none⟩=some (.string ⟨#[]⟩):=(by rw[cell_of_row _ _ _ _ _ _ hz];rfl);have z9:w5.cell? ⟨w1.heap.size,9,none⟩=some (.string ⟨#[]⟩):=(by rw[cell_of_row _ _ _ _ _ _ hz];rfl);have z10:w5.cell? ⟨w1.heap.size,10,none⟩=some (.string ⟨#[]⟩):=(by rw[cell_of_row _ _ _ _ _ _ hz];rfl);have z11:w5.cell? ⟨w1.heap.size,11,none⟩=some (.string ⟨#[]⟩):=(by rw[cell_of_row _ _ _ _ _ _ hz];rfl);have z12:w5.cell? ⟨w1.heap.size,12,none⟩=some (.string ⟨#[]⟩):=(by rw[cell_of_row _ _ _ _ _ _ hz];rfl);have zf:∀o,w5.frozen? ⟨w1.heap.size,o,none⟩=false:=(fun o=>by simp[World.frozen?,hz]);have zl:w1.heap.size<w5.heap.size:=(lt_of_heap hz);have HZ:Hid (w5.heap[w1.heap.size]?=some (.cells (cI 0 (fun _=>⟨#[]⟩) (fun _=>⟨#[]⟩)) 369 (0,0))):=hz;clear hz))))
      · go_wp2_with fail
        go_meet
        case rel=>
         refine⟨rfl,w5.heap.size,n1,X1,Y1,ok,rfl,rfl, ?_,oQ.alloc oQ.size _,Sd⟩
         exact heap_alloc_new w5 _
      · go_wp2_with fail
        go_meet
        case rel=>
         obtain⟨hu,PH⟩:=tS (n:=n1) (X:=X1) (Y:=Y1) HZ.out
         refine⟨rfl,w1.heap.size,n1,X1,Y1,ok,rfl,rfl, ?_, ?_,Sd⟩
         · exact hu
         · exact PH.aJ oQ oQ.size (fun q hq=>by simp at hq;omega)
     case rest=>
      obtain⟨rfl,g,n1,X1,Y1,ok,rfl,rfl,EZ,mZ,fV⟩:=ko
      have yI:Below wr.heap.size wr wc:=jz.trans (mZ.mono jz.size)
      have Hv:Hid (Below wr.heap.size wr wc):=yI
      have agX:=yI.size
      have hGk:Hid (G cs[k]=En.Jb P z turn a i ma.1 ((body.drop (i+1)).map Prod.fst) b (p,[x,y,zz])):=by rw[ab1.out,←HG.out];rfl
      have S6:=K6 G cs aE
      have yD:Hid ((cs.take (k+1)).flatMap G=(cs.take k).flatMap G++G cs[k]):=S6
      clear S6 mZ yI
      cases ok with
      | false=>
       have iM:Hid (G cs[k]=[]):=by
        rcases fV.out with⟨_,e⟩ | ⟨e,_⟩
        · rw[hGk.out];unfold En.Jb;rw[e];rfl
        · cases e
       have uE:Hid (iy w0 wc sb mb rv (some ⟨fb,0,none⟩) fc T s (En.holds s ((cs.take (k+1)).flatMap G))):=by
        rw[yD.out,iM.out,List.append_nil]
        exact HS.out.post Hv.out
       clear EZ fV k0 k1 k2 k3 k4 k5 k6 k7 k8 k9 Xr Xh wL u5 s9 Fb QU Zh Xt X5 XN
       go_wp2_with fail
       go_roundw
       case rel=>exact⟨k+1,by omega,by go_num,uE.out⟩
       case measure=>simp[intOf];omega
      | true=>
       obtain⟨b1,a8,Yi,yw⟩:∃b1,En.dg ma.1 (p,[x,y,zz]) b=some b1∧Cq b1 n1 X1 Y1∧n1≤n+ma.1.ag.length:=by
        rcases fV.out with⟨e,_⟩ | ⟨_,e⟩
        · cases e
        · exact e
       have pC:Hid (G cs[k]=En.jn P z turn a (i+1) ((body.drop (i+1)).map Prod.fst) b1):=by
        rw[hGk.out];unfold En.Jb;rw[a8];rfl
       obtain⟨vN,vT,T1,Ua,mg,zD⟩:=HS.out.on
       have pV:=En.mF ((cs.take k).flatMap G) s
       have Zp:=nu G cs (k+1)
       rw[yD.out,List.length_append]at Zp
       have Wj:=HHF.out
       have RM:=HHC.out
       have GW:=IH wc vN vT T1 (En.holds s ((cs.take k).flatMap G)) b1 n1 X1 Y1 (Ua.below Hv.out) (HRA.out.below Hv.out) Yi (by have:=hao.three;omega) (by rw[ke mg];exact hp) (by omega) (by rw[En.qa _ _ (by omega)];exact HPZ.out) (by rw[←pC.out];omega) (fun f=>by have h1:=En.ir ((cs.take k).flatMap G) s f;have h2:=RM f;rw[←pC.out];omega)
       have zH:Hid (Calls Tryz.prog 232 #[.pointer (some ⟨sb,0,none⟩),.agg #[.int .i64 a.at_,.string a.pred,.slice ad a.ag.length ac,.slice (some ⟨bg,0,none⟩) body.length bc],.int .i64 ((i:Int)+1),.int .i64 turn,.int .i64 aX,.agg #[.int .i64 n1,.string (X1 0),.string (Y1 0),.string (X1 1),.string (Y1 1),.string (X1 2),.string (Y1 2),.string (X1 3),.string (Y1 3),.string (X1 4),.string (Y1 4),.string (X1 5),.string (Y1 5)]] wc fun e w'=>e=.returned (.tuple #[])∧iy w0 w' sb mb rv (some ⟨fb,0,none⟩) fc T s (En.holds s ((cs.take (k+1)).flatMap G))):=by
        have Hx:((i+1:Nat):Int)=(i:Int)+1:=by omega
        rw[Hx]at GW
        refine GW.mono ?_
        rintro e w' ⟨rfl,jN⟩
        refine⟨rfl, ?_⟩
        rw[yD.out,En.jT,pC.out]
        exact iy.trans H0.out (Ua.below Hv.out) mg zD (HS.out.kept.below Hv.out) (HS.out.post Hv.out).cells pV.1 jN
       have KM:wc.heap[w.heap.size]?=some (.cells #[.int .i64 a.at_,.string a.pred,.slice ad a.ag.length ac,.slice (some ⟨bg,0,none⟩) body.length bc] 222 (0,0)):=(HS.out.post Hv.out).kept.heap HJR.out (fun hc=>by have:=qP HH.out hc;omega)
       have r0:wc.cell? ⟨w.heap.size,0,none⟩=some (.int .i64 a.at_):=by rw[cell_of_row _ _ _ _ _ _ KM];rfl
       have r1:wc.cell? ⟨w.heap.size,1,none⟩=some (.string a.pred):=by rw[cell_of_row _ _ _ _ _ _ KM];rfl
       have r2:wc.cell? ⟨w.heap.size,2,none⟩=some (.slice ad a.ag.length ac):=by rw[cell_of_row _ _ _ _ _ _ KM];rfl
       have r3:wc.cell? ⟨w.heap.size,3,none⟩=some (.slice (some ⟨bg,0,none⟩) body.length bc):=by rw[cell_of_row _ _ _ _ _ _ KM];rfl
       have q0:wc.cell? ⟨g,0,none⟩=some (.int .i64 n1):=by rw[cell_of_row _ _ _ _ _ _ EZ];rfl
       have q1:wc.cell? ⟨g,1,none⟩=some (.string (X1 0)):=by rw[cell_of_row _ _ _ _ _ _ EZ];rfl
       have q2:wc.cell? ⟨g,2,none⟩=some (.string (Y1 0)):=by rw[cell_of_row _ _ _ _ _ _ EZ];rfl
       have q3:wc.cell? ⟨g,3,none⟩=some (.string (X1 1)):=by rw[cell_of_row _ _ _ _ _ _ EZ];rfl
       have q4:wc.cell? ⟨g,4,none⟩=some (.string (Y1 1)):=by rw[cell_of_row _ _ _ _ _ _ EZ];rfl
       have q5:wc.cell? ⟨g,5,none⟩=some (.string (X1 2)):=by rw[cell_of_row _ _ _ _ _ _ EZ];rfl
       have q6:wc.cell? ⟨g,6,none⟩=some (.string (Y1 2)):=by rw[cell_of_row _ _ _ _ _ _ EZ];rfl
       have q7:wc.cell? ⟨g,7,none⟩=some (.string (X1 3)):=by rw[cell_of_row _ _ _ _ _ _ EZ];rfl
       have q8:wc.cell? ⟨g,8,none⟩=some (.string (Y1 3)):=by rw[cell_of_row _ _ _ _ _ _ EZ];rfl
       have q9:wc.cell? ⟨g,9,none⟩=some (.string (X1 4)):=by rw[cell_of_row _ _ _ _ _ _ EZ];rfl
       have Wa:wc.cell? ⟨g,10,none⟩=some (.string (Y1 4)):=by rw[cell_of_row _ _ _ _ _ _ EZ];rfl
       have V5:wc.cell? ⟨g,11,none⟩=some (.string (X1 5)):=by rw[cell_of_row _ _ _ _ _ _ EZ];rfl
       have WC:wc.cell? ⟨g,12,none⟩=some (.string (Y1 5)):=by rw[cell_of_row _ _ _ _ _ _ EZ];rfl
       have u1:w.heap.size<wc.heap.size:=lt_of_heap KM
       have u2:g<wc.heap.size:=lt_of_heap EZ
       clear EZ fV KM GW Ua mg zD pV Zp Wj RM a8 Yi yw k0 k1 k2 k3 k4 k5 k6 k7 k8 k9 Xr Xh wL u5 s9 Fb QU Zh Xt X5 XN
       go_wp2_with (go_at_call 232;refine zH.out.mono ?_;rintro e w6 ⟨rfl,uM⟩;have Vx:Hid (iy w0 w6 sb mb rv (some ⟨fb,0,none⟩) fc T s (En.holds s ((cs.take (k+1)).flatMap G))):=uM;clear uM)
       go_roundw
       case rel=>exact⟨k+1,by omega,by go_num,Vx.out⟩
       case measure=>simp[intOf];omega
   · have Tm:k=cs.length:=by omega
     have nV:Hid (iy w wr sb mb rv (some ⟨fb,0,none⟩) fc T s (En.holds s (cs.flatMap G))):=by
      have:=HS.out.pre Wq.out HH.out
      rw[Tm,List.take_length]at this
      exact this
     clear Tm IX BJ
     go_wp2_with fail
     go_end0
     exact⟨rfl,nV.out⟩
end
end Go.Proofs.YtdmicblafmhflaaGreatDoor
