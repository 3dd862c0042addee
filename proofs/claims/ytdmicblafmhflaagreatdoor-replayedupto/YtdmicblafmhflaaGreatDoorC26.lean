/- Package follow: join, one atom further. -/
import Derived.Test.YtdmicblafmhflaaGreatDoorC25
import Derived.Deep.RegionHeld3
set_option linter.unusedSimpArgs false
set_option linter.unusedVariables false
set_option maxHeartbeats 8000000
set_option maxRecDepth 100000
namespace Go.Proofs.YtdmicblafmhflaaGreatDoor
namespace En
theorem NY(s:dB cl)(f:cl)(n:Nat):s.found.length≤(hold s f n).found.length∧(hold s f n).found.length≤s.found.length+1:=by
 unfold hold
 simp only
 split<;>simp
theorem mn:∀(l:List cl) (s:dB cl),s.found.length≤(holds s l).found.length∧(holds s l).found.length≤s.found.length+l.length
 | [],s=>⟨Nat.le_refl _,Nat.le_refl _⟩
 | f::l,s=>by
  rw[kh]
  have h1:=NY s f 1
  have h2:=mn l (hold s f 1)
  rw[List.length_cons]
  omega
theorem gS{F:Type}[DecidableEq F](l:List F)(s:dB F)(f:F):(holds s l).count f≤s.count f+l.length:=by
 obtain⟨_,_,_,_,_,h⟩:=gz l s
 rw[h f]
 exact Nat.add_le_add_left List.count_le_length _
theorem qa(l:List cl)(s:dB cl){m:Nat}(hm:m≤s.found.length):(holds s l).found.take m=s.found.take m:=by
 obtain⟨t,h,_⟩:=gz l s
 rw[h,List.take_append_of_le_length hm]
def Lr(P:List cl)(z:cl)(turn:Nat)(h:Ax.Atom)(i:Nat)(a:Ax.Atom)(l:List Ax.Atom)(b:Bind)(f:cl):List cl:=match dh a f b with
 | some b'=>jn P z turn h (i+1) l b'
 | none=>[]
theorem Qk(P:List cl)(z:cl)(turn:Nat)(h:Ax.Atom)(i:Nat)(a:Ax.Atom)(l:List Ax.Atom)(b:Bind):jn P z turn h i (a::l) b=(ra P z turn i).flatMap (Lr P z turn h i a l b):=rfl
def pL(turn aX i:Nat):Nat:=if i=turn then aX else 0
def Tl(turn aX i:Nat):Nat:=if i=turn then aX+1 else if i<turn then aX else aX+1
theorem EJ{F P:List cl}{z:cl}{aX:Nat}(hP:P.length=aX)(hF:F.take (aX+1)=P++[z])(turn i:Nat):ra P z turn i=(F.take (Tl turn aX i)).drop (pL turn aX i):=by
 have hPn:F.take aX=P:=by
  have:=congrArg (List.take aX) hF
  rw[List.take_take,Nat.min_eq_left (by omega)]at this
  rw[this]
  exact List.take_left' hP
 unfold ra Tl pL
 by_cases h1:i=turn
 · rw[if_pos h1,if_pos h1,if_pos h1,hF]
   exact(List.drop_left' hP).symm
 · rw[if_neg h1,if_neg h1,if_neg h1]
   by_cases h2:i<turn
   · rw[if_pos h2,if_pos h2,List.drop_zero,hPn]
   · rw[if_neg h2,if_neg h2,List.drop_zero,hF]
end En
section
open Go.RowKit Go.Maps Go.WideMaps Go.WideElems
open Go.Sort (grow)
def Hy(sb mb:Nat)(rv:Value)(a:Ax.Atom)(ad:Option Addr)(ac:Nat)(bd:Option Addr)(bc:Nat)(body:List MA)(P:List En.cl)(z:En.cl)(turn aX i:Nat):Prop:=
 ∀(w:World) (fd:Option Addr) (fc:Nat) (T:List HT) (s:En.dB En.cl) (b:En.Bind) (n:Nat) (X Y:Nat→ByteArray),mM w sb mb rv fd fc T s→tZ w a ad ac bd bc body→BZ b n X Y→n≤3*i→a.pred∈T.map HT.nm→aX<s.found.length→s.found.take (aX+1)=P++[z]→
  s.found.length+(En.jn P z turn a i ((body.drop i).map Prod.fst) b).length≤999990→(∀f,s.count f+(En.jn P z turn a i ((body.drop i).map Prod.fst) b).length≤1000000000000)→
  Calls Tryz.prog 232 #[.pointer (some ⟨sb,0,none⟩),.agg #[.int .i64 a.at_,.string a.pred,.slice ad a.ag.length ac,.slice bd body.length bc],.int .i64 i,.int .i64 turn,.int .i64 aX,.agg (cI n X Y)] w fun e w'=>e=.returned (.tuple #[])∧iy w w' sb mb rv fd fc T s (En.holds s (En.jn P z turn a i ((body.drop i).map Prod.fst) b))
theorem sB{w:World}{sb mb:Nat}{rv:Value}{fd:Option Addr}{fc:Nat}{T:List HT}{s:En.dB En.cl}(h:mM w sb mb rv fd fc T s){b:Nat}(hb:b∈dA sb fd fc s.found.length T):b<w.heap.size:=by
 obtain⟨cur,U,e,_⟩:=lD h hb
 exact lt_of_heap e
theorem KV{f:En.cl}(h:f.2.length=3):∃p x y z,f=(p,[x,y,z]):=by
 obtain⟨p,r⟩:=f
 obtain⟨x,y,z,e⟩:=wW h
 exact⟨p,x,y,z,by rw[←e]⟩
theorem iy.post{w w1 w2:World}{sb mb:Nat}{rv:Value}{fd:Option Addr}{fc:Nat}{T:List HT}{s s':En.dB En.cl}(h:iy w w1 sb mb rv fd fc T s s')(hb:Below w1.heap.size w1 w2):iy w w2 sb mb rv fd fc T s s' where
 on:=by
  obtain⟨OE,Oj,T',a,b,c⟩:=h.on
  exact⟨OE,Oj,T',a.below hb,b,c⟩
 kept:=h.kept.below hb
 cells:=by
  intro b fm
  obtain⟨⟨cur,e⟩,c⟩:=h.cells b fm
  exact⟨⟨cur,by rw[hb.block b (lt_of_heap e)];exact e⟩,fun j hj=>(hb.cell (lt_of_heap e)).trans (c j hj)⟩
theorem Ks{α β:Type}(G:α→List β)(cs:List α){k:Nat}(hk:k<cs.length):(cs.take (k+1)).flatMap G=(cs.take k).flatMap G++G cs[k]:=by
 rw[List.take_succ_eq_append_getElem hk,List.flatMap_append]
 simp
theorem nI{α β:Type}(G:α→List β)(cs:List α)(k:Nat):((cs.take k).flatMap G).length≤(cs.flatMap G).length:=by
 conv=>rhs;rw[←List.take_append_drop k cs,List.flatMap_append,List.length_append]
 omega
theorem JF{sb mb:Nat}{rv:Value}{a:Ax.Atom}{ad:Option Addr}{ac:Nat}{bd:Option Addr}{bc:Nat}{body:List MA}{P:List En.cl}{z:En.cl}{turn aX:Nat}:Hy sb mb rv a ad ac bd bc body P z turn aX body.length:=by
 intro w fd fc T s b n X Y h hr hb hn hp Yb UJ hF hC
 have e:En.jn P z turn a body.length ((body.drop body.length).map Prod.fst) b=[En.du (En.val b) a]:=by
  rw[List.drop_length]
  rfl
 rw[e]at hF hC ⊢
 exact OG w sb mb rv fd fc T s h (by simp at hF;omega) (fun f=>by have:=hC f;omega) a ad ac bd bc body hr hp b n X Y hb turn aX
theorem NH{sb mb:Nat}{rv:Value}{a:Ax.Atom}{ad:Option Addr}{ac:Nat}{bd:Option Addr}{bc:Nat}{body:List MA}{P:List En.cl}{z:En.cl}{turn aX i:Nat}(hi:i<body.length)(PQ:P.length=aX)(Bw:aX≤999990)(VQ:turn≤10)(IH:Hy sb mb rv a ad ac bd bc body P z turn aX (i+1)):Hy sb mb rv a ad ac bd bc body P z turn aX i:=by
 intro w fd fc T s b n X Y h hr hb hn hp Yb UJ hF hC
 have h2:=hr.two
 obtain⟨ma,WL⟩:∃ma,body[i]=ma:=⟨_,rfl⟩
 have fU:ma∈body:=by rw[←WL];exact List.getElem_mem hi
 have hao:=hr.atoms ma fU
 have Ke:(body.drop i).map Prod.fst=ma.1::(body.drop (i+1)).map Prod.fst:=by rw[List.drop_eq_getElem_cons hi,WL];rfl
 rw[Ke,En.Qk,En.EJ PQ UJ]at hF hC ⊢
 obtain⟨cs,bH⟩:∃cs,cs=(s.found.take (En.Tl turn aX i)).drop (En.pL turn aX i):=⟨_,rfl⟩
 have zD:En.pL turn aX i≤En.Tl turn aX i∧En.Tl turn aX i≤aX+1∧En.pL turn aX i≤aX:=by
  unfold En.pL En.Tl
  split
  · omega
  · split<;>omega
 have vD:cs.length=En.Tl turn aX i-En.pL turn aX i:=by rw[bH];simp only[List.length_drop,List.length_take];omega
 have S3:∀k (hk:k<cs.length),∃(hq:En.pL turn aX i+k<s.found.length),cs[k]=s.found[En.pL turn aX i+k]:=by
  intro k hk
  refine⟨by omega, ?_⟩
  simp only[bH,List.getElem_drop,List.getElem_take]
 rw[←bH]at hF hC ⊢
 obtain⟨fr,vB⟩:∃fr,fr=En.pL turn aX i:=⟨_,rfl⟩
 obtain⟨tn,Uv⟩:∃tn,tn=En.Tl turn aX i:=⟨_,rfl⟩
 rw[←vB,←Uv]at zD vD
 rw[←vB]at S3
 have Wr:Hid (fr=if i=turn then aX else 0):=vB
 have VS:Hid (tn=if i=turn then aX+1 else if i<turn then aX else aX+1):=Uv
 clear bH vB Uv Ke
 generalize hG:En.Lr P z turn a i ma.1 ((body.drop (i+1)).map Prod.fst) b=G at hF hC ⊢
 have HG:Hid (En.Lr P z turn a i ma.1 ((body.drop (i+1)).map Prod.fst) b=G):=hG
 clear hG
 obtain⟨fb,efd,VX,PU,X5⟩:=aD h.Bh (by omega)
 subst efd
 obtain⟨xd,xc,tU⟩:=ah (hr.mr.2.2 ma fU)
 obtain⟨bg,ebd,OJ,yJ,adM⟩:=aD hr.mr.2.1 (by omega)
 subst ebd
 have hblk:=h.cU
 have HH:Hid (mM w sb mb rv (some ⟨fb,0,none⟩) fc T s):=h
 have uf:Hid (tZ w a ad ac (some ⟨bg,0,none⟩) bc body):=hr
 go_enter Tryz.func232,Tryz.ntmps232
 go_upto_region 1 with fail
 obtain⟨jb,js,jr,jx⟩:=Im w (.cells #[.int .i64 a.at_,.string a.pred,.slice ad a.ag.length ac,.slice (some ⟨bg,0,none⟩) body.length bc] 222) (.cells (cI n X Y) 369)
 generalize (w.alloc (.cells #[.int .i64 a.at_,.string a.pred,.slice ad a.ag.length ac,.slice (some ⟨bg,0,none⟩) body.length bc] 222)).alloc (.cells (cI n X Y) 369)=w0 at jb js jr jx ⊢
 have IV:w.heap.size<w0.heap.size:=by omega
 have YD:w.heap.size+1<w0.heap.size:=by omega
 have r3:w0.cell? ⟨w.heap.size,3,none⟩=some (.slice (some ⟨bg,0,none⟩) body.length bc):=by rw[cell_of_row _ _ _ _ _ _ jr];rfl
 have cA:¬((i:Int)=(body.length:Int)):=by omega
 have ace:((i:Int)==(body.length:Int))=false:=by simp;omega
 have s2:w0.cell? ⟨sb,2,none⟩=some (.slice (some ⟨fb,0,none⟩) s.found.length fc):=by rw[cell_of_row _ _ 2 _ _ _ (HH.out.below jb).cU];rfl
 have ack:sb<w0.heap.size:=lt_of_heap (HH.out.below jb).cU
 have H0:Hid (mM w0 sb mb rv (some ⟨fb,0,none⟩) fc T s):=HH.out.below jb
 go_upto_if 31 with fail
 go_cut [12,13]from 29 (fun fv tv wx=>fv=.int .i64 fr∧tv=.int .i64 tn∧wx=w0)
 case first=>
  by_cases c1:i=turn
  · have e1:Hid (fr=aX):=by have:=Wr.out;rw[if_pos c1]at this;exact this
    have e2:Hid (tn=aX+1):=by have:=VS.out;rw[if_pos c1]at this;exact this
    have a8:((i:Int)==(turn:Int))=true:=by simp;omega
    clear c1
    go_wp2_with fail
    go_meet
    case rel=>exact⟨by rw[e1.out],by rw[e2.out];rfl,rfl⟩
  · have a8:((i:Int)==(turn:Int))=false:=by simp;omega
    by_cases c2:i<turn
    · have e1:Hid (fr=0):=by have:=Wr.out;rw[if_neg c1]at this;exact this
      have e2:Hid (tn=aX):=by have:=VS.out;rw[if_neg c1,if_pos c2]at this;exact this
      clear c1
      go_wp2_with fail
      go_meet
      case rel=>exact⟨by rw[e1.out];rfl,by rw[e2.out],rfl⟩
    · have e1:Hid (fr=0):=by have:=Wr.out;rw[if_neg c1]at this;exact this
      have e2:Hid (tn=aX+1):=by have:=VS.out;rw[if_neg c1,if_neg c2]at this;exact this
      clear c1
      go_wp2_with fail
      go_meet
      case rel=>exact⟨by rw[e1.out];rfl,by rw[e2.out];rfl,rfl⟩
 case rest=>
  obtain⟨rfl,rfl,hwx⟩:=hcut
  have abO:=hwx.symm
  subst abO
  have g1:(fr:Int)≤(tn:Int):=by omega
  have g2:tn≤fc:=by omega
  have g3:¬(fc=fr):=by omega
  have g4:fr≤tn:=zD.1
  have hff:=bh HH.out.Bh
  have WB:Hid (Below w.heap.size w w0):=jb
  have HJR:Hid (w0.heap[w.heap.size]?=some (.cells #[.int .i64 a.at_,.string a.pred,.slice ad a.ag.length ac,.slice (some ⟨bg,0,none⟩) body.length bc] 222 (0,0))):=jr
  have HJX:Hid (w0.heap[w.heap.size+1]?=some (.cells (cI n X Y) 369 (0,0))):=jx
  have HCS:Hid (∀k (hk:k<cs.length),∃(hq:fr+k<s.found.length),cs[k]=s.found[fr+k]):=S3
  have HHF:Hid (s.found.length+(cs.flatMap G).length≤999990):=hF
  have HHC:Hid (∀f,s.count f+(cs.flatMap G).length≤1000000000000):=hC
  have HFN:Hid (∀j u,(cq s.found)[j]?=some u→w.cell? ⟨fb,j,none⟩=some u):=X5
  have HPZ:Hid (s.found.take (aX+1)=P++[z]):=UJ
  clear adM X5 S3 hF hC h hr jb jr jx UJ cA ace r3 hblk
  go_upto_region 9 with fail
  have akk:tn-fr≤cs.length:=by omega
  have aio:cs.length≤tn-fr:=by omega
  go_loopw [45] (fun iv wr=>∃k:Nat,k≤cs.length∧iv=.int .i64 k∧iy w0 wr sb mb rv (some ⟨fb,0,none⟩) fc T s (En.holds s ((cs.take k).flatMap G))) (fun iv _=>cs.length-(intOf iv).toNat)
  case atStart=>exact⟨0,Nat.zero_le _,rfl,iy.refl H0.out⟩
  case round=>
   obtain⟨k,hk,rfl,jE⟩:=hrel
   have HS:Hid (iy w0 wr sb mb rv (some ⟨fb,0,none⟩) fc T s (En.holds s ((cs.take k).flatMap G))):=jE
   clear jE
   have KQ:w0.heap.size≤wr.heap.size:=HS.out.kept.size
   have Hz:wr.heap[w.heap.size]?=some (.cells #[.int .i64 a.at_,.string a.pred,.slice ad a.ag.length ac,.slice (some ⟨bg,0,none⟩) body.length bc] 222 (0,0)):=HS.out.kept.heap HJR.out (fun hc=>by have:=sB HH.out hc;omega)
   have Ch:wr.heap[w.heap.size+1]?=some (.cells (cI n X Y) 369 (0,0)):=HS.out.kept.heap HJX.out (fun hc=>by have:=sB HH.out hc;omega)
   by_cases aE:k<cs.length
   · obtain⟨hq,hck⟩:=HCS.out k aE
     obtain⟨p,x,y,zz,hfp⟩:=KV (HH.out.three _ (List.getElem_mem hq))
     have acn:Hid (cs[k]=(p,[x,y,zz])):=by rw[hck,hfp];rfl
     obtain⟨c0,c1,c2,c3⟩:=I9 HH.out.three hq hfp
     have YR:∀j u,j<s.found.length*4→(cq s.found)[j]?=some u→wr.cell? ⟨fb,j,none⟩=some u:=by
      intro j u hj hu
      rw[(HS.out.cells fb rfl).2 j hj,WB.out.cell (by exact VX)]
      exact HFN.out j u hu
     have f0:wr.cell? ⟨fb,fr*4+k*4,none⟩=some (.string p):=YR _ _ (by omega) (by rw[show fr*4+k*4=(fr+k)*4 by omega];exact c0)
     have f1:wr.cell? ⟨fb,fr*4+k*4+1,none⟩=some (.string x):=YR _ _ (by omega) (by rw[show fr*4+k*4+1=(fr+k)*4+1 by omega];exact c1)
     have f2:wr.cell? ⟨fb,fr*4+k*4+2,none⟩=some (.string y):=YR _ _ (by omega) (by rw[show fr*4+k*4+2=(fr+k)*4+2 by omega];exact c2)
     have f3:wr.cell? ⟨fb,fr*4+k*4+3,none⟩=some (.string zz):=YR _ _ (by omega) (by rw[show fr*4+k*4+3=(fr+k)*4+3 by omega];exact c3)
     have ajf:fb<wr.heap.size:=by have:=WB.out.size;omega
     have Fk:tZ wr a ad ac (some ⟨bg,0,none⟩) bc body:=(uf.out.below WB.out).search H0.out HS.out
     have HRA:Hid (tZ wr a ad ac (some ⟨bg,0,none⟩) bc body):=Fk
     obtain⟨bg',eb,ajP,ahW,Hh⟩:=aD Fk.mr.2.1 (by show 0<body.length;omega)
     simp only[Option.some.injEq,Addr.mk.injEq,and_true]at eb
     subst eb
     obtain⟨a0,a1,a2⟩:=bK body i hi
     rw[WL]at a0 a1 a2
     rw[tU]at a2
     have m0:=Hh _ _ a0
     have m1:=Hh _ _ a1
     have m2:=Hh _ _ a2
     have Xh:MA.ok wr (ma.1,.slice xd ma.1.ag.length xc):=by
      have:=Fk.mr.2.2 ma fU
      rw[←tU]
      exact this
     have r0:wr.cell? ⟨w.heap.size,0,none⟩=some (.int .i64 a.at_):=by rw[cell_of_row _ _ _ _ _ _ Hz];rfl
     have r1:wr.cell? ⟨w.heap.size,1,none⟩=some (.string a.pred):=by rw[cell_of_row _ _ _ _ _ _ Hz];rfl
     have r2:wr.cell? ⟨w.heap.size,2,none⟩=some (.slice ad a.ag.length ac):=by rw[cell_of_row _ _ _ _ _ _ Hz];rfl
     have r3:wr.cell? ⟨w.heap.size,3,none⟩=some (.slice (some ⟨bg,0,none⟩) body.length bc):=by rw[cell_of_row _ _ _ _ _ _ Hz];rfl
     have q0:wr.cell? ⟨w.heap.size+1,0,none⟩=some (.int .i64 n):=by rw[cell_of_row _ _ _ _ _ _ Ch];rfl
     have q1:wr.cell? ⟨w.heap.size+1,1,none⟩=some (.string (X 0)):=by rw[cell_of_row _ _ _ _ _ _ Ch];rfl
     have q2:wr.cell? ⟨w.heap.size+1,2,none⟩=some (.string (Y 0)):=by rw[cell_of_row _ _ _ _ _ _ Ch];rfl
     have q3:wr.cell? ⟨w.heap.size+1,3,none⟩=some (.string (X 1)):=by rw[cell_of_row _ _ _ _ _ _ Ch];rfl
     have q4:wr.cell? ⟨w.heap.size+1,4,none⟩=some (.string (Y 1)):=by rw[cell_of_row _ _ _ _ _ _ Ch];rfl
     have q5:wr.cell? ⟨w.heap.size+1,5,none⟩=some (.string (X 2)):=by rw[cell_of_row _ _ _ _ _ _ Ch];rfl
     have q6:wr.cell? ⟨w.heap.size+1,6,none⟩=some (.string (Y 2)):=by rw[cell_of_row _ _ _ _ _ _ Ch];rfl
     have q7:wr.cell? ⟨w.heap.size+1,7,none⟩=some (.string (X 3)):=by rw[cell_of_row _ _ _ _ _ _ Ch];rfl
     have q8:wr.cell? ⟨w.heap.size+1,8,none⟩=some (.string (Y 3)):=by rw[cell_of_row _ _ _ _ _ _ Ch];rfl
     have q9:wr.cell? ⟨w.heap.size+1,9,none⟩=some (.string (X 4)):=by rw[cell_of_row _ _ _ _ _ _ Ch];rfl
     have V3:wr.cell? ⟨w.heap.size+1,10,none⟩=some (.string (Y 4)):=by rw[cell_of_row _ _ _ _ _ _ Ch];rfl
     have Wm:wr.cell? ⟨w.heap.size+1,11,none⟩=some (.string (X 5)):=by rw[cell_of_row _ _ _ _ _ _ Ch];rfl
     have WC:wr.cell? ⟨w.heap.size+1,12,none⟩=some (.string (Y 5)):=by rw[cell_of_row _ _ _ _ _ _ Ch];rfl
     have v1:w.heap.size<wr.heap.size:=by omega
     have v2:w.heap.size+1<wr.heap.size:=by omega
     obtain⟨w1,sL⟩:∃w1,w1=wr.alloc (.cells #[.string p,.string x,.string y,.string zz] 325):=⟨_,rfl⟩
     have jw:Below wr.heap.size wr w1:=by rw[sL];exact(Below.refl _ _).alloc (Nat.le_refl _) _
     have kV:w1.heap.size=wr.heap.size+1:=by rw[sL];simp
     have Sm:w1.heap[wr.heap.size]?=some (.cells #[.string p,.string x,.string y,.string zz] 325 (0,0)):=by rw[sL];exact heap_alloc_new wr _
     have WU:Hid (∀W:World,Below w1.heap.size w1 W→Calls Tryz.prog 266 #[.agg (cI n X Y),.agg #[.int .i64 ma.1.at_,.string ma.1.pred,.slice xd ma.1.ag.length xc],.agg #[.string p,.string x,.string y,.string zz]] W fun e w'=>∃n1 X1 Y1 ok,e=.returned (.tuple #[.agg (cI n1 X1 Y1),.bool ok])∧Below W.heap.size W w'∧Below w1.heap.size w1 w'∧
      Hid ((ok=false∧En.dh ma.1 (p,[x,y,zz]) b=none)∨(ok=true∧∃b1,En.dh ma.1 (p,[x,y,zz]) b=some b1∧BZ b1 n1 X1 Y1∧n1≤n+ma.1.ag.length))):=by
      intro W hW
      have tz:Below wr.heap.size wr W:=jw.trans (hW.mono jw.size)
      refine(TF W b n X Y hb ma.1 xd xc p x y zz (ae Xh tz) hao (by have:=hao.three;omega)).mono ?_
      rintro e w' ⟨n1,X1,Y1,ok,h1,h2,h3⟩
      exact⟨n1,X1,Y1,ok,h1,h2,hW.trans (h2.mono hW.size),h3⟩
     clear YR c0 c1 c2 c3 a0 a1 a2 Hh Fk Xh Hz Ch hck hfp s2 VX
     have Bq:∀n X Y,cI n X Y=#[.int .i64 n,.string (X 0),.string (Y 0),.string (X 1),.string (Y 1),.string (X 2),.string (Y 2),.string (X 3),.string (Y 3),.string (X 4),.string (Y 4),.string (X 5),.string (Y 5)]:=fun _ _ _=>rfl
     simp only[Bq]at WU
     clear Bq
     go_upto_region 11 with fail
     rw[←sL]
     have k0:w1.cell? ⟨w.heap.size,3,none⟩=some (.slice (some ⟨bg,0,none⟩) body.length bc):=by rw[jw.cell (World.block_lt_of_cell? wr _ r3)];exact r3
     have k1:w1.cell? ⟨w.heap.size+1,0,none⟩=some (.int .i64 n):=by rw[jw.cell (World.block_lt_of_cell? wr _ q0)];exact q0
     have k2:w1.cell? ⟨w.heap.size+1,1,none⟩=some (.string (X 0)):=by rw[jw.cell (World.block_lt_of_cell? wr _ q1)];exact q1
     have k3:w1.cell? ⟨w.heap.size+1,2,none⟩=some (.string (Y 0)):=by rw[jw.cell (World.block_lt_of_cell? wr _ q2)];exact q2
     have k4:w1.cell? ⟨w.heap.size+1,3,none⟩=some (.string (X 1)):=by rw[jw.cell (World.block_lt_of_cell? wr _ q3)];exact q3
     have k5:w1.cell? ⟨w.heap.size+1,4,none⟩=some (.string (Y 1)):=by rw[jw.cell (World.block_lt_of_cell? wr _ q4)];exact q4
     have k6:w1.cell? ⟨w.heap.size+1,5,none⟩=some (.string (X 2)):=by rw[jw.cell (World.block_lt_of_cell? wr _ q5)];exact q5
     have k7:w1.cell? ⟨w.heap.size+1,6,none⟩=some (.string (Y 2)):=by rw[jw.cell (World.block_lt_of_cell? wr _ q6)];exact q6
     have k8:w1.cell? ⟨w.heap.size+1,7,none⟩=some (.string (X 3)):=by rw[jw.cell (World.block_lt_of_cell? wr _ q7)];exact q7
     have k9:w1.cell? ⟨w.heap.size+1,8,none⟩=some (.string (Y 3)):=by rw[jw.cell (World.block_lt_of_cell? wr _ q8)];exact q8
     have YP:w1.cell? ⟨w.heap.size+1,9,none⟩=some (.string (X 4)):=by rw[jw.cell (World.block_lt_of_cell? wr _ q9)];exact q9
     have YX:w1.cell? ⟨w.heap.size+1,10,none⟩=some (.string (Y 4)):=by rw[jw.cell (World.block_lt_of_cell? wr _ V3)];exact V3
     have xD:w1.cell? ⟨w.heap.size+1,11,none⟩=some (.string (X 5)):=by rw[jw.cell (World.block_lt_of_cell? wr _ Wm)];exact Wm
     have vr:w1.cell? ⟨w.heap.size+1,12,none⟩=some (.string (Y 5)):=by rw[jw.cell (World.block_lt_of_cell? wr _ WC)];exact WC
     have tT:w1.cell? ⟨bg,i*3,none⟩=some (.int .i64 ma.1.at_):=by rw[jw.cell (World.block_lt_of_cell? wr _ m0)];exact m0
     have F3:w1.cell? ⟨bg,i*3+1,none⟩=some (.string ma.1.pred):=by rw[jw.cell (World.block_lt_of_cell? wr _ m1)];exact m1
     have QO:w1.cell? ⟨bg,i*3+2,none⟩=some (.slice xd ma.1.ag.length xc):=by rw[jw.cell (World.block_lt_of_cell? wr _ m2)];exact m2
     have XY:w1.cell? ⟨wr.heap.size,0,none⟩=some (.string p):=by rw[cell_of_row _ _ _ _ _ _ Sm];rfl
     have Zu:w1.cell? ⟨wr.heap.size,1,none⟩=some (.string x):=by rw[cell_of_row _ _ _ _ _ _ Sm];rfl
     have Yw:w1.cell? ⟨wr.heap.size,2,none⟩=some (.string y):=by rw[cell_of_row _ _ _ _ _ _ Sm];rfl
     have XK:w1.cell? ⟨wr.heap.size,3,none⟩=some (.string zz):=by rw[cell_of_row _ _ _ _ _ _ Sm];rfl
     have v3:wr.heap.size<w1.heap.size:=by omega
     have v4:w.heap.size<w1.heap.size:=by omega
     have v5:w.heap.size+1<w1.heap.size:=by omega
     have v6:bg<w1.heap.size:=by omega
     have PI:Hid (w1.heap.size=wr.heap.size+1):=kV
     clear kV sL r0 r1 r2 r3 q0 q1 q2 q3 q4 q5 q6 q7 q8 q9 V3 Wm WC m0 m1 m2 f0 f1 f2 f3 v1 v2 Sm
     go_cut [16,17,45]from 45 to 69 (fun nv ov kv wx=>kv=.int .i64 k∧∃g n1 X1 Y1 ok,nv=.pointer (some ⟨g,0,none⟩)∧ov=.bool ok∧wx.heap[g]?=some (.cells (cI n1 X1 Y1) 369 (0,0))∧Below w1.heap.size w1 wx∧Hid ((ok=false∧En.dh ma.1 (p,[x,y,zz]) b=none)∨(ok=true∧∃b1,En.dh ma.1 (p,[x,y,zz]) b=some b1∧BZ b1 n1 X1 Y1∧n1≤n+ma.1.ag.length)))
     case first=>
      have nn0:=World.new_ne w1 _ k0
      have nn1:=World.new_ne w1 _ k1
      have nn2:=World.new_ne w1 _ k2
      have nn3:=World.new_ne w1 _ k3
      have nn4:=World.new_ne w1 _ k4
      have nn5:=World.new_ne w1 _ k5
      have nn6:=World.new_ne w1 _ k6
      have nn7:=World.new_ne w1 _ k7
      have nn8:=World.new_ne w1 _ k8
      have nn9:=World.new_ne w1 _ k9
      have ajt:=World.new_ne w1 _ YP
      have akp:=World.new_ne w1 _ YX
      have akG:=World.new_ne w1 _ xD
      have ag6:=World.new_ne w1 _ vr
      have ajJ:=World.new_ne w1 _ tT
      have akB:=World.new_ne w1 _ F3
      have ajd:=World.new_ne w1 _ QO
      have ako:=World.new_ne w1 _ XY
      have akf:=World.new_ne w1 _ Zu
      have ai0:=World.new_ne w1 _ Yw
      have ahn:=World.new_ne w1 _ XK
      go_region_held3 (fun w'=>w'.cell? ⟨w.heap.size,3,none⟩=some (.slice (some ⟨bg,0,none⟩) body.length bc)∧w'.cell? ⟨w.heap.size+1,0,none⟩=some (.int .i64 n)∧w'.cell? ⟨w.heap.size+1,1,none⟩=some (.string (X 0))∧w'.cell? ⟨w.heap.size+1,2,none⟩=some (.string (Y 0))∧w'.cell? ⟨w.heap.size+1,3,none⟩=some (.string (X 1))∧w'.cell? ⟨w.heap.size+1,4,none⟩=some (.string (Y 1))∧w'.cell? ⟨w.heap.size+1,5,none⟩=some (.string (X 2))∧w'.cell? ⟨w.heap.size+1,6,none⟩=some (.string (Y 2))∧w'.cell? ⟨w.heap.size+1,7,none⟩=some (.string (X 3))∧w'.cell? ⟨w.heap.size+1,8,none⟩=some (.string (Y 3))∧w'.cell? ⟨w.heap.size+1,9,none⟩=some (.string (X 4))∧w'.cell? ⟨w.heap.size+1,10,none⟩=some (.string (Y 4))∧w'.cell? ⟨w.heap.size+1,11,none⟩=some (.string (X 5))∧w'.cell? ⟨w.heap.size+1,12,none⟩=some (.string (Y 5))∧w'.cell? ⟨bg,i*3,none⟩=some (.int .i64 ma.1.at_)∧w'.cell? ⟨bg,i*3+1,none⟩=some (.string ma.1.pred)∧w'.cell? ⟨bg,i*3+2,none⟩=some (.slice xd ma.1.ag.length xc)∧w'.cell? ⟨wr.heap.size,0,none⟩=some (.string p)∧w'.cell? ⟨wr.heap.size,1,none⟩=some (.string x)∧w'.cell? ⟨wr.heap.size,2,none⟩=some (.string y)∧w'.cell? ⟨wr.heap.size,3,none⟩=some (.string zz)) (go_keep) (first | (go_at_call 266;refine(WU.out _ (by first | exact(Below.refl _ _).drew | exact(((Below.refl _ _).drew).alloc (Nat.le_refl _) _) | exact(((Below.refl _ _).alloc (Nat.le_refl _) _).drew))).mono ?_;rintro e w5 ⟨n1,X1,Y1,ok,rfl,la,ot,S9⟩;have y0:w5.cell? ⟨w.heap.size,3,none⟩=some (.slice (some ⟨bg,0,none⟩) body.length bc):=(by rw[ot.cell (World.block_lt_of_cell? w1 _ k0)];exact k0);have y1:w5.cell? ⟨w.heap.size+1,0,none⟩=some (.int .i64 n):=(by rw[ot.cell (World.block_lt_of_cell? w1 _ k1)];exact k1);have y2:w5.cell? ⟨w.heap.size+1,1,none⟩=some (.string (X 0)):=(by rw[ot.cell (World.block_lt_of_cell? w1 _ k2)];exact k2);have y3:w5.cell? ⟨w.heap.size+1,2,none⟩=some (.string (Y 0)):=(by rw[ot.cell (World.block_lt_of_cell? w1 _ k3)];exact k3);have y4:w5.cell? ⟨w.heap.size+1,3,none⟩=some (.string (X 1)):=(by rw[ot.cell (World.block_lt_of_cell? w1 _ k4)];exact k4);have y5:w5.cell? ⟨w.heap.size+1,4,none⟩=some (.string (Y 1)):=(by rw[ot.cell (World.block_lt_of_cell? w1 _ k5)];exact k5);have y6:w5.cell? ⟨w.heap.size+1,5,none⟩=some (.string (X 2)):=(by rw[ot.cell (World.block_lt_of_cell? w1 _ k6)];exact k6);have y7:w5.cell? ⟨w.heap.size+1,6,none⟩=some (.string (Y 2)):=(by rw[ot.cell (World.block_lt_of_cell? w1 _ k7)];exact k7);have y8:w5.cell? ⟨w.heap.size+1,7,none⟩=some (.string (X 3)):=(by rw[ot.cell (World.block_lt_of_cell? w1 _ k8)];exact k8);have y9:w5.cell? ⟨w.heap.size+1,8,none⟩=some (.string (Y 3)):=(by rw[ot.cell (World.block_lt_of_cell? w1 _ k9)];exact k9);have y10:w5.cell? ⟨w.heap.size+1,9,none⟩=some (.string (X 4)):=(by rw[ot.cell (World.block_lt_of_cell? w1 _ YP)];exact YP);have y11:w5.cell? ⟨w.heap.size+1,10,none⟩=some (.string (Y 4)):=(by rw[ot.cell (World.block_lt_of_cell? w1 _ YX)];exact YX);have y12:w5.cell? ⟨w.heap.size+1,11,none⟩=some (.string (X 5)):=(by rw[ot.cell (World.block_lt_of_cell? w1 _ xD)];exact xD);have y13:w5.cell? ⟨w.heap.size+1,12,none⟩=some (.string (Y 5)):=(by rw[ot.cell (World.block_lt_of_cell? w1 _ vr)];exact vr);have y14:w5.cell? ⟨bg,i*3,none⟩=some (.int .i64 ma.1.at_):=(by rw[ot.cell (World.block_lt_of_cell? w1 _ tT)];exact tT);have y15:w5.cell? ⟨bg,i*3+1,none⟩=some (.string ma.1.pred):=(by rw[ot.cell (World.block_lt_of_cell? w1 _ F3)];exact F3);have y16:w5.cell? ⟨bg,i*3+2,none⟩=some (.slice xd ma.1.ag.length xc):=(by rw[ot.cell (World.block_lt_of_cell? w1 _ QO)];exact QO);have y17:w5.cell? ⟨wr.heap.size,0,none⟩=some (.string p):=(by rw[ot.cell (World.block_lt_of_cell? w1 _ XY)];exact XY);have y18:w5.cell? ⟨wr.heap.size,1,none⟩=some (.string x):=(by rw[ot.cell (World.block_lt_of_cell? w1 _ Zu)];exact Zu);have y19:w5.cell? ⟨wr.heap.size,2,none⟩=some (.string y):=(by rw[ot.cell (World.block_lt_of_cell? w1 _ Yw)];exact Yw);have y20:w5.cell? ⟨wr.heap.size,3,none⟩=some (.string zz):=(by rw[ot.cell (World.block_lt_of_cell? w1 _ XK)];exact XK);(try (have hz:w5.heap[w1.heap.size]?=some (.cells (cI 0 (fun _=>⟨#[]⟩) (fun _=>⟨#[]⟩)) 369 (0,0)):=(by rw[la.block _ (by simp)];first | exact heap_alloc_new w1 _ | exact heap_alloc_new w1.drew _);have z0:w5.cell? ⟨w1.heap.size,0,none⟩=some (.int .i64 0):=(by rw[cell_of_row _ _ _ _ _ _ hz];rfl);have z1:w5.cell? ⟨w1.heap.size,1,none⟩=some (.string ⟨#[]⟩):=(by rw[cell_of_row _ _ _ _ _ _ hz];rfl);have z2:w5.cell? ⟨w1.heap.size,2,none⟩=some (.string ⟨#[]⟩):=(by rw[cell_of_row _ _ _ _ _ _ hz];rfl);have z3:w5.cell? ⟨w1.heap.size,3,none⟩=some (.string ⟨#[]⟩):=(by rw[cell_of_row _ _ _ _ _ _ hz];rfl);have z4:w5.cell? ⟨w1.heap.size,4,none⟩=some (.string ⟨#[]⟩):=(by rw[cell_of_row _ _ _ _ _ _ hz];rfl);have z5:w5.cell? ⟨w1.heap.size,5,none⟩=some (.string ⟨#[]⟩):=(by rw[cell_of_row _ _ _ _ _ _ hz];rfl);have z6:w5.cell? ⟨w1.heap.size,6,none⟩=some (.string ⟨#[]⟩):=(by rw[cell_of_row _ _ _ _ _ _ hz];rfl);have z7:w5.cell? ⟨w1.heap.size,7,none⟩=some (.string ⟨#[]⟩):=(by rw[cell_of_row _ _ _ _ _ _ hz];rfl);have z8:w5.cell? ⟨w1.heap.size,8,none⟩=some (.string ⟨#[]⟩):=(by rw[cell_of_row _ _ _ _ _ _ hz];rfl);have z9:w5.cell? ⟨w1.heap.size,9,none⟩=some (.string ⟨#[]⟩):=(by rw[cell_of_row _ _ _ _ _ _ hz];rfl);have z10:w5.cell? ⟨w1.heap.size,10,none⟩=some (.string ⟨#[]⟩):=(by rw[cell_of_row _ _ _ _ _ _ hz];rfl);have z11:w5.cell? ⟨w1.heap.size,11,none⟩=some (.string ⟨#[]⟩):=(by rw[cell_of_row _ _ _ _ _ _ hz];rfl);have z12:w5.cell? ⟨w1.heap.size,12,none⟩=some (.string ⟨#[]⟩):=(by rw[cell_of_row _ _ _ _ _ _ hz];rfl);have zf:∀o,w5.frozen? ⟨w1.heap.size,o,none⟩=false:=(fun o=>by simp[World.frozen?,hz]);have zl:w1.heap.size<w5.heap.size:=(lt_of_heap hz);have HZ:Hid (w5.heap[w1.heap.size]?=some (.cells (cI 0 (fun _=>⟨#[]⟩) (fun _=>⟨#[]⟩)) 369 (0,0))):=hz;clear hz))))
      · go_wp2_with fail
        go_meet
        case rel=>
         refine⟨rfl,w5.heap.size,n1,X1,Y1,ok,rfl,rfl, ?_,ot.alloc ot.size _,S9⟩
         exact heap_alloc_new w5 _
      · go_wp2_with fail
        go_meet
        case rel=>
         obtain⟨hu,PT⟩:=tB (n:=n1) (X:=X1) (Y:=Y1) HZ.out
         refine⟨rfl,w1.heap.size,n1,X1,Y1,ok,rfl,rfl, ?_, ?_,S9⟩
         · exact hu
         · exact PT.aK ot ot.size (fun q hq=>by simp at hq;omega)
     case rest=>
      obtain⟨rfl,g,n1,X1,Y1,ok,rfl,rfl,EU,nA,fY⟩:=hcut
      have yJ:Below wr.heap.size wr wc:=jw.trans (nA.mono jw.size)
      have Ii:Hid (Below wr.heap.size wr wc):=yJ
      have ag1:=yJ.size
      have hGk:Hid (G cs[k]=En.Lr P z turn a i ma.1 ((body.drop (i+1)).map Prod.fst) b (p,[x,y,zz])):=by rw[acn.out,←HG.out];rfl
      have SI:=Ks G cs aE
      have yF:Hid ((cs.take (k+1)).flatMap G=(cs.take k).flatMap G++G cs[k]):=SI
      clear SI nA yJ
      cases ok with
      | false=>
       have iM:Hid (G cs[k]=[]):=by
        rcases fY.out with⟨_,e⟩ | ⟨e,_⟩
        · rw[hGk.out];unfold En.Lr;rw[e];rfl
        · cases e
       have uG:Hid (iy w0 wc sb mb rv (some ⟨fb,0,none⟩) fc T s (En.holds s ((cs.take (k+1)).flatMap G))):=by
        rw[yF.out,iM.out,List.append_nil]
        exact HS.out.post Ii.out
       clear EU fY k0 k1 k2 k3 k4 k5 k6 k7 k8 k9 YP YX xD vr tT F3 QO XY Zu Yw XK
       go_wp2_with fail
       go_roundw
       case rel=>exact⟨k+1,by omega,by go_num,uG.out⟩
       case measure=>simp[intOf];omega
      | true=>
       obtain⟨b1,a8,Yp,xG⟩:∃b1,En.dh ma.1 (p,[x,y,zz]) b=some b1∧BZ b1 n1 X1 Y1∧n1≤n+ma.1.ag.length:=by
        rcases fY.out with⟨e,_⟩ | ⟨_,e⟩
        · cases e
        · exact e
       have pH:Hid (G cs[k]=En.jn P z turn a (i+1) ((body.drop (i+1)).map Prod.fst) b1):=by
        rw[hGk.out];unfold En.Lr;rw[a8];rfl
       obtain⟨vP,vK,T1,Uy,ml,zt⟩:=HS.out.on
       have pS:=En.mn ((cs.take k).flatMap G) s
       have WV:=nI G cs (k+1)
       rw[yF.out,List.length_append]at WV
       have WE:=HHF.out
       have QT:=HHC.out
       have GC:=IH wc vP vK T1 (En.holds s ((cs.take k).flatMap G)) b1 n1 X1 Y1 (Uy.below Ii.out) (HRA.out.below Ii.out) Yp (by have:=hao.three;omega) (by rw[j6 ml];exact hp) (by omega) (by rw[En.qa _ _ (by omega)];exact HPZ.out) (by rw[←pH.out];omega) (fun f=>by have h1:=En.gS ((cs.take k).flatMap G) s f;have h2:=QT f;rw[←pH.out];omega)
       have AJ:Hid (Calls Tryz.prog 232 #[.pointer (some ⟨sb,0,none⟩),.agg #[.int .i64 a.at_,.string a.pred,.slice ad a.ag.length ac,.slice (some ⟨bg,0,none⟩) body.length bc],.int .i64 ((i:Int)+1),.int .i64 turn,.int .i64 aX,.agg #[.int .i64 n1,.string (X1 0),.string (Y1 0),.string (X1 1),.string (Y1 1),.string (X1 2),.string (Y1 2),.string (X1 3),.string (Y1 3),.string (X1 4),.string (Y1 4),.string (X1 5),.string (Y1 5)]] wc fun e w'=>e=.returned (.tuple #[])∧iy w0 w' sb mb rv (some ⟨fb,0,none⟩) fc T s (En.holds s ((cs.take (k+1)).flatMap G))):=by
        have Hg:((i+1:Nat):Int)=(i:Int)+1:=by omega
        rw[Hg]at GC
        refine GC.mono ?_
        rintro e w' ⟨rfl,jE⟩
        refine⟨rfl, ?_⟩
        rw[yF.out,En.j4,pH.out]
        exact iy.trans H0.out (Uy.below Ii.out) ml zt (HS.out.kept.below Ii.out) (HS.out.post Ii.out).cells pS.1 jE
       have KE:wc.heap[w.heap.size]?=some (.cells #[.int .i64 a.at_,.string a.pred,.slice ad a.ag.length ac,.slice (some ⟨bg,0,none⟩) body.length bc] 222 (0,0)):=(HS.out.post Ii.out).kept.heap HJR.out (fun hc=>by have:=sB HH.out hc;omega)
       have r0:wc.cell? ⟨w.heap.size,0,none⟩=some (.int .i64 a.at_):=by rw[cell_of_row _ _ _ _ _ _ KE];rfl
       have r1:wc.cell? ⟨w.heap.size,1,none⟩=some (.string a.pred):=by rw[cell_of_row _ _ _ _ _ _ KE];rfl
       have r2:wc.cell? ⟨w.heap.size,2,none⟩=some (.slice ad a.ag.length ac):=by rw[cell_of_row _ _ _ _ _ _ KE];rfl
       have r3:wc.cell? ⟨w.heap.size,3,none⟩=some (.slice (some ⟨bg,0,none⟩) body.length bc):=by rw[cell_of_row _ _ _ _ _ _ KE];rfl
       have q0:wc.cell? ⟨g,0,none⟩=some (.int .i64 n1):=by rw[cell_of_row _ _ _ _ _ _ EU];rfl
       have q1:wc.cell? ⟨g,1,none⟩=some (.string (X1 0)):=by rw[cell_of_row _ _ _ _ _ _ EU];rfl
       have q2:wc.cell? ⟨g,2,none⟩=some (.string (Y1 0)):=by rw[cell_of_row _ _ _ _ _ _ EU];rfl
       have q3:wc.cell? ⟨g,3,none⟩=some (.string (X1 1)):=by rw[cell_of_row _ _ _ _ _ _ EU];rfl
       have q4:wc.cell? ⟨g,4,none⟩=some (.string (Y1 1)):=by rw[cell_of_row _ _ _ _ _ _ EU];rfl
       have q5:wc.cell? ⟨g,5,none⟩=some (.string (X1 2)):=by rw[cell_of_row _ _ _ _ _ _ EU];rfl
       have q6:wc.cell? ⟨g,6,none⟩=some (.string (Y1 2)):=by rw[cell_of_row _ _ _ _ _ _ EU];rfl
       have q7:wc.cell? ⟨g,7,none⟩=some (.string (X1 3)):=by rw[cell_of_row _ _ _ _ _ _ EU];rfl
       have q8:wc.cell? ⟨g,8,none⟩=some (.string (Y1 3)):=by rw[cell_of_row _ _ _ _ _ _ EU];rfl
       have q9:wc.cell? ⟨g,9,none⟩=some (.string (X1 4)):=by rw[cell_of_row _ _ _ _ _ _ EU];rfl
       have V3:wc.cell? ⟨g,10,none⟩=some (.string (Y1 4)):=by rw[cell_of_row _ _ _ _ _ _ EU];rfl
       have Wm:wc.cell? ⟨g,11,none⟩=some (.string (X1 5)):=by rw[cell_of_row _ _ _ _ _ _ EU];rfl
       have WC:wc.cell? ⟨g,12,none⟩=some (.string (Y1 5)):=by rw[cell_of_row _ _ _ _ _ _ EU];rfl
       have u1:w.heap.size<wc.heap.size:=lt_of_heap KE
       have u2:g<wc.heap.size:=lt_of_heap EU
       clear EU fY KE GC Uy ml zt pS WV WE QT a8 Yp xG k0 k1 k2 k3 k4 k5 k6 k7 k8 k9 YP YX xD vr tT F3 QO XY Zu Yw XK
       go_wp2_with (go_at_call 232;refine AJ.out.mono ?_;rintro e w6 ⟨rfl,uy⟩;have UY:Hid (iy w0 w6 sb mb rv (some ⟨fb,0,none⟩) fc T s (En.holds s ((cs.take (k+1)).flatMap G))):=uy;clear uy)
       go_roundw
       case rel=>exact⟨k+1,by omega,by go_num,UY.out⟩
       case measure=>simp[intOf];omega
   · have Tc:k=cs.length:=by omega
     have nW:Hid (iy w wr sb mb rv (some ⟨fb,0,none⟩) fc T s (En.holds s (cs.flatMap G))):=by
      have:=HS.out.pre WB.out HH.out
      rw[Tc,List.take_length]at this
      exact this
     clear Tc Hz Ch
     go_wp2_with fail
     go_end0
     exact⟨rfl,nW.out⟩
end
end Go.Proofs.YtdmicblafmhflaaGreatDoor
