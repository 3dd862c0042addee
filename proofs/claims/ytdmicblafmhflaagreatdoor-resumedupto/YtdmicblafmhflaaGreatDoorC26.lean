/- Package follow: join, one atom further. -/
import Derived.Test.YtdmicblafmhflaaGreatDoorC25
import Derived.Deep.RegionHeld3
set_option linter.unusedSimpArgs false
set_option linter.unusedVariables false
set_option maxHeartbeats 8000000
set_option maxRecDepth 100000
namespace Go.Proofs.YtdmicblafmhflaaGreatDoor
namespace En
theorem L3(s:dH b7)(f:b7)(n:Nat):s.found.length≤(hold s f n).found.length∧(hold s f n).found.length≤s.found.length+1:=by
 unfold hold
 simp only
 split<;>simp
theorem l6:∀(l:List b7) (s:dH b7),s.found.length≤(holds s l).found.length∧(holds s l).found.length≤s.found.length+l.length
 | [],s=>⟨Nat.le_refl _,Nat.le_refl _⟩
 | f::l,s=>by
  rw[kD]
  have h1:=L3 s f 1
  have h2:=l6 l (hold s f 1)
  rw[List.length_cons]
  omega
theorem ie{F:Type}[DecidableEq F](l:List F)(s:dH F)(f:F):(holds s l).count f≤s.count f+l.length:=by
 obtain⟨_,_,_,_,_,h⟩:=gE l s
 rw[h f]
 exact Nat.add_le_add_left List.count_le_length _
theorem qi(l:List b7)(s:dH b7){m:Nat}(hm:m≤s.found.length):(holds s l).found.take m=s.found.take m:=by
 obtain⟨t,h,_⟩:=gE l s
 rw[h,List.take_append_of_le_length hm]
def Kz(P:List b7)(z:b7)(turn:Nat)(h:Ax.Atom)(i:Nat)(a:Ax.Atom)(l:List Ax.Atom)(b:Bind)(f:b7):List b7:=match dt a f b with
 | some b'=>jn P z turn h (i+1) l b'
 | none=>[]
theorem PO(P:List b7)(z:b7)(turn:Nat)(h:Ax.Atom)(i:Nat)(a:Ax.Atom)(l:List Ax.Atom)(b:Bind):jn P z turn h i (a::l) b=(sH P z turn i).flatMap (Kz P z turn h i a l b):=rfl
def qb(turn ba i:Nat):Nat:=if i=turn then ba else 0
def Se(turn ba i:Nat):Nat:=if i=turn then ba+1 else if i<turn then ba else ba+1
theorem Du{F P:List b7}{z:b7}{ba:Nat}(hP:P.length=ba)(hF:F.take (ba+1)=P++[z])(turn i:Nat):sH P z turn i=(F.take (Se turn ba i)).drop (qb turn ba i):=by
 have hPn:F.take ba=P:=by
  have:=congrArg (List.take ba) hF
  rw[List.take_take,Nat.min_eq_left (by omega)]at this
  rw[this]
  exact List.take_left' hP
 unfold sH Se qb
 by_cases h1:i=turn
 · rw[if_pos h1,if_pos h1,if_pos h1,hF]
   exact(List.drop_left' hP).symm
 · rw[if_neg h1,if_neg h1,if_neg h1]
   by_cases h2:i<turn
   · rw[if_pos h2,if_pos h2,List.drop_zero,hPn]
   · rw[if_neg h2,if_neg h2,List.drop_zero,hF]
end En
section
open Go.RowKit Go.Maps Go.WideMaps Go.WideElems
open Go.Sort (grow)
def GU(sb mb:Nat)(rv:Value)(a:Ax.Atom)(ad:Option Addr)(ac:Nat)(bd:Option Addr)(bc:Nat)(body:List MA)(P:List En.b7)(z:En.b7)(turn ba i:Nat):Prop:=
 ∀(w:World) (fd:Option Addr) (fc:Nat) (T:List HT) (s:En.dH En.b7) (b:En.Bind) (n:Nat) (X Y:Nat→ByteArray),mK w sb mb rv fd fc T s→tj w a ad ac bd bc body→B1 b n X Y→n≤3*i→a.pred∈T.map HT.nm→ba<s.found.length→s.found.take (ba+1)=P++[z]→
  s.found.length+(En.jn P z turn a i ((body.drop i).map Prod.fst) b).length≤999990→(∀f,s.count f+(En.jn P z turn a i ((body.drop i).map Prod.fst) b).length≤1000000000000)→
  Calls Tryz.prog 232 #[.pointer (some ⟨sb,0,none⟩),.agg #[.int .i64 a.at_,.string a.pred,.slice ad a.ak.length ac,.slice bd body.length bc],.int .i64 i,.int .i64 turn,.int .i64 ba,.agg (cH n X Y)] w fun e w'=>e=.returned (.tuple #[])∧iI w w' sb mb rv fd fc T s (En.holds s (En.jn P z turn a i ((body.drop i).map Prod.fst) b))
theorem rC{w:World}{sb mb:Nat}{rv:Value}{fd:Option Addr}{fc:Nat}{T:List HT}{s:En.dH En.b7}(h:mK w sb mb rv fd fc T s){b:Nat}(hb:b∈dI sb fd fc s.found.length T):b<w.heap.size:=by
 obtain⟨cur,U,e,_⟩:=ls h hb
 exact lt_of_heap e
theorem I7{f:En.b7}(h:f.2.length=3):∃p x y z,f=(p,[x,y,z]):=by
 obtain⟨p,r⟩:=f
 obtain⟨x,y,z,e⟩:=xO h
 exact⟨p,x,y,z,by rw[←e]⟩
theorem iI.post{w w1 w2:World}{sb mb:Nat}{rv:Value}{fd:Option Addr}{fc:Nat}{T:List HT}{s s':En.dH En.b7}(h:iI w w1 sb mb rv fd fc T s s')(hb:Below w1.heap.size w1 w2):iI w w2 sb mb rv fd fc T s s' where
 on:=by
  obtain⟨LX,LS,T',a,b,c⟩:=h.on
  exact⟨LX,LS,T',a.below hb,b,c⟩
 kept:=h.kept.below hb
 cells:=by
  intro b ff
  obtain⟨⟨cur,e⟩,c⟩:=h.cells b ff
  exact⟨⟨cur,by rw[hb.block b (lt_of_heap e)];exact e⟩,fun j hj=>(hb.cell (lt_of_heap e)).trans (c j hj)⟩
theorem I8{α β:Type}(G:α→List β)(cs:List α){k:Nat}(hk:k<cs.length):(cs.take (k+1)).flatMap G=(cs.take k).flatMap G++G cs[k]:=by
 rw[List.take_succ_eq_append_getElem hk,List.flatMap_append]
 simp
theorem ng{α β:Type}(G:α→List β)(cs:List α)(k:Nat):((cs.take k).flatMap G).length≤(cs.flatMap G).length:=by
 conv=>rhs;rw[←List.take_append_drop k cs,List.flatMap_append,List.length_append]
 omega
theorem I0{sb mb:Nat}{rv:Value}{a:Ax.Atom}{ad:Option Addr}{ac:Nat}{bd:Option Addr}{bc:Nat}{body:List MA}{P:List En.b7}{z:En.b7}{turn ba:Nat}:GU sb mb rv a ad ac bd bc body P z turn ba body.length:=by
 intro w fd fc T s b n X Y h hr hb hn hp Xk Ux hF hC
 have e:En.jn P z turn a body.length ((body.drop body.length).map Prod.fst) b=[En.dD (En.val b) a]:=by
  rw[List.drop_length]
  rfl
 rw[e]at hF hC ⊢
 exact OP w sb mb rv fd fc T s h (by simp at hF;omega) (fun f=>by have:=hC f;omega) a ad ac bd bc body hr hp b n X Y hb turn ba
theorem OM{sb mb:Nat}{rv:Value}{a:Ax.Atom}{ad:Option Addr}{ac:Nat}{bd:Option Addr}{bc:Nat}{body:List MA}{P:List En.b7}{z:En.b7}{turn ba i:Nat}(hi:i<body.length)(Pq:P.length=ba)(Cb:ba≤999990)(Ln:turn≤10)(IH:GU sb mb rv a ad ac bd bc body P z turn ba (i+1)):GU sb mb rv a ad ac bd bc body P z turn ba i:=by
 intro w fd fc T s b n X Y h hr hb hn hp Xk Ux hF hC
 have h2:=hr.two
 obtain⟨ma,XZ⟩:∃ma,body[i]=ma:=⟨_,rfl⟩
 have fy:ma∈body:=by rw[←XZ];exact List.getElem_mem hi
 have hao:=hr.atoms ma fy
 have Pp:(body.drop i).map Prod.fst=ma.1::(body.drop (i+1)).map Prod.fst:=by rw[List.drop_eq_getElem_cons hi,XZ];rfl
 rw[Pp,En.PO,En.Du Pq Ux]at hF hC ⊢
 obtain⟨cs,br⟩:∃cs,cs=(s.found.take (En.Se turn ba i)).drop (En.qb turn ba i):=⟨_,rfl⟩
 have yZ:En.qb turn ba i≤En.Se turn ba i∧En.Se turn ba i≤ba+1∧En.qb turn ba i≤ba:=by
  unfold En.qb En.Se
  split
  · omega
  · split<;>omega
 have xI:cs.length=En.Se turn ba i-En.qb turn ba i:=by rw[br];simp only[List.length_drop,List.length_take];omega
 have RM:∀k (hk:k<cs.length),∃(hq:En.qb turn ba i+k<s.found.length),cs[k]=s.found[En.qb turn ba i+k]:=by
  intro k hk
  refine⟨by omega, ?_⟩
  simp only[br,List.getElem_drop,List.getElem_take]
 rw[←br]at hF hC ⊢
 obtain⟨fr,u9⟩:∃fr,fr=En.qb turn ba i:=⟨_,rfl⟩
 obtain⟨tn,TL⟩:∃tn,tn=En.Se turn ba i:=⟨_,rfl⟩
 rw[←u9,←TL]at yZ xI
 rw[←u9]at RM
 have HFR:Hid (fr=if i=turn then ba else 0):=u9
 have VN:Hid (tn=if i=turn then ba+1 else if i<turn then ba else ba+1):=TL
 clear br u9 TL Pp
 generalize hG:En.Kz P z turn a i ma.1 ((body.drop (i+1)).map Prod.fst) b=G at hF hC ⊢
 have HG:Hid (En.Kz P z turn a i ma.1 ((body.drop (i+1)).map Prod.fst) b=G):=hG
 clear hG
 obtain⟨fb,efd,VG,Pt,Yq⟩:=aD h.B6 (by omega)
 subst efd
 obtain⟨xd,xc,sL⟩:=aj (hr.mr.2.2 ma fy)
 obtain⟨bg,ebd,OZ,yL,adC⟩:=aD hr.mr.2.1 (by omega)
 subst ebd
 have hblk:=h.cP
 have HH:Hid (mK w sb mb rv (some ⟨fb,0,none⟩) fc T s):=h
 have sO:Hid (tj w a ad ac (some ⟨bg,0,none⟩) bc body):=hr
 go_enter Tryz.func232,Tryz.ntmps232
 go_upto_region 1 with fail
 obtain⟨jb,js,jr,jx⟩:=Hx w (.cells #[.int .i64 a.at_,.string a.pred,.slice ad a.ak.length ac,.slice (some ⟨bg,0,none⟩) body.length bc] 222) (.cells (cH n X Y) 369)
 generalize (w.alloc (.cells #[.int .i64 a.at_,.string a.pred,.slice ad a.ak.length ac,.slice (some ⟨bg,0,none⟩) body.length bc] 222)).alloc (.cells (cH n X Y) 369)=w0 at jb js jr jx ⊢
 have Hh:w.heap.size<w0.heap.size:=by omega
 have YH:w.heap.size+1<w0.heap.size:=by omega
 have r3:w0.cell? ⟨w.heap.size,3,none⟩=some (.slice (some ⟨bg,0,none⟩) body.length bc):=by rw[cell_of_row _ _ _ _ _ _ jr];rfl
 have cE:¬((i:Int)=(body.length:Int)):=by omega
 have acM:((i:Int)==(body.length:Int))=false:=by simp;omega
 have s2:w0.cell? ⟨sb,2,none⟩=some (.slice (some ⟨fb,0,none⟩) s.found.length fc):=by rw[cell_of_row _ _ 2 _ _ _ (HH.out.below jb).cP];rfl
 have ac3:sb<w0.heap.size:=lt_of_heap (HH.out.below jb).cP
 have H0:Hid (mK w0 sb mb rv (some ⟨fb,0,none⟩) fc T s):=HH.out.below jb
 go_upto_if 31 with fail
 go_cut [12,13]from 29 (fun fv tv wx=>fv=.int .i64 fr∧tv=.int .i64 tn∧wx=w0)
 case first=>
  by_cases c1:i=turn
  · have e1:Hid (fr=ba):=by have:=HFR.out;rw[if_pos c1]at this;exact this
    have e2:Hid (tn=ba+1):=by have:=VN.out;rw[if_pos c1]at this;exact this
    have bq:((i:Int)==(turn:Int))=true:=by simp;omega
    clear c1
    go_wp2_with fail
    go_meet
    case rel=>exact⟨by rw[e1.out],by rw[e2.out];rfl,rfl⟩
  · have bq:((i:Int)==(turn:Int))=false:=by simp;omega
    by_cases c2:i<turn
    · have e1:Hid (fr=0):=by have:=HFR.out;rw[if_neg c1]at this;exact this
      have e2:Hid (tn=ba):=by have:=VN.out;rw[if_neg c1,if_pos c2]at this;exact this
      clear c1
      go_wp2_with fail
      go_meet
      case rel=>exact⟨by rw[e1.out];rfl,by rw[e2.out],rfl⟩
    · have e1:Hid (fr=0):=by have:=HFR.out;rw[if_neg c1]at this;exact this
      have e2:Hid (tn=ba+1):=by have:=VN.out;rw[if_neg c1,if_neg c2]at this;exact this
      clear c1
      go_wp2_with fail
      go_meet
      case rel=>exact⟨by rw[e1.out];rfl,by rw[e2.out];rfl,rfl⟩
 case rest=>
  obtain⟨rfl,rfl,hwx⟩:=hcut
  have abv:=hwx.symm
  subst abv
  have g1:(fr:Int)≤(tn:Int):=by omega
  have g2:tn≤fc:=by omega
  have g3:¬(fc=fr):=by omega
  have g4:fr≤tn:=yZ.1
  have hff:=be HH.out.B6
  have V6:Hid (Below w.heap.size w w0):=jb
  have HJR:Hid (w0.heap[w.heap.size]?=some (.cells #[.int .i64 a.at_,.string a.pred,.slice ad a.ak.length ac,.slice (some ⟨bg,0,none⟩) body.length bc] 222 (0,0))):=jr
  have HJX:Hid (w0.heap[w.heap.size+1]?=some (.cells (cH n X Y) 369 (0,0))):=jx
  have HCS:Hid (∀k (hk:k<cs.length),∃(hq:fr+k<s.found.length),cs[k]=s.found[fr+k]):=RM
  have VS:Hid (s.found.length+(cs.flatMap G).length≤999990):=hF
  have HHC:Hid (∀f,s.count f+(cs.flatMap G).length≤1000000000000):=hC
  have HFN:Hid (∀j u,(cm s.found)[j]?=some u→w.cell? ⟨fb,j,none⟩=some u):=Yq
  have HPZ:Hid (s.found.take (ba+1)=P++[z]):=Ux
  clear adC Yq RM hF hC h hr jb jr jx Ux cE acM r3 hblk
  go_upto_region 9 with fail
  have aie:tn-fr≤cs.length:=by omega
  have ajZ:cs.length≤tn-fr:=by omega
  go_loopw [45] (fun iv wr=>∃k:Nat,k≤cs.length∧iv=.int .i64 k∧iI w0 wr sb mb rv (some ⟨fb,0,none⟩) fc T s (En.holds s ((cs.take k).flatMap G))) (fun iv _=>cs.length-(intOf iv).toNat)
  case atStart=>exact⟨0,Nat.zero_le _,rfl,iI.refl H0.out⟩
  case round=>
   obtain⟨k,hk,rfl,jN⟩:=hrel
   have HS:Hid (iI w0 wr sb mb rv (some ⟨fb,0,none⟩) fc T s (En.holds s ((cs.take k).flatMap G))):=jN
   clear jN
   have I9:w0.heap.size≤wr.heap.size:=HS.out.kept.size
   have Ho:wr.heap[w.heap.size]?=some (.cells #[.int .i64 a.at_,.string a.pred,.slice ad a.ak.length ac,.slice (some ⟨bg,0,none⟩) body.length bc] 222 (0,0)):=HS.out.kept.heap HJR.out (fun hc=>by have:=rC HH.out hc;omega)
   have FH:wr.heap[w.heap.size+1]?=some (.cells (cH n X Y) 369 (0,0)):=HS.out.kept.heap HJX.out (fun hc=>by have:=rC HH.out hc;omega)
   by_cases aG:k<cs.length
   · obtain⟨hq,Zw⟩:=HCS.out k aG
     obtain⟨p,x,y,zz,hfp⟩:=I7 (HH.out.three _ (List.getElem_mem hq))
     have ad4:Hid (cs[k]=(p,[x,y,zz])):=by rw[Zw,hfp];rfl
     obtain⟨c0,c1,c2,c3⟩:=Ky HH.out.three hq hfp
     have XU:∀j u,j<s.found.length*4→(cm s.found)[j]?=some u→wr.cell? ⟨fb,j,none⟩=some u:=by
      intro j u hj hu
      rw[(HS.out.cells fb rfl).2 j hj,V6.out.cell (by exact VG)]
      exact HFN.out j u hu
     have f0:wr.cell? ⟨fb,fr*4+k*4,none⟩=some (.string p):=XU _ _ (by omega) (by rw[show fr*4+k*4=(fr+k)*4 by omega];exact c0)
     have f1:wr.cell? ⟨fb,fr*4+k*4+1,none⟩=some (.string x):=XU _ _ (by omega) (by rw[show fr*4+k*4+1=(fr+k)*4+1 by omega];exact c1)
     have f2:wr.cell? ⟨fb,fr*4+k*4+2,none⟩=some (.string y):=XU _ _ (by omega) (by rw[show fr*4+k*4+2=(fr+k)*4+2 by omega];exact c2)
     have f3:wr.cell? ⟨fb,fr*4+k*4+3,none⟩=some (.string zz):=XU _ _ (by omega) (by rw[show fr*4+k*4+3=(fr+k)*4+3 by omega];exact c3)
     have akw:fb<wr.heap.size:=by have:=V6.out.size;omega
     have FF:tj wr a ad ac (some ⟨bg,0,none⟩) bc body:=(sO.out.below V6.out).search H0.out HS.out
     have HRA:Hid (tj wr a ad ac (some ⟨bg,0,none⟩) bc body):=FF
     obtain⟨bg',eb,ah5,ahL,Hi⟩:=aD FF.mr.2.1 (by show 0<body.length;omega)
     simp only[Option.some.injEq,Addr.mk.injEq,and_true]at eb
     subst eb
     obtain⟨a0,a1,a2⟩:=bL body i hi
     rw[XZ]at a0 a1 a2
     rw[sL]at a2
     have m0:=Hi _ _ a0
     have m1:=Hi _ _ a1
     have m2:=Hi _ _ a2
     have XY:MA.ok wr (ma.1,.slice xd ma.1.ak.length xc):=by
      have:=FF.mr.2.2 ma fy
      rw[←sL]
      exact this
     have r0:wr.cell? ⟨w.heap.size,0,none⟩=some (.int .i64 a.at_):=by rw[cell_of_row _ _ _ _ _ _ Ho];rfl
     have r1:wr.cell? ⟨w.heap.size,1,none⟩=some (.string a.pred):=by rw[cell_of_row _ _ _ _ _ _ Ho];rfl
     have r2:wr.cell? ⟨w.heap.size,2,none⟩=some (.slice ad a.ak.length ac):=by rw[cell_of_row _ _ _ _ _ _ Ho];rfl
     have r3:wr.cell? ⟨w.heap.size,3,none⟩=some (.slice (some ⟨bg,0,none⟩) body.length bc):=by rw[cell_of_row _ _ _ _ _ _ Ho];rfl
     have q0:wr.cell? ⟨w.heap.size+1,0,none⟩=some (.int .i64 n):=by rw[cell_of_row _ _ _ _ _ _ FH];rfl
     have q1:wr.cell? ⟨w.heap.size+1,1,none⟩=some (.string (X 0)):=by rw[cell_of_row _ _ _ _ _ _ FH];rfl
     have q2:wr.cell? ⟨w.heap.size+1,2,none⟩=some (.string (Y 0)):=by rw[cell_of_row _ _ _ _ _ _ FH];rfl
     have q3:wr.cell? ⟨w.heap.size+1,3,none⟩=some (.string (X 1)):=by rw[cell_of_row _ _ _ _ _ _ FH];rfl
     have q4:wr.cell? ⟨w.heap.size+1,4,none⟩=some (.string (Y 1)):=by rw[cell_of_row _ _ _ _ _ _ FH];rfl
     have q5:wr.cell? ⟨w.heap.size+1,5,none⟩=some (.string (X 2)):=by rw[cell_of_row _ _ _ _ _ _ FH];rfl
     have q6:wr.cell? ⟨w.heap.size+1,6,none⟩=some (.string (Y 2)):=by rw[cell_of_row _ _ _ _ _ _ FH];rfl
     have q7:wr.cell? ⟨w.heap.size+1,7,none⟩=some (.string (X 3)):=by rw[cell_of_row _ _ _ _ _ _ FH];rfl
     have q8:wr.cell? ⟨w.heap.size+1,8,none⟩=some (.string (Y 3)):=by rw[cell_of_row _ _ _ _ _ _ FH];rfl
     have q9:wr.cell? ⟨w.heap.size+1,9,none⟩=some (.string (X 4)):=by rw[cell_of_row _ _ _ _ _ _ FH];rfl
     have Wk:wr.cell? ⟨w.heap.size+1,10,none⟩=some (.string (Y 4)):=by rw[cell_of_row _ _ _ _ _ _ FH];rfl
     have V4:wr.cell? ⟨w.heap.size+1,11,none⟩=some (.string (X 5)):=by rw[cell_of_row _ _ _ _ _ _ FH];rfl
     have VF:wr.cell? ⟨w.heap.size+1,12,none⟩=some (.string (Y 5)):=by rw[cell_of_row _ _ _ _ _ _ FH];rfl
     have v1:w.heap.size<wr.heap.size:=by omega
     have v2:w.heap.size+1<wr.heap.size:=by omega
     obtain⟨w1,qa⟩:∃w1,w1=wr.alloc (.cells #[.string p,.string x,.string y,.string zz] 325):=⟨_,rfl⟩
     have jE:Below wr.heap.size wr w1:=by rw[qa];exact(Below.refl _ _).alloc (Nat.le_refl _) _
     have kV:w1.heap.size=wr.heap.size+1:=by rw[qa];simp
     have R7:w1.heap[wr.heap.size]?=some (.cells #[.string p,.string x,.string y,.string zz] 325 (0,0)):=by rw[qa];exact heap_alloc_new wr _
     have YR:Hid (∀W:World,Below w1.heap.size w1 W→Calls Tryz.prog 266 #[.agg (cH n X Y),.agg #[.int .i64 ma.1.at_,.string ma.1.pred,.slice xd ma.1.ak.length xc],.agg #[.string p,.string x,.string y,.string zz]] W fun e w'=>∃n1 X1 Y1 ok,e=.returned (.tuple #[.agg (cH n1 X1 Y1),.bool ok])∧Below W.heap.size W w'∧Below w1.heap.size w1 w'∧
      Hid ((ok=false∧En.dt ma.1 (p,[x,y,zz]) b=none)∨(ok=true∧∃b1,En.dt ma.1 (p,[x,y,zz]) b=some b1∧B1 b1 n1 X1 Y1∧n1≤n+ma.1.ak.length))):=by
      intro W hW
      have s6:Below wr.heap.size wr W:=jE.trans (hW.mono jE.size)
      refine(Tt W b n X Y hb ma.1 xd xc p x y zz (ah XY s6) hao (by have:=hao.three;omega)).mono ?_
      rintro e w' ⟨n1,X1,Y1,ok,h1,h2,h3⟩
      exact⟨n1,X1,Y1,ok,h1,h2,hW.trans (h2.mono hW.size),h3⟩
     clear XU c0 c1 c2 c3 a0 a1 a2 Hi FF XY Ho FH Zw hfp s2 VG
     have Ba:∀n X Y,cH n X Y=#[.int .i64 n,.string (X 0),.string (Y 0),.string (X 1),.string (Y 1),.string (X 2),.string (Y 2),.string (X 3),.string (Y 3),.string (X 4),.string (Y 4),.string (X 5),.string (Y 5)]:=fun _ _ _=>rfl
     simp only[Ba]at YR
     clear Ba
     go_upto_region 11 with fail
     rw[←qa]
     have k0:w1.cell? ⟨w.heap.size,3,none⟩=some (.slice (some ⟨bg,0,none⟩) body.length bc):=by rw[jE.cell (World.block_lt_of_cell? wr _ r3)];exact r3
     have k1:w1.cell? ⟨w.heap.size+1,0,none⟩=some (.int .i64 n):=by rw[jE.cell (World.block_lt_of_cell? wr _ q0)];exact q0
     have k2:w1.cell? ⟨w.heap.size+1,1,none⟩=some (.string (X 0)):=by rw[jE.cell (World.block_lt_of_cell? wr _ q1)];exact q1
     have k3:w1.cell? ⟨w.heap.size+1,2,none⟩=some (.string (Y 0)):=by rw[jE.cell (World.block_lt_of_cell? wr _ q2)];exact q2
     have k4:w1.cell? ⟨w.heap.size+1,3,none⟩=some (.string (X 1)):=by rw[jE.cell (World.block_lt_of_cell? wr _ q3)];exact q3
     have k5:w1.cell? ⟨w.heap.size+1,4,none⟩=some (.string (Y 1)):=by rw[jE.cell (World.block_lt_of_cell? wr _ q4)];exact q4
     have k6:w1.cell? ⟨w.heap.size+1,5,none⟩=some (.string (X 2)):=by rw[jE.cell (World.block_lt_of_cell? wr _ q5)];exact q5
     have k7:w1.cell? ⟨w.heap.size+1,6,none⟩=some (.string (Y 2)):=by rw[jE.cell (World.block_lt_of_cell? wr _ q6)];exact q6
     have k8:w1.cell? ⟨w.heap.size+1,7,none⟩=some (.string (X 3)):=by rw[jE.cell (World.block_lt_of_cell? wr _ q7)];exact q7
     have k9:w1.cell? ⟨w.heap.size+1,8,none⟩=some (.string (Y 3)):=by rw[jE.cell (World.block_lt_of_cell? wr _ q8)];exact q8
     have WO:w1.cell? ⟨w.heap.size+1,9,none⟩=some (.string (X 4)):=by rw[jE.cell (World.block_lt_of_cell? wr _ q9)];exact q9
     have XI:w1.cell? ⟨w.heap.size+1,10,none⟩=some (.string (Y 4)):=by rw[jE.cell (World.block_lt_of_cell? wr _ Wk)];exact Wk
     have IQ:w1.cell? ⟨w.heap.size+1,11,none⟩=some (.string (X 5)):=by rw[jE.cell (World.block_lt_of_cell? wr _ V4)];exact V4
     have Gk:w1.cell? ⟨w.heap.size+1,12,none⟩=some (.string (Y 5)):=by rw[jE.cell (World.block_lt_of_cell? wr _ VF)];exact VF
     have yT:w1.cell? ⟨bg,i*3,none⟩=some (.int .i64 ma.1.at_):=by rw[jE.cell (World.block_lt_of_cell? wr _ m0)];exact m0
     have M6:w1.cell? ⟨bg,i*3+1,none⟩=some (.string ma.1.pred):=by rw[jE.cell (World.block_lt_of_cell? wr _ m1)];exact m1
     have SR:w1.cell? ⟨bg,i*3+2,none⟩=some (.slice xd ma.1.ak.length xc):=by rw[jE.cell (World.block_lt_of_cell? wr _ m2)];exact m2
     have WY:w1.cell? ⟨wr.heap.size,0,none⟩=some (.string p):=by rw[cell_of_row _ _ _ _ _ _ R7];rfl
     have YY:w1.cell? ⟨wr.heap.size,1,none⟩=some (.string x):=by rw[cell_of_row _ _ _ _ _ _ R7];rfl
     have X4:w1.cell? ⟨wr.heap.size,2,none⟩=some (.string y):=by rw[cell_of_row _ _ _ _ _ _ R7];rfl
     have WU:w1.cell? ⟨wr.heap.size,3,none⟩=some (.string zz):=by rw[cell_of_row _ _ _ _ _ _ R7];rfl
     have v3:wr.heap.size<w1.heap.size:=by omega
     have v4:w.heap.size<w1.heap.size:=by omega
     have v5:w.heap.size+1<w1.heap.size:=by omega
     have v6:bg<w1.heap.size:=by omega
     have QS:Hid (w1.heap.size=wr.heap.size+1):=kV
     clear kV qa r0 r1 r2 r3 q0 q1 q2 q3 q4 q5 q6 q7 q8 q9 Wk V4 VF m0 m1 m2 f0 f1 f2 f3 v1 v2 R7
     go_cut [16,17,45]from 45 to 69 (fun nv ov kv wx=>kv=.int .i64 k∧∃g n1 X1 Y1 ok,nv=.pointer (some ⟨g,0,none⟩)∧ov=.bool ok∧wx.heap[g]?=some (.cells (cH n1 X1 Y1) 369 (0,0))∧Below w1.heap.size w1 wx∧Hid ((ok=false∧En.dt ma.1 (p,[x,y,zz]) b=none)∨(ok=true∧∃b1,En.dt ma.1 (p,[x,y,zz]) b=some b1∧B1 b1 n1 X1 Y1∧n1≤n+ma.1.ak.length)))
     case first=>
      have nn0:=World.new_ne w1 _ k0
      have nn1:=World.new_ne w1 _ k1
      have nn2:=World.new_ne w1 _ k2
      have nn3:=World.new_ne w1 _ k3
      have nn4:=World.new_ne w1 _ k4
      have nn5:=World.new_ne w1 _ k5
      have nn6:=World.new_ne w1 _ k6
      have nn7:=World.new_ne w1 _ k7
      have nn8:=World.new_ne w1 _ k8
      have nn9:=World.new_ne w1 _ k9
      have agS:=World.new_ne w1 _ WO
      have akN:=World.new_ne w1 _ XI
      have akp:=World.new_ne w1 _ IQ
      have ahi:=World.new_ne w1 _ Gk
      have ag7:=World.new_ne w1 _ yT
      have ajm:=World.new_ne w1 _ M6
      have ajL:=World.new_ne w1 _ SR
      have ahp:=World.new_ne w1 _ WY
      have ahQ:=World.new_ne w1 _ YY
      have ajk:=World.new_ne w1 _ X4
      have ahd:=World.new_ne w1 _ WU
      go_region_held3 (fun w'=>w'.cell? ⟨w.heap.size,3,none⟩=some (.slice (some ⟨bg,0,none⟩) body.length bc)∧w'.cell? ⟨w.heap.size+1,0,none⟩=some (.int .i64 n)∧w'.cell? ⟨w.heap.size+1,1,none⟩=some (.string (X 0))∧w'.cell? ⟨w.heap.size+1,2,none⟩=some (.string (Y 0))∧w'.cell? ⟨w.heap.size+1,3,none⟩=some (.string (X 1))∧w'.cell? ⟨w.heap.size+1,4,none⟩=some (.string (Y 1))∧w'.cell? ⟨w.heap.size+1,5,none⟩=some (.string (X 2))∧w'.cell? ⟨w.heap.size+1,6,none⟩=some (.string (Y 2))∧w'.cell? ⟨w.heap.size+1,7,none⟩=some (.string (X 3))∧w'.cell? ⟨w.heap.size+1,8,none⟩=some (.string (Y 3))∧w'.cell? ⟨w.heap.size+1,9,none⟩=some (.string (X 4))∧w'.cell? ⟨w.heap.size+1,10,none⟩=some (.string (Y 4))∧w'.cell? ⟨w.heap.size+1,11,none⟩=some (.string (X 5))∧w'.cell? ⟨w.heap.size+1,12,none⟩=some (.string (Y 5))∧w'.cell? ⟨bg,i*3,none⟩=some (.int .i64 ma.1.at_)∧w'.cell? ⟨bg,i*3+1,none⟩=some (.string ma.1.pred)∧w'.cell? ⟨bg,i*3+2,none⟩=some (.slice xd ma.1.ak.length xc)∧w'.cell? ⟨wr.heap.size,0,none⟩=some (.string p)∧w'.cell? ⟨wr.heap.size,1,none⟩=some (.string x)∧w'.cell? ⟨wr.heap.size,2,none⟩=some (.string y)∧w'.cell? ⟨wr.heap.size,3,none⟩=some (.string zz)) (go_keep) (first | (go_at_call 266;refine(YR.out _ (by first | exact(Below.refl _ _).drew | exact(((Below.refl _ _).drew).alloc (Nat.le_refl _) _) | exact(((Below.refl _ _).alloc (Nat.le_refl _) _).drew))).mono ?_;rintro e w5 ⟨n1,X1,Y1,ok,rfl,mN,pL,SM⟩;have y0:w5.cell? ⟨w.heap.size,3,none⟩=some (.slice (some ⟨bg,0,none⟩) body.length bc):=(by rw[pL.cell (World.block_lt_of_cell? w1 _ k0)];exact k0);have y1:w5.cell? ⟨w.heap.size+1,0,none⟩=some (.int .i64 n):=(by rw[pL.cell (World.block_lt_of_cell? w1 _ k1)];exact k1);have y2:w5.cell? ⟨w.heap.size+1,1,none⟩=some (.string (X 0)):=(by rw[pL.cell (World.block_lt_of_cell? w1 _ k2)];exact k2);have y3:w5.cell? ⟨w.heap.size+1,2,none⟩=some (.string (Y 0)):=(by rw[pL.cell (World.block_lt_of_cell? w1 _ k3)];exact k3);have y4:w5.cell? ⟨w.heap.size+1,3,none⟩=some (.string (X 1)):=(by rw[pL.cell (World.block_lt_of_cell? w1 _ k4)];exact k4);have y5:w5.cell? ⟨w.heap.size+1,4,none⟩=some (.string (Y 1)):=(by rw[pL.cell (World.block_lt_of_cell? w1 _ k5)];exact k5);have y6:w5.cell? ⟨w.heap.size+1,5,none⟩=some (.string (X 2)):=(by rw[pL.cell (World.block_lt_of_cell? w1 _ k6)];exact k6);have y7:w5.cell? ⟨w.heap.size+1,6,none⟩=some (.string (Y 2)):=(by rw[pL.cell (World.block_lt_of_cell? w1 _ k7)];exact k7);have y8:w5.cell? ⟨w.heap.size+1,7,none⟩=some (.string (X 3)):=(by rw[pL.cell (World.block_lt_of_cell? w1 _ k8)];exact k8);have y9:w5.cell? ⟨w.heap.size+1,8,none⟩=some (.string (Y 3)):=(by rw[pL.cell (World.block_lt_of_cell? w1 _ k9)];exact k9);have y10:w5.cell? ⟨w.heap.size+1,9,none⟩=some (.string (X 4)):=(by rw[pL.cell (World.block_lt_of_cell? w1 _ WO)];exact WO);have y11:w5.cell? ⟨w.heap.size+1,10,none⟩=some (.string (Y 4)):=(by rw[pL.cell (World.block_lt_of_cell? w1 _ XI)];exact XI);have y12:w5.cell? ⟨w.heap.size+1,11,none⟩=some (.string (X 5)):=(by rw[pL.cell (World.block_lt_of_cell? w1 _ IQ)];exact IQ);have y13:w5.cell? ⟨w.heap.size+1,12,none⟩=some (.string (Y 5)):=(by rw[pL.cell (World.block_lt_of_cell? w1 _ Gk)];exact Gk);have y14:w5.cell? ⟨bg,i*3,none⟩=some (.int .i64 ma.1.at_):=(by rw[pL.cell (World.block_lt_of_cell? w1 _ yT)];exact yT);have y15:w5.cell? ⟨bg,i*3+1,none⟩=some (.string ma.1.pred):=(by rw[pL.cell (World.block_lt_of_cell? w1 _ M6)];exact M6);have y16:w5.cell? ⟨bg,i*3+2,none⟩=some (.slice xd ma.1.ak.length xc):=(by rw[pL.cell (World.block_lt_of_cell? w1 _ SR)];exact SR);have y17:w5.cell? ⟨wr.heap.size,0,none⟩=some (.string p):=(by rw[pL.cell (World.block_lt_of_cell? w1 _ WY)];exact WY);have y18:w5.cell? ⟨wr.heap.size,1,none⟩=some (.string x):=(by rw[pL.cell (World.block_lt_of_cell? w1 _ YY)];exact YY);have y19:w5.cell? ⟨wr.heap.size,2,none⟩=some (.string y):=(by rw[pL.cell (World.block_lt_of_cell? w1 _ X4)];exact X4);have y20:w5.cell? ⟨wr.heap.size,3,none⟩=some (.string zz):=(by rw[pL.cell (World.block_lt_of_cell? w1 _ WU)];exact WU);(try (have hz:w5.heap[w1.heap.size]?=some (.cells (cH 0 (fun _=>⟨#[]⟩) (fun _=>⟨#[]⟩)) 369 (0,0)):=(by rw[mN.block _ (by simp)];first | exact heap_alloc_new w1 _ | exact heap_alloc_new w1.drew _);have z0:w5.cell? ⟨w1.heap.size,0,none⟩=some (.int .i64 0):=(by rw[cell_of_row _ _ _ _ _ _ hz];rfl);have z1:w5.cell? ⟨w1.heap.size,1,none⟩=some (.string ⟨#[]⟩):=(by rw[cell_of_row _ _ _ _ _ _ hz];rfl);have z2:w5.cell? ⟨w1.heap.size,2,none⟩=some (.string ⟨#[]⟩):=(by rw[cell_of_row _ _ _ _ _ _ hz];rfl);have z3:w5.cell? ⟨w1.heap.size,3,none⟩=some (.string ⟨#[]⟩):=(by rw[cell_of_row _ _ _ _ _ _ hz];rfl);have z4:w5.cell? ⟨w1.heap.size,4,none⟩=some (.string ⟨#[]⟩):=(by rw[cell_of_row _ _ _ _ _ _ hz];rfl);have z5:w5.cell? ⟨w1.heap.size,5,none⟩=some (.string ⟨#[]⟩):=(by rw[cell_of_row _ _ _ _ _ _ hz];rfl);have z6:w5.cell? ⟨w1.heap.size,6,none⟩=some (.string ⟨#[]⟩):=(by rw[cell_of_row _ _ _ _ _ _ hz];rfl);have z7:w5.cell? ⟨w1.heap.size,7,none⟩=some (.string ⟨#[]⟩):=(by rw[cell_of_row _ _ _ _ _ _ hz];rfl);have z8:w5.cell? ⟨w1.heap.size,8,none⟩=some (.string ⟨#[]⟩):=(by rw[cell_of_row _ _ _ _ _ _ hz];rfl);have z9:w5.cell? ⟨w1.heap.size,9,none⟩=some (.string ⟨#[]⟩):=(by rw[cell_of_row _ _ _ _ _ _ hz];rfl);have z10:w5.cell? ⟨w1.heap.size,10,none⟩=some (.string ⟨#[]⟩):=(by rw[cell_of_row _ _ _ _ _ _ hz];rfl);have z11:w5.cell? ⟨w1.heap.size,11,none⟩=some (.string ⟨#[]⟩):=(by rw[cell_of_row _ _ _ _ _ _ hz];rfl);have z12:w5.cell? ⟨w1.heap.size,12,none⟩=some (.string ⟨#[]⟩):=(by rw[cell_of_row _ _ _ _ _ _ hz];rfl);have zf:∀o,w5.frozen? ⟨w1.heap.size,o,none⟩=false:=(fun o=>by simp[World.frozen?,hz]);have zl:w1.heap.size<w5.heap.size:=(lt_of_heap hz);have HZ:Hid (w5.heap[w1.heap.size]?=some (.cells (cH 0 (fun _=>⟨#[]⟩) (fun _=>⟨#[]⟩)) 369 (0,0))):=hz;clear hz))))
      · go_wp2_with fail
        go_meet
        case rel=>
         refine⟨rfl,w5.heap.size,n1,X1,Y1,ok,rfl,rfl, ?_,pL.alloc pL.size _,SM⟩
         exact heap_alloc_new w5 _
      · go_wp2_with fail
        go_meet
        case rel=>
         obtain⟨hu,Pc⟩:=tp (n:=n1) (X:=X1) (Y:=Y1) HZ.out
         refine⟨rfl,w1.heap.size,n1,X1,Y1,ok,rfl,rfl, ?_, ?_,SM⟩
         · exact hu
         · exact Pc.aU pL pL.size (fun q hq=>by simp at hq;omega)
     case rest=>
      obtain⟨rfl,g,n1,X1,Y1,ok,rfl,rfl,EF,lC,fZ⟩:=hcut
      have yL:Below wr.heap.size wr wc:=jE.trans (lC.mono jE.size)
      have Iu:Hid (Below wr.heap.size wr wc):=yL
      have ahy:=yL.size
      have hGk:Hid (G cs[k]=En.Kz P z turn a i ma.1 ((body.drop (i+1)).map Prod.fst) b (p,[x,y,zz])):=by rw[ad4.out,←HG.out];rfl
      have RP:=I8 G cs aG
      have yk:Hid ((cs.take (k+1)).flatMap G=(cs.take k).flatMap G++G cs[k]):=RP
      clear RP lC yL
      cases ok with
      | false=>
       have jK:Hid (G cs[k]=[]):=by
        rcases fZ.out with⟨_,e⟩ | ⟨e,_⟩
        · rw[hGk.out];unfold En.Kz;rw[e];rfl
        · cases e
       have uv:Hid (iI w0 wc sb mb rv (some ⟨fb,0,none⟩) fc T s (En.holds s ((cs.take (k+1)).flatMap G))):=by
        rw[yk.out,jK.out,List.append_nil]
        exact HS.out.post Iu.out
       clear EF fZ k0 k1 k2 k3 k4 k5 k6 k7 k8 k9 WO XI IQ Gk yT M6 SR WY YY X4 WU
       go_wp2_with fail
       go_roundw
       case rel=>exact⟨k+1,by omega,by go_num,uv.out⟩
       case measure=>simp[intOf];omega
      | true=>
       obtain⟨b1,bq,YM,yg⟩:∃b1,En.dt ma.1 (p,[x,y,zz]) b=some b1∧B1 b1 n1 X1 Y1∧n1≤n+ma.1.ak.length:=by
        rcases fZ.out with⟨e,_⟩ | ⟨_,e⟩
        · cases e
        · exact e
       have pB:Hid (G cs[k]=En.jn P z turn a (i+1) ((body.drop (i+1)).map Prod.fst) b1):=by
        rw[hGk.out];unfold En.Kz;rw[bq];rfl
       obtain⟨vA,vm,T1,UC,mj,yu⟩:=HS.out.on
       have pQ:=En.l6 ((cs.take k).flatMap G) s
       have Xz:=ng G cs (k+1)
       rw[yk.out,List.length_append]at Xz
       have We:=VS.out
       have QO:=HHC.out
       have FG:=IH wc vA vm T1 (En.holds s ((cs.take k).flatMap G)) b1 n1 X1 Y1 (UC.below Iu.out) (HRA.out.below Iu.out) YM (by have:=hao.three;omega) (by rw[kk mj];exact hp) (by omega) (by rw[En.qi _ _ (by omega)];exact HPZ.out) (by rw[←pB.out];omega) (fun f=>by have h1:=En.ie ((cs.take k).flatMap G) s f;have h2:=QO f;rw[←pB.out];omega)
       have Al:Hid (Calls Tryz.prog 232 #[.pointer (some ⟨sb,0,none⟩),.agg #[.int .i64 a.at_,.string a.pred,.slice ad a.ak.length ac,.slice (some ⟨bg,0,none⟩) body.length bc],.int .i64 ((i:Int)+1),.int .i64 turn,.int .i64 ba,.agg #[.int .i64 n1,.string (X1 0),.string (Y1 0),.string (X1 1),.string (Y1 1),.string (X1 2),.string (Y1 2),.string (X1 3),.string (Y1 3),.string (X1 4),.string (Y1 4),.string (X1 5),.string (Y1 5)]] wc fun e w'=>e=.returned (.tuple #[])∧iI w0 w' sb mb rv (some ⟨fb,0,none⟩) fc T s (En.holds s ((cs.take (k+1)).flatMap G))):=by
        have G9:((i+1:Nat):Int)=(i:Int)+1:=by omega
        rw[G9]at FG
        refine FG.mono ?_
        rintro e w' ⟨rfl,jN⟩
        refine⟨rfl, ?_⟩
        rw[yk.out,En.ki,pB.out]
        exact iI.trans H0.out (UC.below Iu.out) mj yu (HS.out.kept.below Iu.out) (HS.out.post Iu.out).cells pQ.1 jN
       have JC:wc.heap[w.heap.size]?=some (.cells #[.int .i64 a.at_,.string a.pred,.slice ad a.ak.length ac,.slice (some ⟨bg,0,none⟩) body.length bc] 222 (0,0)):=(HS.out.post Iu.out).kept.heap HJR.out (fun hc=>by have:=rC HH.out hc;omega)
       have r0:wc.cell? ⟨w.heap.size,0,none⟩=some (.int .i64 a.at_):=by rw[cell_of_row _ _ _ _ _ _ JC];rfl
       have r1:wc.cell? ⟨w.heap.size,1,none⟩=some (.string a.pred):=by rw[cell_of_row _ _ _ _ _ _ JC];rfl
       have r2:wc.cell? ⟨w.heap.size,2,none⟩=some (.slice ad a.ak.length ac):=by rw[cell_of_row _ _ _ _ _ _ JC];rfl
       have r3:wc.cell? ⟨w.heap.size,3,none⟩=some (.slice (some ⟨bg,0,none⟩) body.length bc):=by rw[cell_of_row _ _ _ _ _ _ JC];rfl
       have q0:wc.cell? ⟨g,0,none⟩=some (.int .i64 n1):=by rw[cell_of_row _ _ _ _ _ _ EF];rfl
       have q1:wc.cell? ⟨g,1,none⟩=some (.string (X1 0)):=by rw[cell_of_row _ _ _ _ _ _ EF];rfl
       have q2:wc.cell? ⟨g,2,none⟩=some (.string (Y1 0)):=by rw[cell_of_row _ _ _ _ _ _ EF];rfl
       have q3:wc.cell? ⟨g,3,none⟩=some (.string (X1 1)):=by rw[cell_of_row _ _ _ _ _ _ EF];rfl
       have q4:wc.cell? ⟨g,4,none⟩=some (.string (Y1 1)):=by rw[cell_of_row _ _ _ _ _ _ EF];rfl
       have q5:wc.cell? ⟨g,5,none⟩=some (.string (X1 2)):=by rw[cell_of_row _ _ _ _ _ _ EF];rfl
       have q6:wc.cell? ⟨g,6,none⟩=some (.string (Y1 2)):=by rw[cell_of_row _ _ _ _ _ _ EF];rfl
       have q7:wc.cell? ⟨g,7,none⟩=some (.string (X1 3)):=by rw[cell_of_row _ _ _ _ _ _ EF];rfl
       have q8:wc.cell? ⟨g,8,none⟩=some (.string (Y1 3)):=by rw[cell_of_row _ _ _ _ _ _ EF];rfl
       have q9:wc.cell? ⟨g,9,none⟩=some (.string (X1 4)):=by rw[cell_of_row _ _ _ _ _ _ EF];rfl
       have Wk:wc.cell? ⟨g,10,none⟩=some (.string (Y1 4)):=by rw[cell_of_row _ _ _ _ _ _ EF];rfl
       have V4:wc.cell? ⟨g,11,none⟩=some (.string (X1 5)):=by rw[cell_of_row _ _ _ _ _ _ EF];rfl
       have VF:wc.cell? ⟨g,12,none⟩=some (.string (Y1 5)):=by rw[cell_of_row _ _ _ _ _ _ EF];rfl
       have u1:w.heap.size<wc.heap.size:=lt_of_heap JC
       have u2:g<wc.heap.size:=lt_of_heap EF
       clear EF fZ JC FG UC mj yu pQ Xz We QO bq YM yg k0 k1 k2 k3 k4 k5 k6 k7 k8 k9 WO XI IQ Gk yT M6 SR WY YY X4 WU
       go_wp2_with (go_at_call 232;refine Al.out.mono ?_;rintro e w6 ⟨rfl,um⟩;have To:Hid (iI w0 w6 sb mb rv (some ⟨fb,0,none⟩) fc T s (En.holds s ((cs.take (k+1)).flatMap G))):=um;clear um)
       go_roundw
       case rel=>exact⟨k+1,by omega,by go_num,To.out⟩
       case measure=>simp[intOf];omega
   · have Sb:k=cs.length:=by omega
     have nS:Hid (iI w wr sb mb rv (some ⟨fb,0,none⟩) fc T s (En.holds s (cs.flatMap G))):=by
      have:=HS.out.pre V6.out HH.out
      rw[Sb,List.take_length]at this
      exact this
     clear Sb Ho FH
     go_wp2_with fail
     go_end0
     exact⟨rfl,nS.out⟩
end
end Go.Proofs.YtdmicblafmhflaaGreatDoor
