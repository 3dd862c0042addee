/- Package follow: join, one atom further. -/
import Derived.Test.YtdmicblafmhflaaGreatDoorC25
import Derived.Deep.RegionHeld3
set_option linter.unusedSimpArgs false
set_option linter.unusedVariables false
set_option maxHeartbeats 8000000
set_option maxRecDepth 100000
namespace Go.Proofs.YtdmicblafmhflaaGreatDoor
namespace En
theorem O1(s:cU bE)(f:bE)(n:Nat):s.found.length≤(hold s f n).found.length∧(hold s f n).found.length≤s.found.length+1:=by
 unfold hold
 simp only
 split<;>simp
theorem mj:∀(l:List bE) (s:cU bE),s.found.length≤(holds s l).found.length∧(holds s l).found.length≤s.found.length+l.length
 | [],s=>⟨Nat.le_refl _,Nat.le_refl _⟩
 | f::l,s=>by
  rw[kJ]
  have h1:=O1 s f 1
  have h2:=mj l (hold s f 1)
  rw[List.length_cons]
  omega
theorem ig{F:Type}[DecidableEq F](l:List F)(s:cU F)(f:F):(holds s l).count f≤s.count f+l.length:=by
 obtain⟨_,_,_,_,_,h⟩:=gA l s
 rw[h f]
 exact Nat.add_le_add_left List.count_le_length _
theorem qD(l:List bE)(s:cU bE){m:Nat}(hm:m≤s.found.length):(holds s l).found.take m=s.found.take m:=by
 obtain⟨t,h,_⟩:=gA l s
 rw[h,List.take_append_of_le_length hm]
def JK(P:List bE)(z:bE)(turn:Nat)(h:Ax.Atom)(i:Nat)(a:Ax.Atom)(l:List Ax.Atom)(b:Bind)(f:bE):List bE:=match dd a f b with
 | some b'=>jn P z turn h (i+1) l b'
 | none=>[]
theorem Q0(P:List bE)(z:bE)(turn:Nat)(h:Ax.Atom)(i:Nat)(a:Ax.Atom)(l:List Ax.Atom)(b:Bind):jn P z turn h i (a::l) b=(rU P z turn i).flatMap (JK P z turn h i a l b):=rfl
def qh(turn aW i:Nat):Nat:=if i=turn then aW else 0
def SQ(turn aW i:Nat):Nat:=if i=turn then aW+1 else if i<turn then aW else aW+1
theorem Du{F P:List bE}{z:bE}{aW:Nat}(hP:P.length=aW)(hF:F.take (aW+1)=P++[z])(turn i:Nat):rU P z turn i=(F.take (SQ turn aW i)).drop (qh turn aW i):=by
 have hPn:F.take aW=P:=by
  have:=congrArg (List.take aW) hF
  rw[List.take_take,Nat.min_eq_left (by omega)]at this
  rw[this]
  exact List.take_left' hP
 unfold rU SQ qh
 by_cases h1:i=turn
 · rw[if_pos h1,if_pos h1,if_pos h1,hF]
   exact(List.drop_left' hP).symm
 · rw[if_neg h1,if_neg h1,if_neg h1]
   by_cases h2:i<turn
   · rw[if_pos h2,if_pos h2,List.drop_zero,hPn]
   · rw[if_neg h2,if_neg h2,List.drop_zero,hF]
end En
section
open Go.RowKit Go.Maps Go.WideMaps Go.WideElems
open Go.Sort (grow)
def Ip(sb mb:Nat)(rv:Value)(a:Ax.Atom)(ad:Option Addr)(ac:Nat)(bd:Option Addr)(bc:Nat)(body:List MA)(P:List En.bE)(z:En.bE)(turn aW i:Nat):Prop:=
 ∀(w:World) (fd:Option Addr) (fc:Nat) (T:List HT) (s:En.cU En.bE) (b:En.Bind) (n:Nat) (X Y:Nat→ByteArray),mP w sb mb rv fd fc T s→tq w a ad ac bd bc body→BM b n X Y→n≤3*i→a.pred∈T.map HT.nm→aW<s.found.length→s.found.take (aW+1)=P++[z]→
  s.found.length+(En.jn P z turn a i ((body.drop i).map Prod.fst) b).length≤999990→(∀f,s.count f+(En.jn P z turn a i ((body.drop i).map Prod.fst) b).length≤1000000000000)→
  Calls Tryz.prog 232 #[.pointer (some ⟨sb,0,none⟩),.agg #[.int .i64 a.at_,.string a.pred,.slice ad a.ag.length ac,.slice bd body.length bc],.int .i64 i,.int .i64 turn,.int .i64 aW,.agg (cG n X Y)] w fun e w'=>e=.returned (.tuple #[])∧iH w w' sb mb rv fd fc T s (En.holds s (En.jn P z turn a i ((body.drop i).map Prod.fst) b))
theorem rP{w:World}{sb mb:Nat}{rv:Value}{fd:Option Addr}{fc:Nat}{T:List HT}{s:En.cU En.bE}(h:mP w sb mb rv fd fc T s){b:Nat}(hb:b∈dC sb fd fc s.found.length T):b<w.heap.size:=by
 obtain⟨cur,U,e,_⟩:=lA h hb
 exact lt_of_heap e
theorem JC{f:En.bE}(h:f.2.length=3):∃p x y z,f=(p,[x,y,z]):=by
 obtain⟨p,r⟩:=f
 obtain⟨x,y,z,e⟩:=x8 h
 exact⟨p,x,y,z,by rw[←e]⟩
theorem iH.post{w w1 w2:World}{sb mb:Nat}{rv:Value}{fd:Option Addr}{fc:Nat}{T:List HT}{s s':En.cU En.bE}(h:iH w w1 sb mb rv fd fc T s s')(hb:Below w1.heap.size w1 w2):iH w w2 sb mb rv fd fc T s s' where
 on:=by
  obtain⟨O8,N5,T',a,b,c⟩:=h.on
  exact⟨O8,N5,T',a.below hb,b,c⟩
 kept:=h.kept.below hb
 cells:=by
  intro b fE
  obtain⟨⟨cur,e⟩,c⟩:=h.cells b fE
  exact⟨⟨cur,by rw[hb.block b (lt_of_heap e)];exact e⟩,fun j hj=>(hb.cell (lt_of_heap e)).trans (c j hj)⟩
theorem K6{α β:Type}(G:α→List β)(cs:List α){k:Nat}(hk:k<cs.length):(cs.take (k+1)).flatMap G=(cs.take k).flatMap G++G cs[k]:=by
 rw[List.take_succ_eq_append_getElem hk,List.flatMap_append]
 simp
theorem nF{α β:Type}(G:α→List β)(cs:List α)(k:Nat):((cs.take k).flatMap G).length≤(cs.flatMap G).length:=by
 conv=>rhs;rw[←List.take_append_drop k cs,List.flatMap_append,List.length_append]
 omega
theorem Ls{sb mb:Nat}{rv:Value}{a:Ax.Atom}{ad:Option Addr}{ac:Nat}{bd:Option Addr}{bc:Nat}{body:List MA}{P:List En.bE}{z:En.bE}{turn aW:Nat}:Ip sb mb rv a ad ac bd bc body P z turn aW body.length:=by
 intro w fd fc T s b n X Y h hr hb hn hp Y3 VM hF hC
 have e:En.jn P z turn a body.length ((body.drop body.length).map Prod.fst) b=[En.dj (En.val b) a]:=by
  rw[List.drop_length]
  rfl
 rw[e]at hF hC ⊢
 exact Po w sb mb rv fd fc T s h (by simp at hF;omega) (fun f=>by have:=hC f;omega) a ad ac bd bc body hr hp b n X Y hb turn aW
theorem M3{sb mb:Nat}{rv:Value}{a:Ax.Atom}{ad:Option Addr}{ac:Nat}{bd:Option Addr}{bc:Nat}{body:List MA}{P:List En.bE}{z:En.bE}{turn aW i:Nat}(hi:i<body.length)(P7:P.length=aW)(Cl:aW≤999990)(Un:turn≤10)(IH:Ip sb mb rv a ad ac bd bc body P z turn aW (i+1)):Ip sb mb rv a ad ac bd bc body P z turn aW i:=by
 intro w fd fc T s b n X Y h hr hb hn hp Y3 VM hF hC
 have h2:=hr.two
 obtain⟨ma,XY⟩:∃ma,body[i]=ma:=⟨_,rfl⟩
 have fk:ma∈body:=by rw[←XY];exact List.getElem_mem hi
 have hao:=hr.atoms ma fk
 have N2:(body.drop i).map Prod.fst=ma.1::(body.drop (i+1)).map Prod.fst:=by rw[List.drop_eq_getElem_cons hi,XY];rfl
 rw[N2,En.Q0,En.Du P7 VM]at hF hC ⊢
 obtain⟨cs,bA⟩:∃cs,cs=(s.found.take (En.SQ turn aW i)).drop (En.qh turn aW i):=⟨_,rfl⟩
 have za:En.qh turn aW i≤En.SQ turn aW i∧En.SQ turn aW i≤aW+1∧En.qh turn aW i≤aW:=by
  unfold En.qh En.SQ
  split
  · omega
  · split<;>omega
 have vE:cs.length=En.SQ turn aW i-En.qh turn aW i:=by rw[bA];simp only[List.length_drop,List.length_take];omega
 have SO:∀k (hk:k<cs.length),∃(hq:En.qh turn aW i+k<s.found.length),cs[k]=s.found[En.qh turn aW i+k]:=by
  intro k hk
  refine⟨by omega, ?_⟩
  simp only[bA,List.getElem_drop,List.getElem_take]
 rw[←bA]at hF hC ⊢
 obtain⟨fr,zO⟩:∃fr,fr=En.qh turn aW i:=⟨_,rfl⟩
 obtain⟨tn,VS⟩:∃tn,tn=En.SQ turn aW i:=⟨_,rfl⟩
 rw[←zO,←VS]at za vE
 rw[←zO]at SO
 have HFR:Hid (fr=if i=turn then aW else 0):=zO
 have PK:Hid (tn=if i=turn then aW+1 else if i<turn then aW else aW+1):=VS
 clear bA zO VS N2
 generalize hG:En.JK P z turn a i ma.1 ((body.drop (i+1)).map Prod.fst) b=G at hF hC ⊢
 have HG:Hid (En.JK P z turn a i ma.1 ((body.drop (i+1)).map Prod.fst) b=G):=hG
 clear hG
 obtain⟨fb,efd,Xh,PR,Zl⟩:=ax h.CM (by omega)
 subst efd
 obtain⟨xd,xc,u7⟩:=ah (hr.mr.2.2 ma fk)
 obtain⟨bg,ebd,Oc,vN,ab8⟩:=ax hr.mr.2.1 (by omega)
 subst ebd
 have hblk:=h.da
 have HH:Hid (mP w sb mb rv (some ⟨fb,0,none⟩) fc T s):=h
 have ud:Hid (tq w a ad ac (some ⟨bg,0,none⟩) bc body):=hr
 go_enter Tryz.func232,Tryz.ntmps232
 go_upto_region 1 with fail
 obtain⟨jb,js,jr,jx⟩:=IX w (.cells #[.int .i64 a.at_,.string a.pred,.slice ad a.ag.length ac,.slice (some ⟨bg,0,none⟩) body.length bc] 222) (.cells (cG n X Y) 369)
 generalize (w.alloc (.cells #[.int .i64 a.at_,.string a.pred,.slice ad a.ag.length ac,.slice (some ⟨bg,0,none⟩) body.length bc] 222)).alloc (.cells (cG n X Y) 369)=w0 at jb js jr jx ⊢
 have Ir:w.heap.size<w0.heap.size:=by omega
 have X2:w.heap.size+1<w0.heap.size:=by omega
 have r3:w0.cell? ⟨w.heap.size,3,none⟩=some (.slice (some ⟨bg,0,none⟩) body.length bc):=by rw[cell_of_row _ _ _ _ _ _ jr];rfl
 have cL:¬((i:Int)=(body.length:Int)):=by omega
 have aci:((i:Int)==(body.length:Int))=false:=by simp;omega
 have s2:w0.cell? ⟨sb,2,none⟩=some (.slice (some ⟨fb,0,none⟩) s.found.length fc):=by rw[cell_of_row _ _ 2 _ _ _ (HH.out.below jb).da];rfl
 have ab0:sb<w0.heap.size:=lt_of_heap (HH.out.below jb).da
 have H0:Hid (mP w0 sb mb rv (some ⟨fb,0,none⟩) fc T s):=HH.out.below jb
 go_upto_if 31 with fail
 go_cut [12,13]from 29 (fun fv tv wx=>fv=.int .i64 fr∧tv=.int .i64 tn∧wx=w0)
 case first=>
  by_cases c1:i=turn
  · have e1:Hid (fr=aW):=by have:=HFR.out;rw[if_pos c1]at this;exact this
    have e2:Hid (tn=aW+1):=by have:=PK.out;rw[if_pos c1]at this;exact this
    have bk:((i:Int)==(turn:Int))=true:=by simp;omega
    clear c1
    go_wp2_with fail
    go_meet
    case rel=>exact⟨by rw[e1.out],by rw[e2.out];rfl,rfl⟩
  · have bk:((i:Int)==(turn:Int))=false:=by simp;omega
    by_cases c2:i<turn
    · have e1:Hid (fr=0):=by have:=HFR.out;rw[if_neg c1]at this;exact this
      have e2:Hid (tn=aW):=by have:=PK.out;rw[if_neg c1,if_pos c2]at this;exact this
      clear c1
      go_wp2_with fail
      go_meet
      case rel=>exact⟨by rw[e1.out];rfl,by rw[e2.out],rfl⟩
    · have e1:Hid (fr=0):=by have:=HFR.out;rw[if_neg c1]at this;exact this
      have e2:Hid (tn=aW+1):=by have:=PK.out;rw[if_neg c1,if_neg c2]at this;exact this
      clear c1
      go_wp2_with fail
      go_meet
      case rel=>exact⟨by rw[e1.out];rfl,by rw[e2.out];rfl,rfl⟩
 case rest=>
  obtain⟨rfl,rfl,hwx⟩:=hcut
  have acb:=hwx.symm
  subst acb
  have g1:(fr:Int)≤(tn:Int):=by omega
  have g2:tn≤fc:=by omega
  have g3:¬(fc=fr):=by omega
  have g4:fr≤tn:=za.1
  have hff:=aZ HH.out.CM
  have Xb:Hid (Below w.heap.size w w0):=jb
  have HJR:Hid (w0.heap[w.heap.size]?=some (.cells #[.int .i64 a.at_,.string a.pred,.slice ad a.ag.length ac,.slice (some ⟨bg,0,none⟩) body.length bc] 222 (0,0))):=jr
  have HJX:Hid (w0.heap[w.heap.size+1]?=some (.cells (cG n X Y) 369 (0,0))):=jx
  have HCS:Hid (∀k (hk:k<cs.length),∃(hq:fr+k<s.found.length),cs[k]=s.found[fr+k]):=SO
  have HHF:Hid (s.found.length+(cs.flatMap G).length≤999990):=hF
  have HHC:Hid (∀f,s.count f+(cs.flatMap G).length≤1000000000000):=hC
  have HFN:Hid (∀j u,(cm s.found)[j]?=some u→w.cell? ⟨fb,j,none⟩=some u):=Zl
  have ZJ:Hid (s.found.take (aW+1)=P++[z]):=VM
  clear ab8 Zl SO hF hC h hr jb jr jx VM cL aci r3 hblk
  go_upto_region 9 with fail
  have aki:tn-fr≤cs.length:=by omega
  have agT:cs.length≤tn-fr:=by omega
  go_loopw [45] (fun iv wr=>∃k:Nat,k≤cs.length∧iv=.int .i64 k∧iH w0 wr sb mb rv (some ⟨fb,0,none⟩) fc T s (En.holds s ((cs.take k).flatMap G))) (fun iv _=>cs.length-(intOf iv).toNat)
  case atStart=>exact⟨0,Nat.zero_le _,rfl,iH.refl H0.out⟩
  case round=>
   obtain⟨k,hk,rfl,jK⟩:=hrel
   have HS:Hid (iH w0 wr sb mb rv (some ⟨fb,0,none⟩) fc T s (En.holds s ((cs.take k).flatMap G))):=jK
   clear jK
   have JV:w0.heap.size≤wr.heap.size:=HS.out.kept.size
   have Jo:wr.heap[w.heap.size]?=some (.cells #[.int .i64 a.at_,.string a.pred,.slice ad a.ag.length ac,.slice (some ⟨bg,0,none⟩) body.length bc] 222 (0,0)):=HS.out.kept.heap HJR.out (fun hc=>by have:=rP HH.out hc;omega)
   have Ga:wr.heap[w.heap.size+1]?=some (.cells (cG n X Y) 369 (0,0)):=HS.out.kept.heap HJX.out (fun hc=>by have:=rP HH.out hc;omega)
   by_cases aC:k<cs.length
   · obtain⟨hq,hck⟩:=HCS.out k aC
     obtain⟨p,x,y,zz,hfp⟩:=JC (HH.out.three _ (List.getElem_mem hq))
     have adp:Hid (cs[k]=(p,[x,y,zz])):=by rw[hck,hfp];rfl
     obtain⟨c0,c1,c2,c3⟩:=J7 HH.out.three hq hfp
     have ZS:∀j u,j<s.found.length*4→(cm s.found)[j]?=some u→wr.cell? ⟨fb,j,none⟩=some u:=by
      intro j u hj hu
      rw[(HS.out.cells fb rfl).2 j hj,Xb.out.cell (by exact Xh)]
      exact HFN.out j u hu
     have f0:wr.cell? ⟨fb,fr*4+k*4,none⟩=some (.string p):=ZS _ _ (by omega) (by rw[show fr*4+k*4=(fr+k)*4 by omega];exact c0)
     have f1:wr.cell? ⟨fb,fr*4+k*4+1,none⟩=some (.string x):=ZS _ _ (by omega) (by rw[show fr*4+k*4+1=(fr+k)*4+1 by omega];exact c1)
     have f2:wr.cell? ⟨fb,fr*4+k*4+2,none⟩=some (.string y):=ZS _ _ (by omega) (by rw[show fr*4+k*4+2=(fr+k)*4+2 by omega];exact c2)
     have f3:wr.cell? ⟨fb,fr*4+k*4+3,none⟩=some (.string zz):=ZS _ _ (by omega) (by rw[show fr*4+k*4+3=(fr+k)*4+3 by omega];exact c3)
     have ahm:fb<wr.heap.size:=by have:=Xb.out.size;omega
     have GN:tq wr a ad ac (some ⟨bg,0,none⟩) bc body:=(ud.out.below Xb.out).search H0.out HS.out
     have Wr:Hid (tq wr a ad ac (some ⟨bg,0,none⟩) bc body):=GN
     obtain⟨bg',eb,aha,ahS,IC⟩:=ax GN.mr.2.1 (by show 0<body.length;omega)
     simp only[Option.some.injEq,Addr.mk.injEq,and_true]at eb
     subst eb
     obtain⟨a0,a1,a2⟩:=bF body i hi
     rw[XY]at a0 a1 a2
     rw[u7]at a2
     have m0:=IC _ _ a0
     have m1:=IC _ _ a1
     have m2:=IC _ _ a2
     have ZR:MA.ok wr (ma.1,.slice xd ma.1.ag.length xc):=by
      have:=GN.mr.2.2 ma fk
      rw[←u7]
      exact this
     have r0:wr.cell? ⟨w.heap.size,0,none⟩=some (.int .i64 a.at_):=by rw[cell_of_row _ _ _ _ _ _ Jo];rfl
     have r1:wr.cell? ⟨w.heap.size,1,none⟩=some (.string a.pred):=by rw[cell_of_row _ _ _ _ _ _ Jo];rfl
     have r2:wr.cell? ⟨w.heap.size,2,none⟩=some (.slice ad a.ag.length ac):=by rw[cell_of_row _ _ _ _ _ _ Jo];rfl
     have r3:wr.cell? ⟨w.heap.size,3,none⟩=some (.slice (some ⟨bg,0,none⟩) body.length bc):=by rw[cell_of_row _ _ _ _ _ _ Jo];rfl
     have q0:wr.cell? ⟨w.heap.size+1,0,none⟩=some (.int .i64 n):=by rw[cell_of_row _ _ _ _ _ _ Ga];rfl
     have q1:wr.cell? ⟨w.heap.size+1,1,none⟩=some (.string (X 0)):=by rw[cell_of_row _ _ _ _ _ _ Ga];rfl
     have q2:wr.cell? ⟨w.heap.size+1,2,none⟩=some (.string (Y 0)):=by rw[cell_of_row _ _ _ _ _ _ Ga];rfl
     have q3:wr.cell? ⟨w.heap.size+1,3,none⟩=some (.string (X 1)):=by rw[cell_of_row _ _ _ _ _ _ Ga];rfl
     have q4:wr.cell? ⟨w.heap.size+1,4,none⟩=some (.string (Y 1)):=by rw[cell_of_row _ _ _ _ _ _ Ga];rfl
     have q5:wr.cell? ⟨w.heap.size+1,5,none⟩=some (.string (X 2)):=by rw[cell_of_row _ _ _ _ _ _ Ga];rfl
     have q6:wr.cell? ⟨w.heap.size+1,6,none⟩=some (.string (Y 2)):=by rw[cell_of_row _ _ _ _ _ _ Ga];rfl
     have q7:wr.cell? ⟨w.heap.size+1,7,none⟩=some (.string (X 3)):=by rw[cell_of_row _ _ _ _ _ _ Ga];rfl
     have q8:wr.cell? ⟨w.heap.size+1,8,none⟩=some (.string (Y 3)):=by rw[cell_of_row _ _ _ _ _ _ Ga];rfl
     have q9:wr.cell? ⟨w.heap.size+1,9,none⟩=some (.string (X 4)):=by rw[cell_of_row _ _ _ _ _ _ Ga];rfl
     have Wu:wr.cell? ⟨w.heap.size+1,10,none⟩=some (.string (Y 4)):=by rw[cell_of_row _ _ _ _ _ _ Ga];rfl
     have WW:wr.cell? ⟨w.heap.size+1,11,none⟩=some (.string (X 5)):=by rw[cell_of_row _ _ _ _ _ _ Ga];rfl
     have WE:wr.cell? ⟨w.heap.size+1,12,none⟩=some (.string (Y 5)):=by rw[cell_of_row _ _ _ _ _ _ Ga];rfl
     have v1:w.heap.size<wr.heap.size:=by omega
     have v2:w.heap.size+1<wr.heap.size:=by omega
     obtain⟨w1,sP⟩:∃w1,w1=wr.alloc (.cells #[.string p,.string x,.string y,.string zz] 325):=⟨_,rfl⟩
     have jz:Below wr.heap.size wr w1:=by rw[sP];exact(Below.refl _ _).alloc (Nat.le_refl _) _
     have kW:w1.heap.size=wr.heap.size+1:=by rw[sP];simp
     have S3:w1.heap[wr.heap.size]?=some (.cells #[.string p,.string x,.string y,.string zz] 325 (0,0)):=by rw[sP];exact heap_alloc_new wr _
     have Zf:Hid (∀W:World,Below w1.heap.size w1 W→Calls Tryz.prog 266 #[.agg (cG n X Y),.agg #[.int .i64 ma.1.at_,.string ma.1.pred,.slice xd ma.1.ag.length xc],.agg #[.string p,.string x,.string y,.string zz]] W fun e w'=>∃n1 X1 Y1 ok,e=.returned (.tuple #[.agg (cG n1 X1 Y1),.bool ok])∧Below W.heap.size W w'∧Below w1.heap.size w1 w'∧
      Hid ((ok=false∧En.dd ma.1 (p,[x,y,zz]) b=none)∨(ok=true∧∃b1,En.dd ma.1 (p,[x,y,zz]) b=some b1∧BM b1 n1 X1 Y1∧n1≤n+ma.1.ag.length))):=by
      intro W hW
      have ub:Below wr.heap.size wr W:=jz.trans (hW.mono jz.size)
      refine(Vg W b n X Y hb ma.1 xd xc p x y zz (af ZR ub) hao (by have:=hao.three;omega)).mono ?_
      rintro e w' ⟨n1,X1,Y1,ok,h1,h2,h3⟩
      exact⟨n1,X1,Y1,ok,h1,h2,hW.trans (h2.mono hW.size),h3⟩
     clear ZS c0 c1 c2 c3 a0 a1 a2 IC GN ZR Jo Ga hck hfp s2 Xh
     have BP:∀n X Y,cG n X Y=#[.int .i64 n,.string (X 0),.string (Y 0),.string (X 1),.string (Y 1),.string (X 2),.string (Y 2),.string (X 3),.string (Y 3),.string (X 4),.string (Y 4),.string (X 5),.string (Y 5)]:=fun _ _ _=>rfl
     simp only[BP]at Zf
     clear BP
     go_upto_region 11 with fail
     rw[←sP]
     have k0:w1.cell? ⟨w.heap.size,3,none⟩=some (.slice (some ⟨bg,0,none⟩) body.length bc):=by rw[jz.cell (World.block_lt_of_cell? wr _ r3)];exact r3
     have k1:w1.cell? ⟨w.heap.size+1,0,none⟩=some (.int .i64 n):=by rw[jz.cell (World.block_lt_of_cell? wr _ q0)];exact q0
     have k2:w1.cell? ⟨w.heap.size+1,1,none⟩=some (.string (X 0)):=by rw[jz.cell (World.block_lt_of_cell? wr _ q1)];exact q1
     have k3:w1.cell? ⟨w.heap.size+1,2,none⟩=some (.string (Y 0)):=by rw[jz.cell (World.block_lt_of_cell? wr _ q2)];exact q2
     have k4:w1.cell? ⟨w.heap.size+1,3,none⟩=some (.string (X 1)):=by rw[jz.cell (World.block_lt_of_cell? wr _ q3)];exact q3
     have k5:w1.cell? ⟨w.heap.size+1,4,none⟩=some (.string (Y 1)):=by rw[jz.cell (World.block_lt_of_cell? wr _ q4)];exact q4
     have k6:w1.cell? ⟨w.heap.size+1,5,none⟩=some (.string (X 2)):=by rw[jz.cell (World.block_lt_of_cell? wr _ q5)];exact q5
     have k7:w1.cell? ⟨w.heap.size+1,6,none⟩=some (.string (Y 2)):=by rw[jz.cell (World.block_lt_of_cell? wr _ q6)];exact q6
     have k8:w1.cell? ⟨w.heap.size+1,7,none⟩=some (.string (X 3)):=by rw[jz.cell (World.block_lt_of_cell? wr _ q7)];exact q7
     have k9:w1.cell? ⟨w.heap.size+1,8,none⟩=some (.string (Y 3)):=by rw[jz.cell (World.block_lt_of_cell? wr _ q8)];exact q8
     have Yb:w1.cell? ⟨w.heap.size+1,9,none⟩=some (.string (X 4)):=by rw[jz.cell (World.block_lt_of_cell? wr _ q9)];exact q9
     have XC:w1.cell? ⟨w.heap.size+1,10,none⟩=some (.string (Y 4)):=by rw[jz.cell (World.block_lt_of_cell? wr _ Wu)];exact Wu
     have yl:w1.cell? ⟨w.heap.size+1,11,none⟩=some (.string (X 5)):=by rw[jz.cell (World.block_lt_of_cell? wr _ WW)];exact WW
     have vA:w1.cell? ⟨w.heap.size+1,12,none⟩=some (.string (Y 5)):=by rw[jz.cell (World.block_lt_of_cell? wr _ WE)];exact WE
     have tH:w1.cell? ⟨bg,i*3,none⟩=some (.int .i64 ma.1.at_):=by rw[jz.cell (World.block_lt_of_cell? wr _ m0)];exact m0
     have Gj:w1.cell? ⟨bg,i*3+1,none⟩=some (.string ma.1.pred):=by rw[jz.cell (World.block_lt_of_cell? wr _ m1)];exact m1
     have Qo:w1.cell? ⟨bg,i*3+2,none⟩=some (.slice xd ma.1.ag.length xc):=by rw[jz.cell (World.block_lt_of_cell? wr _ m2)];exact m2
     have ZP:w1.cell? ⟨wr.heap.size,0,none⟩=some (.string p):=by rw[cell_of_row _ _ _ _ _ _ S3];rfl
     have Xm:w1.cell? ⟨wr.heap.size,1,none⟩=some (.string x):=by rw[cell_of_row _ _ _ _ _ _ S3];rfl
     have Ye:w1.cell? ⟨wr.heap.size,2,none⟩=some (.string y):=by rw[cell_of_row _ _ _ _ _ _ S3];rfl
     have XX:w1.cell? ⟨wr.heap.size,3,none⟩=some (.string zz):=by rw[cell_of_row _ _ _ _ _ _ S3];rfl
     have v3:wr.heap.size<w1.heap.size:=by omega
     have v4:w.heap.size<w1.heap.size:=by omega
     have v5:w.heap.size+1<w1.heap.size:=by omega
     have v6:bg<w1.heap.size:=by omega
     have Su:Hid (w1.heap.size=wr.heap.size+1):=kW
     clear kW sP r0 r1 r2 r3 q0 q1 q2 q3 q4 q5 q6 q7 q8 q9 Wu WW WE m0 m1 m2 f0 f1 f2 f3 v1 v2 S3
     go_cut [16,17,45]from 45 to 69 (fun nv ov kv wx=>kv=.int .i64 k∧∃g n1 X1 Y1 ok,nv=.pointer (some ⟨g,0,none⟩)∧ov=.bool ok∧wx.heap[g]?=some (.cells (cG n1 X1 Y1) 369 (0,0))∧Below w1.heap.size w1 wx∧Hid ((ok=false∧En.dd ma.1 (p,[x,y,zz]) b=none)∨(ok=true∧∃b1,En.dd ma.1 (p,[x,y,zz]) b=some b1∧BM b1 n1 X1 Y1∧n1≤n+ma.1.ag.length)))
     case first=>
      have nn0:=World.new_ne w1 _ k0
      have nn1:=World.new_ne w1 _ k1
      have nn2:=World.new_ne w1 _ k2
      have nn3:=World.new_ne w1 _ k3
      have nn4:=World.new_ne w1 _ k4
      have nn5:=World.new_ne w1 _ k5
      have nn6:=World.new_ne w1 _ k6
      have nn7:=World.new_ne w1 _ k7
      have nn8:=World.new_ne w1 _ k8
      have nn9:=World.new_ne w1 _ k9
      have ag9:=World.new_ne w1 _ Yb
      have agF:=World.new_ne w1 _ XC
      have agV:=World.new_ne w1 _ yl
      have akm:=World.new_ne w1 _ vA
      have ahG:=World.new_ne w1 _ tH
      have agM:=World.new_ne w1 _ Gj
      have aj1:=World.new_ne w1 _ Qo
      have ajA:=World.new_ne w1 _ ZP
      have ahC:=World.new_ne w1 _ Xm
      have aiW:=World.new_ne w1 _ Ye
      have akl:=World.new_ne w1 _ XX
      go_region_held3 (fun w'=>w'.cell? ⟨w.heap.size,3,none⟩=some (.slice (some ⟨bg,0,none⟩) body.length bc)∧w'.cell? ⟨w.heap.size+1,0,none⟩=some (.int .i64 n)∧w'.cell? ⟨w.heap.size+1,1,none⟩=some (.string (X 0))∧w'.cell? ⟨w.heap.size+1,2,none⟩=some (.string (Y 0))∧w'.cell? ⟨w.heap.size+1,3,none⟩=some (.string (X 1))∧w'.cell? ⟨w.heap.size+1,4,none⟩=some (.string (Y 1))∧w'.cell? ⟨w.heap.size+1,5,none⟩=some (.string (X 2))∧w'.cell? ⟨w.heap.size+1,6,none⟩=some (.string (Y 2))∧w'.cell? ⟨w.heap.size+1,7,none⟩=some (.string (X 3))∧w'.cell? ⟨w.heap.size+1,8,none⟩=some (.string (Y 3))∧w'.cell? ⟨w.heap.size+1,9,none⟩=some (.string (X 4))∧w'.cell? ⟨w.heap.size+1,10,none⟩=some (.string (Y 4))∧w'.cell? ⟨w.heap.size+1,11,none⟩=some (.string (X 5))∧w'.cell? ⟨w.heap.size+1,12,none⟩=some (.string (Y 5))∧w'.cell? ⟨bg,i*3,none⟩=some (.int .i64 ma.1.at_)∧w'.cell? ⟨bg,i*3+1,none⟩=some (.string ma.1.pred)∧w'.cell? ⟨bg,i*3+2,none⟩=some (.slice xd ma.1.ag.length xc)∧w'.cell? ⟨wr.heap.size,0,none⟩=some (.string p)∧w'.cell? ⟨wr.heap.size,1,none⟩=some (.string x)∧w'.cell? ⟨wr.heap.size,2,none⟩=some (.string y)∧w'.cell? ⟨wr.heap.size,3,none⟩=some (.string zz)) (go_keep) (first | (go_at_call 266;refine(Zf.out _ (by first | exact(Below.refl _ _).drew | exact(((Below.refl _ _).drew).alloc (Nat.le_refl _) _) | exact(((Below.refl _ _).alloc (Nat.le_refl _) _).drew))).mono ?_;rintro e w5 ⟨n1,X1,Y1,ok,rfl,ls,oF,S7⟩;have y0:w5.cell? ⟨w.heap.size,3,none⟩=some (.slice (some ⟨bg,0,none⟩) body.length bc):=(by rw[oF.cell (World.block_lt_of_cell? w1 _ k0)];exact k0);have y1:w5.cell? ⟨w.heap.size+1,0,none⟩=some (.int .i64 n):=(by rw[oF.cell (World.block_lt_of_cell? w1 _ k1)];exact k1);have y2:w5.cell? ⟨w.heap.size+1,1,none⟩=some (.string (X 0)):=(by rw[oF.cell (World.block_lt_of_cell? w1 _ k2)];exact k2);have y3:w5.cell? ⟨w.heap.size+1,2,none⟩=some (.string (Y 0)):=(by rw[oF.cell (World.block_lt_of_cell? w1 _ k3)];exact k3);have y4:w5.cell? ⟨w.heap.size+1,3,none⟩=some (.string (X 1)):=(by rw[oF.cell (World.block_lt_of_cell? w1 _ k4)];exact k4);have y5:w5.cell? ⟨w.heap.size+1,4,none⟩=some (.string (Y 1)):=(by rw[oF.cell (World.block_lt_of_cell? w1 _ k5)];exact k5);have y6:w5.cell? ⟨w.heap.size+1,5,none⟩=some (.string (X 2)):=(by rw[oF.cell (World.block_lt_of_cell? w1 _ k6)];exact k6);have y7:w5.cell? ⟨w.heap.size+1,6,none⟩=some (.string (Y 2)):=(by rw[oF.cell (World.block_lt_of_cell? w1 _ k7)];exact k7);have y8:w5.cell? ⟨w.heap.size+1,7,none⟩=some (.string (X 3)):=(by rw[oF.cell (World.block_lt_of_cell? w1 _ k8)];exact k8);have y9:w5.cell? ⟨w.heap.size+1,8,none⟩=some (.string (Y 3)):=(by rw[oF.cell (World.block_lt_of_cell? w1 _ k9)];exact k9);have y10:w5.cell? ⟨w.heap.size+1,9,none⟩=some (.string (X 4)):=(by rw[oF.cell (World.block_lt_of_cell? w1 _ Yb)];exact Yb);have y11:w5.cell? ⟨w.heap.size+1,10,none⟩=some (.string (Y 4)):=(by rw[oF.cell (World.block_lt_of_cell? w1 _ XC)];exact XC);have y12:w5.cell? ⟨w.heap.size+1,11,none⟩=some (.string (X 5)):=(by rw[oF.cell (World.block_lt_of_cell? w1 _ yl)];exact yl);have y13:w5.cell? ⟨w.heap.size+1,12,none⟩=some (.string (Y 5)):=(by rw[oF.cell (World.block_lt_of_cell? w1 _ vA)];exact vA);have y14:w5.cell? ⟨bg,i*3,none⟩=some (.int .i64 ma.1.at_):=(by rw[oF.cell (World.block_lt_of_cell? w1 _ tH)];exact tH);have y15:w5.cell? ⟨bg,i*3+1,none⟩=some (.string ma.1.pred):=(by rw[oF.cell (World.block_lt_of_cell? w1 _ Gj)];exact Gj);have y16:w5.cell? ⟨bg,i*3+2,none⟩=some (.slice xd ma.1.ag.length xc):=(by rw[oF.cell (World.block_lt_of_cell? w1 _ Qo)];exact Qo);have y17:w5.cell? ⟨wr.heap.size,0,none⟩=some (.string p):=(by rw[oF.cell (World.block_lt_of_cell? w1 _ ZP)];exact ZP);have y18:w5.cell? ⟨wr.heap.size,1,none⟩=some (.string x):=(by rw[oF.cell (World.block_lt_of_cell? w1 _ Xm)];exact Xm);have y19:w5.cell? ⟨wr.heap.size,2,none⟩=some (.string y):=(by rw[oF.cell (World.block_lt_of_cell? w1 _ Ye)];exact Ye);have y20:w5.cell? ⟨wr.heap.size,3,none⟩=some (.string zz):=(by rw[oF.cell (World.block_lt_of_cell? w1 _ XX)];exact XX);(try (have hz:w5.heap[w1.heap.size]?=some (.cells (cG 0 (fun _=>⟨#[]⟩) (fun _=>⟨#[]⟩)) 369 (0,0)):=(by rw[ls.block _ (by simp)];first | exact heap_alloc_new w1 _ | exact heap_alloc_new w1.drew _);have z0:w5.cell? ⟨w1.heap.size,0,none⟩=some (.int .i64 0):=(by rw[cell_of_row _ _ _ _ _ _ hz];rfl);have z1:w5.cell? ⟨w1.heap.size,1,none⟩=some (.string ⟨#[]⟩):=(by rw[cell_of_row _ _ _ _ _ _ hz];rfl);have z2:w5.cell? ⟨w1.heap.size,2,none⟩=some (.string ⟨#[]⟩):=(by rw[cell_of_row _ _ _ _ _ _ hz];rfl);have z3:w5.cell? ⟨w1.heap.size,3,none⟩=some (.string ⟨#[]⟩):=(by rw[cell_of_row _ _ _ _ _ _ hz];rfl);have z4:w5.cell? ⟨w1.heap.size,4,none⟩=some (.string ⟨#[]⟩):=(by rw[cell_of_row _ _ _ _ _ _ hz];rfl);have z5:w5.cell? ⟨w1.heap.size,5,none⟩=some (.string ⟨#[]⟩):=(by rw[cell_of_row _ _ _ _ _ _ hz];rfl);have z6:w5.cell? ⟨w1.heap.size,6,none⟩=some (.string ⟨#[]⟩):=(by rw[cell_of_row _ _ _ _ _ _ hz];rfl);have z7:w5.cell? ⟨w1.heap.size,7,none⟩=some (.string ⟨#[]⟩):=(by rw[cell_of_row _ _ _ _ _ _ hz];rfl);have z8:w5.cell? ⟨w1.heap.size,8,none⟩=some (.string ⟨#[]⟩):=(by rw[cell_of_row _ _ _ _ _ _ hz];rfl);have z9:w5.cell? ⟨w1.heap.size,9,none⟩=some (.string ⟨#[]⟩):=(by rw[cell_of_row _ _ _ _ _ _ hz];rfl);have z10:w5.cell? ⟨w1.heap.size,10,none⟩=some (.string ⟨#[]⟩):=(by rw[cell_of_row _ _ _ _ _ _ hz];rfl);have z11:w5.cell? ⟨w1.heap.size,11,none⟩=some (.string ⟨#[]⟩):=(by rw[cell_of_row _ _ _ _ _ _ hz];rfl);have z12:w5.cell? ⟨w1.heap.size,12,none⟩=some (.string ⟨#[]⟩):=(by rw[cell_of_row _ _ _ _ _ _ hz];rfl);have zf:∀o,w5.frozen? ⟨w1.heap.size,o,none⟩=false:=(fun o=>by simp[World.frozen?,hz]);have zl:w1.heap.size<w5.heap.size:=(lt_of_heap hz);have HZ:Hid (w5.heap[w1.heap.size]?=some (.cells (cG 0 (fun _=>⟨#[]⟩) (fun _=>⟨#[]⟩)) 369 (0,0))):=hz;clear hz))))
      · go_wp2_with fail
        go_meet
        case rel=>
         refine⟨rfl,w5.heap.size,n1,X1,Y1,ok,rfl,rfl, ?_,oF.alloc oF.size _,S7⟩
         exact heap_alloc_new w5 _
      · go_wp2_with fail
        go_meet
        case rel=>
         obtain⟨hu,P3⟩:=s5 (n:=n1) (X:=X1) (Y:=Y1) HZ.out
         refine⟨rfl,w1.heap.size,n1,X1,Y1,ok,rfl,rfl, ?_, ?_,S7⟩
         · exact hu
         · exact P3.aK oF oF.size (fun q hq=>by simp at hq;omega)
     case rest=>
      obtain⟨rfl,g,n1,X1,Y1,ok,rfl,rfl,FC,nG,dv⟩:=hcut
      have vN:Below wr.heap.size wr wc:=jz.trans (nG.mono jz.size)
      have Jn:Hid (Below wr.heap.size wr wc):=vN
      have ag7:=vN.size
      have hGk:Hid (G cs[k]=En.JK P z turn a i ma.1 ((body.drop (i+1)).map Prod.fst) b (p,[x,y,zz])):=by rw[adp.out,←HG.out];rfl
      have Sv:=K6 G cs aC
      have vo:Hid ((cs.take (k+1)).flatMap G=(cs.take k).flatMap G++G cs[k]):=Sv
      clear Sv nG vN
      cases ok with
      | false=>
       have jO:Hid (G cs[k]=[]):=by
        rcases dv.out with⟨_,e⟩ | ⟨e,_⟩
        · rw[hGk.out];unfold En.JK;rw[e];rfl
        · cases e
       have uD:Hid (iH w0 wc sb mb rv (some ⟨fb,0,none⟩) fc T s (En.holds s ((cs.take (k+1)).flatMap G))):=by
        rw[vo.out,jO.out,List.append_nil]
        exact HS.out.post Jn.out
       clear FC dv k0 k1 k2 k3 k4 k5 k6 k7 k8 k9 Yb XC yl vA tH Gj Qo ZP Xm Ye XX
       go_wp2_with fail
       go_roundw
       case rel=>exact⟨k+1,by omega,by go_num,uD.out⟩
       case measure=>simp[intOf];omega
      | true=>
       obtain⟨b1,bk,Yc,vU⟩:∃b1,En.dd ma.1 (p,[x,y,zz]) b=some b1∧BM b1 n1 X1 Y1∧n1≤n+ma.1.ag.length:=by
        rcases dv.out with⟨e,_⟩ | ⟨_,e⟩
        · cases e
        · exact e
       have pT:Hid (G cs[k]=En.jn P z turn a (i+1) ((body.drop (i+1)).map Prod.fst) b1):=by
        rw[hGk.out];unfold En.JK;rw[bk];rfl
       obtain⟨vS,vZ,T1,VZ,mf,zH⟩:=HS.out.on
       have pX:=En.mj ((cs.take k).flatMap G) s
       have YC:=nF G cs (k+1)
       rw[vo.out,List.length_append]at YC
       have Wx:=HHF.out
       have OI:=HHC.out
       have G5:=IH wc vS vZ T1 (En.holds s ((cs.take k).flatMap G)) b1 n1 X1 Y1 (VZ.below Jn.out) (Wr.out.below Jn.out) Yc (by have:=hao.three;omega) (by rw[kr mf];exact hp) (by omega) (by rw[En.qD _ _ (by omega)];exact ZJ.out) (by rw[←pT.out];omega) (fun f=>by have h1:=En.ig ((cs.take k).flatMap G) s f;have h2:=OI f;rw[←pT.out];omega)
       have AW:Hid (Calls Tryz.prog 232 #[.pointer (some ⟨sb,0,none⟩),.agg #[.int .i64 a.at_,.string a.pred,.slice ad a.ag.length ac,.slice (some ⟨bg,0,none⟩) body.length bc],.int .i64 ((i:Int)+1),.int .i64 turn,.int .i64 aW,.agg #[.int .i64 n1,.string (X1 0),.string (Y1 0),.string (X1 1),.string (Y1 1),.string (X1 2),.string (Y1 2),.string (X1 3),.string (Y1 3),.string (X1 4),.string (Y1 4),.string (X1 5),.string (Y1 5)]] wc fun e w'=>e=.returned (.tuple #[])∧iH w0 w' sb mb rv (some ⟨fb,0,none⟩) fc T s (En.holds s ((cs.take (k+1)).flatMap G))):=by
        have Ji:((i+1:Nat):Int)=(i:Int)+1:=by omega
        rw[Ji]at G5
        refine G5.mono ?_
        rintro e w' ⟨rfl,jK⟩
        refine⟨rfl, ?_⟩
        rw[vo.out,En.kp,pT.out]
        exact iH.trans H0.out (VZ.below Jn.out) mf zH (HS.out.kept.below Jn.out) (HS.out.post Jn.out).cells pX.1 jK
       have LM:wc.heap[w.heap.size]?=some (.cells #[.int .i64 a.at_,.string a.pred,.slice ad a.ag.length ac,.slice (some ⟨bg,0,none⟩) body.length bc] 222 (0,0)):=(HS.out.post Jn.out).kept.heap HJR.out (fun hc=>by have:=rP HH.out hc;omega)
       have r0:wc.cell? ⟨w.heap.size,0,none⟩=some (.int .i64 a.at_):=by rw[cell_of_row _ _ _ _ _ _ LM];rfl
       have r1:wc.cell? ⟨w.heap.size,1,none⟩=some (.string a.pred):=by rw[cell_of_row _ _ _ _ _ _ LM];rfl
       have r2:wc.cell? ⟨w.heap.size,2,none⟩=some (.slice ad a.ag.length ac):=by rw[cell_of_row _ _ _ _ _ _ LM];rfl
       have r3:wc.cell? ⟨w.heap.size,3,none⟩=some (.slice (some ⟨bg,0,none⟩) body.length bc):=by rw[cell_of_row _ _ _ _ _ _ LM];rfl
       have q0:wc.cell? ⟨g,0,none⟩=some (.int .i64 n1):=by rw[cell_of_row _ _ _ _ _ _ FC];rfl
       have q1:wc.cell? ⟨g,1,none⟩=some (.string (X1 0)):=by rw[cell_of_row _ _ _ _ _ _ FC];rfl
       have q2:wc.cell? ⟨g,2,none⟩=some (.string (Y1 0)):=by rw[cell_of_row _ _ _ _ _ _ FC];rfl
       have q3:wc.cell? ⟨g,3,none⟩=some (.string (X1 1)):=by rw[cell_of_row _ _ _ _ _ _ FC];rfl
       have q4:wc.cell? ⟨g,4,none⟩=some (.string (Y1 1)):=by rw[cell_of_row _ _ _ _ _ _ FC];rfl
       have q5:wc.cell? ⟨g,5,none⟩=some (.string (X1 2)):=by rw[cell_of_row _ _ _ _ _ _ FC];rfl
       have q6:wc.cell? ⟨g,6,none⟩=some (.string (Y1 2)):=by rw[cell_of_row _ _ _ _ _ _ FC];rfl
       have q7:wc.cell? ⟨g,7,none⟩=some (.string (X1 3)):=by rw[cell_of_row _ _ _ _ _ _ FC];rfl
       have q8:wc.cell? ⟨g,8,none⟩=some (.string (Y1 3)):=by rw[cell_of_row _ _ _ _ _ _ FC];rfl
       have q9:wc.cell? ⟨g,9,none⟩=some (.string (X1 4)):=by rw[cell_of_row _ _ _ _ _ _ FC];rfl
       have Wu:wc.cell? ⟨g,10,none⟩=some (.string (Y1 4)):=by rw[cell_of_row _ _ _ _ _ _ FC];rfl
       have WW:wc.cell? ⟨g,11,none⟩=some (.string (X1 5)):=by rw[cell_of_row _ _ _ _ _ _ FC];rfl
       have WE:wc.cell? ⟨g,12,none⟩=some (.string (Y1 5)):=by rw[cell_of_row _ _ _ _ _ _ FC];rfl
       have u1:w.heap.size<wc.heap.size:=lt_of_heap LM
       have u2:g<wc.heap.size:=lt_of_heap FC
       clear FC dv LM G5 VZ mf zH pX YC Wx OI bk Yc vU k0 k1 k2 k3 k4 k5 k6 k7 k8 k9 Yb XC yl vA tH Gj Qo ZP Xm Ye XX
       go_wp2_with (go_at_call 232;refine AW.out.mono ?_;rintro e w6 ⟨rfl,uc⟩;have U1:Hid (iH w0 w6 sb mb rv (some ⟨fb,0,none⟩) fc T s (En.holds s ((cs.take (k+1)).flatMap G))):=uc;clear uc)
       go_roundw
       case rel=>exact⟨k+1,by omega,by go_num,U1.out⟩
       case measure=>simp[intOf];omega
   · have Tj:k=cs.length:=by omega
     have od:Hid (iH w wr sb mb rv (some ⟨fb,0,none⟩) fc T s (En.holds s (cs.flatMap G))):=by
      have:=HS.out.pre Xb.out HH.out
      rw[Tj,List.take_length]at this
      exact this
     clear Tj Jo Ga
     go_wp2_with fail
     go_end0
     exact⟨rfl,od.out⟩
end
end Go.Proofs.YtdmicblafmhflaaGreatDoor
