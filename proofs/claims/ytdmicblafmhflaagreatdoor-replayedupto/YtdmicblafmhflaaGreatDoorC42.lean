/- state.State.Bytes and Engine.Export, walked. -/
import Derived.Test.YtdmicblafmhflaaGreatDoorC41
set_option linter.unusedSimpArgs false
set_option linter.unusedVariables false
set_option maxHeartbeats 4000000
set_option maxRecDepth 100000
namespace Go.Proofs.YtdmicblafmhflaaGreatDoor
section
open Go.Shelf Go.RowKit Go.Maps
theorem wO(H:Nat→Bool):∀x,x∈Ex.jC H→x.size≤1000:=by
 intro x hx
 have h:=(Ex.Hp H x).1 hx
 unfold Ex.nj at h
 obtain⟨p,_,h⟩:=List.mem_flatMap.1 h
 obtain⟨j,_,h⟩:=List.mem_flatMap.1 h
 exact Nat.le_trans (iD j x h).2 (by decide)
theorem qP(kl:List Ax.ay)(gv:Nat→Bool)(p:ByteArray):(Ex.facts kl gv p).length≤10000:=by
 unfold Ex.facts
 have h1:=xL (En.ak (En.aj kl) gv) p
 have h2:=jV (Ex.fact kl gv) 100 (cW (En.ak (En.aj kl) gv) p) (fun x _=>vR kl gv x)
 have h3:(Rc.aQ (cW (En.ak (En.aj kl) gv) p).length).length≤10:=iL (by omega)
 rw[List.length_append]
 omega
structure ua(w0:World)(cs:Array Value)(w':World)(nd:Option Addr)(nl nc:Nat)(nm:List ByteArray)(v:Value)(n:Nat)(xs:List Value):Prop where
 own:w'.ownsRow w0.heap.size 5 1 v n xs
 aZ:Below w0.heap.size w0 w'
 box:w'.heap[w0.heap.size]?=some (.cells cs 107 (0,0))
 nam:w'.ownsRow 0 9 1 (.slice nd nl nc) nl (strCells nm)
theorem ua.below{w0:World}{cs:Array Value}{w1 W:World}{nd:Option Addr}{nl nc:Nat}{nm:List ByteArray}{v:Value}{n:Nat}{xs:List Value}(h:ua w0 cs w1 nd nl nc nm v n xs)(hb:Below w1.heap.size w1 W):ua w0 cs W nd nl nc nm v n xs:=
 ⟨ae h.own hb,h.aZ.trans (hb.mono h.aZ.size),by rw[hb.block _ (lt_of_heap h.box)];exact h.box,ae h.nam hb⟩
theorem ua.step{w0:World}{cs:Array Value}{W w2:World}{nd:Option Addr}{nl nc:Nat}{nm:List ByteArray}{v v2:Value}{n n2:Nat}{xs ys:List Value}(h:ua w0 cs W nd nl nc nm v n xs)(q1:w2.ownsRow w0.heap.size 5 1 v2 n2 ys)(q2:Below w0.heap.size W w2)(q3:Lib.OthersKept 5 none W w2):ua w0 cs w2 nd nl nc nm v2 n2 ys:=
 ⟨q1,h.aZ.trans q2,q3 _ _ h.box (by simp) (fun c fz e=>by simp at e),bJ h.nam q3 (by decide)⟩
theorem ua.len{w0:World}{cs:Array Value}{w':World}{nd:Option Addr}{nl nc:Nat}{nm:List ByteArray}{v:Value}{n:Nat}{xs:List Value}(h:ua w0 cs w' nd nl nc nm v n xs):xs.length=n:=by have:=h.own.1;omega
theorem AZ(w:World)(kl:List Ax.ay)(gv:Nat→Bool)(rd:Option Addr)(rn rc gm hm:Nat)(hd:List UInt8)(bS:hd.length=32)(kY:(Ax.au kl).size≤100000)(hS:NJ w kl gv (.slice rd rn rc) gm hm):
 Calls Tryz.prog 44 #[.agg (aO (Ax.au kl) (.slice rd rn rc) gm hm hd)] w fun e w'=>e=.returned (.string ⟨(Ex.body kl gv++hd).toArray⟩)∧Below w.heap.size w w':=by
 obtain⟨i0,jy,ew,dZ,dX⟩:=info_parts Tryz.kB
 have HI:Hid (Tryz.prog.info? 5=some i0):=jy
 have H0:Hid (i0.zero=some (.int .u8 0)):=ew
 have H1:Hid (i0.size=1):=dZ
 have H2:Hid (i0.bytes=1):=dX
 clear jy ew dZ dX
 have HS:Hid (NJ w kl gv (.slice rd rn rc) gm hm):=hS
 obtain⟨cs,bH⟩:∃cs,cs=aO (Ax.au kl) (.slice rd rn rc) gm hm hd:=⟨_,rfl⟩
 have hcz:cs.size=36:=by rw[bH];exact aL _ _ _ _ bS
 obtain⟨wB,Pw⟩:∃wB,wB=w.alloc (.cells cs 107):=⟨_,rfl⟩
 have FM:Below w.heap.size w wB:=by rw[Pw];exact(Below.refl _ _).alloc (Nat.le_refl _) _
 have GM:wB.heap[w.heap.size]?=some (.cells cs 107 (0,0)):=by rw[Pw];exact heap_alloc_new w _
 have yR:Hid (∀W:World,W.heap[w.heap.size]?=some (.cells cs 107 (0,0))→W.cell? ⟨w.heap.size,0,none⟩=some (.string (Ax.au kl))∧W.cell? ⟨w.heap.size,1,none⟩=some (.slice rd rn rc)∧w.heap.size<W.heap.size∧∀(j:Nat) u,(Rc.bA hd)[j]?=some u→W.cell? ((⟨w.heap.size,4,none⟩:Addr).add j)=some u):=by
  intro W hW
  refine⟨by rw[cell_of_row _ _ _ _ _ _ hW,bH];rfl,by rw[cell_of_row _ _ _ _ _ _ hW,bH];rfl,lt_of_heap hW, ?_⟩
  intro j u hu
  rw[Addr.add_mid,cell_of_row _ _ _ _ _ _ hW,bH]
  unfold aO
  rw[List.getElem?_toArray,List.getElem?_append_right (by simp)]
  simpa using hu
 generalize hN:Ex.jC (En.ak (En.aj kl) gv)=nm
 have adQ:nm.length≤324:=by rw[←hN];exact Ex.qX _
 have Ph:Hid (∀x,x∈nm→x.size≤1000):=by rw[←hN];exact wO _
 have yM:Hid (Calls Tryz.prog 76 #[.agg cs] wB fun e w1=>∃nd nc,e=.returned (.slice nd nm.length nc)∧Hid (ua w cs w1 nd nm.length nc nm (.slice none 0 0) 0 [])):=by
  have h9:=KR wB kl gv rd rn rc gm hm hd (hS.below FM)
  rw[←bH,hN]at h9
  refine h9.mono ?_
  rintro e w1 ⟨nd,nc,rfl,q1,q2⟩
  exact⟨nd,nc,rfl,World.ownsRow_nil _ _ _ _,FM.trans (q2.mono FM.size),by rw[q2.block _ (lt_of_heap GM)];exact GM,aG q1 (Nat.zero_le _)⟩
 have qf:Hid (∀W nd nc v n xs t,ua w cs W nd nm.length nc nm v n xs→n≤1000000000→t.size≤100000→Calls Tryz.prog 77 #[v,.string t] W fun e w'=>∃v' n',e=.returned v'∧Hid (ua w cs w' nd nm.length nc nm v' n' (xs++Rc.bA (Rc.aC t))∧Lib.OthersKept 5 none W w')):=by
  intro W nd nc v n xs t h hn ht
  refine(kz w.heap.size W v n xs t h.own h.aZ.size (by omega) (by omega)).mono ?_
  rintro e w' ⟨v',n',rfl,q1,q2,q3⟩
  exact⟨v',n',rfl,h.step q1 q2 q3,q3⟩
 have Bs:Hid (∀W nd nc v n xs k,ua w cs W nd nm.length nc nm v n xs→n≤1000000000→k≤100000→Calls Tryz.prog 78 #[v,.int .i64 (k:Nat)] W fun e w'=>∃v' n',e=.returned v'∧Hid (ua w cs w' nd nm.length nc nm v' n' (xs++Rc.bA (Rc.aQ k)))):=by
  intro W nd nc v n xs k h hn hk
  refine(dH w.heap.size W v n xs k h.own h.aZ.size (by omega) (by omega)).mono ?_
  rintro e w' ⟨v',n',rfl,q1,q2,q3⟩
  exact⟨v',n',rfl,h.step q1 q2 q3⟩
 have tS:Hid (∀W nd nc v n xs,ua w cs W nd nm.length nc nm v n xs→Calls Tryz.prog 59 #[.agg #[.string (Ax.au kl),.slice rd rn rc]] W fun e w'=>∃qd qc,e=.returned (.slice qd 3 qc)∧Hid (ua w cs w' nd nm.length nc nm v n xs∧w'.ownsRow 0 112 2 (.slice qd 3 qc) 3 (aB gQ))):=by
  intro W nd nc v n xs h
  refine(hS.kM W h.aZ).mono ?_
  rintro e w' ⟨qd,qc,rfl,q1,q2⟩
  exact⟨qd,qc,rfl,h.below q2,aG q1 (Nat.zero_le _)⟩
 have yT:Hid (∀W nd nc v n xs pn pp,ua w cs W nd nm.length nc nm v n xs→n≤1000000000→(pn,pp)∈gQ→Calls Tryz.prog 79 #[.agg cs,v,.agg #[.string pn,.int .i64 (pp:Nat)],.slice nd nm.length nc] W fun e w'=>∃v' n',e=.returned v'∧Hid (ua w cs w' nd nm.length nc nm v' n' (xs++Rc.bA (Ex.facts kl gv pn))∧Lib.OthersKept 5 none W w')):=by
  intro W nd nc v n xs pn pp h hn hp
  have h9:=F4 w kl gv rd rn rc gm hm hd hS W h.aZ v n xs h.own (by omega) pn pp hp nd nm.length nc (by rw[hN];exact h.nam)
  rw[←bH]at h9
  refine h9.mono ?_
  rintro e w' ⟨v',n',rfl,q⟩
  exact⟨v',n',rfl,h.step q.own q.aZ q.Eu,q.Eu⟩
 have HBD:Hid (Ex.body kl gv=Rc.aC (Ax.au kl)++Rc.aQ nm.length++nm.flatMap Rc.aC++gQ.flatMap fun p=>Ex.facts kl gv p.1):=by
  have e:Ex.body kl gv=Rc.aC (Ax.au kl)++Rc.aQ nm.length++nm.flatMap Rc.aC++gQ.flatMap fun p=>Ex.facts kl gv p.1:=by
   unfold Ex.body
   rw[hN]
  exact e
 have Pu:Hid (∀p,(Ex.facts kl gv p).length≤10000):=qP kl gv
 generalize Ex.body kl gv=bd at HBD ⊢
 generalize Ax.au kl=pt at*
 obtain⟨t0,t1,t2,t3⟩:=yR.out wB GM
 have hts:(Rc.aC pt).length≤100010:=by
  unfold Rc.aC
  have h9:(Rc.aQ pt.size).length≤10:=Rc.mD 10 _ (by
   have:(128:Nat)^10=1180591620717411303424:=by decide
   omega) (by decide)
  rw[List.length_append]
  simp
  omega
 have Bw:(Rc.aQ nm.length).length≤10:=iL (by omega)
 rw[←bH]
 clear bH hS hN FM t3
 go_enter Tryz.func44,Tryz.ntmps44
 go_upto_region 1 with fail
 rw[←Pw]
 clear Pw
 go_wp2_with (first | (refine wpList_load_row rfl _ _ rfl w.heap.size rfl _ _ _ _ GM Tryz.underlying107 rfl (by rw[hcz];kernel_rfl) ?_) | (go_at_call 76;refine yM.out.mono ?_;rintro e w1 ⟨nd,nc,rfl,Mh⟩;obtain⟨u0,u1,u2,_⟩:=yR.out w1 Mh.out.box) | (go_at_call 77;refine(qf.out _ _ _ _ _ _ _ Mh.out (by omega) kY).mono ?_;rintro e w2 ⟨v2,n2,rfl,HW2⟩;have Bt:n2≤1000000:=(by have h9:=HW2.out.1.len;rw[List.nil_append,Rc.bB]at h9;omega)) | (go_at_call 78;refine(Bs.out _ _ _ _ _ _ _ HW2.out.1 (by omega) (by omega)).mono ?_;rintro e w3 ⟨v3,n3,rfl,HW3⟩))
 have HW4:Hid (ua w cs w3 nd nm.length nc nm v3 n3 (Rc.bA (Rc.aC pt++Rc.aQ nm.length++(nm.take 0).flatMap Rc.aC))):=by
  have h9:=HW3.out
  have e:[]++Rc.bA (Rc.aC pt)++Rc.bA (Rc.aQ nm.length)=Rc.bA (Rc.aC pt++Rc.aQ nm.length++(nm.take 0).flatMap Rc.aC):=by simp[Rc.bA]
  rw[e]at h9
  exact h9
 clear yM Mh HW2 HW3 u0 u1 u2 t0 t1 t2 Bs GM
 have Sz:Hid (∀k,(Rc.aC pt++Rc.aQ nm.length++(nm.take k).flatMap Rc.aC).length≤10000000):=by
  intro k
  have h1:=Rc.iw Rc.aC 1010 (nm.take k) (fun a ha=>Rc.iO a (Ph.out a (List.mem_of_mem_take ha)))
  have h2:(nm.take k).length≤324:=by rw[List.length_take];omega
  rw[List.length_append,List.length_append]
  omega
 go_loopw [4,21] (fun b i wr=>∃(k n:Nat),k≤nm.length∧i=.int .i64 k∧ua w cs wr nd nm.length nc nm b n (Rc.bA (Rc.aC pt++Rc.aQ nm.length++(nm.take k).flatMap Rc.aC))) (fun _ i _=>nm.length-(intOf i).toNat)
 case atStart=>exact⟨0,n3,Nat.zero_le _,rfl,HW4.out⟩
 case round=>
  obtain⟨k,n,hk,rfl,hW⟩:=hrel
  obtain⟨ad,ac,LB⟩:=ah hW.own
  subst LB
  clear HW4
  have hn9:n≤10000000:=by
   have h1:=hW.len
   have h2:=Sz.out k
   rw[Rc.bB]at h1
   omega
  have HW:Hid (ua w cs wr nd nm.length nc nm (.slice ad n ac) n (Rc.bA (Rc.aC pt++Rc.aQ nm.length++(nm.take k).flatMap Rc.aC))):=hW
  by_cases aE:k<nm.length
  · obtain⟨g,rfl,hg,hc,bH⟩:=aD hW.nam (by omega)
    have ca:wr.cell? ⟨g,k,none⟩=some (.string nm[k]):=bH k _ (by rw[strCells,List.getElem?_map,List.getElem?_eq_getElem aE];rfl)
    have fR:Hid (Rc.bA (Rc.aC pt++Rc.aQ nm.length++(nm.take (k+1)).flatMap Rc.aC)=Rc.bA (Rc.aC pt++Rc.aQ nm.length++(nm.take k).flatMap Rc.aC)++Rc.bA (Rc.aC nm[k])):=by
     have e0:nm.take (k+1)=nm.take k++[nm[k]]:=by rw[List.take_add_one,List.getElem?_eq_getElem aE];rfl
     have e1:Rc.bA (Rc.aC pt++Rc.aQ nm.length++(nm.take (k+1)).flatMap Rc.aC)=Rc.bA (Rc.aC pt++Rc.aQ nm.length++(nm.take k).flatMap Rc.aC)++Rc.bA (Rc.aC nm[k]):=by
      rw[e0,List.flatMap_append,←Rc.eK]
      simp
     exact e1
    have cE:(nm[k]).size≤100000:=Nat.le_trans (Ph.out _ (List.getElem_mem aE)) (by decide)
    generalize nm[k]=y at ca fR cE
    have HT2:Hid (Calls Tryz.prog 77 #[.slice ad n ac,.string y] wr fun e w'=>∃v' n',e=.returned v'∧Hid (ua w cs w' (some ⟨g,0,none⟩) nm.length nc nm v' n' (Rc.bA (Rc.aC pt++Rc.aQ nm.length++(nm.take (k+1)).flatMap Rc.aC)))):=by
     refine(qf.out wr _ _ _ _ _ y hW (by omega) cE).mono ?_
     rintro e w' ⟨v',n',rfl,H9⟩
     rw[fR.out]
     exact⟨v',n',rfl,H9.out.1⟩
    clear hW bH HW qf yT tS fR yR
    go_wp2_with (go_at_call 77;refine HT2.out.mono ?_;rintro e w5 ⟨v5,n5,rfl,HW5⟩)
    go_roundw
    case rel=>exact⟨k+1,n5,aE,by go_num,HW5.out⟩
    case measure=>simp[intOf];omega
  · have WH:Hid (ua w cs wr nd nm.length nc nm (.slice ad n ac) n (Rc.bA (Rc.aC pt++Rc.aQ nm.length++nm.flatMap Rc.aC))):=by
     have e0:nm.take k=nm:=List.take_of_length_le (by omega)
     rw[e0]at hW
     exact hW
    obtain⟨u0,u1,u2,_⟩:=yR.out wr hW.box
    obtain⟨wA,rfl⟩:∃x,x=wr:=⟨_,rfl⟩
    have Qg:Hid (Calls Tryz.prog 59 #[.agg #[.string pt,.slice rd rn rc]] wA fun e w'=>∃qd qc,e=.returned (.slice qd 3 qc)∧Hid (ua w cs w' nd nm.length nc nm (.slice ad n ac) n (Rc.bA (Rc.aC pt++Rc.aQ nm.length++nm.flatMap Rc.aC))∧w'.ownsRow 0 112 2 (.slice qd 3 qc) 3 (aB gQ))):=tS.out wA _ _ _ _ _ WH.out
    generalize BQ:Rc.aC pt++Rc.aQ nm.length++nm.flatMap Rc.aC=pre at HBD Qg
    have agt:pre.length≤10000000:=by
     have h9:=Sz.out nm.length
     rw[List.take_length,BQ]at h9
     exact h9
    clear hW HW WH qf tS Sz BQ
    go_wp2_with (go_at_call 59;refine Qg.out.mono ?_;rintro e w5 ⟨qd,qc,rfl,H5⟩)
    clear u0 u1 u2
    go_loopw [4,33] (fun b i wr=>∃(q n:Nat),q≤3∧i=.int .i64 q∧ua w cs wr nd nm.length nc nm b n (Rc.bA (pre++(gQ.take q).flatMap fun p=>Ex.facts kl gv p.1))∧Lib.OthersKept 5 none w5 wr) (fun _ i _=>3-(intOf i).toNat)
    case atStart=>exact⟨0,n,Nat.zero_le _,rfl,by simpa using H5.out.1,Lib.OthersKept.refl _ _ _⟩
    case round=>
     obtain⟨q,m,hq,rfl,hW,ho⟩:=hrel
     obtain⟨bd',bc,bL⟩:=ah hW.own
     subst bL
     have hm9:m≤20000000:=by
      have h1:=hW.len
      have h2:=jV (fun p:Pd.Pr=>Ex.facts kl gv p.1) 10000 (gQ.take q) (fun p _=>Pu.out p.1)
      have h3:(gQ.take q).length≤3:=by rw[List.length_take];exact Nat.min_le_right _ _
      rw[Rc.bB,List.length_append]at h1
      omega
     have HW:Hid (ua w cs wr nd nm.length nc nm (.slice bd' m bc) m (Rc.bA (pre++(gQ.take q).flatMap fun p=>Ex.facts kl gv p.1))):=hW
     have HO:Hid (Lib.OthersKept 5 none w5 wr):=ho
     by_cases mL:q<3
     · have Qs:q<gQ.length:=mL
       obtain⟨g2,rfl,dM,uI,GL⟩:=aD (bJ H5.out.2 ho (by decide)) (by omega)
       have c0:=GL _ _ (aT gQ q Qs).1
       have c1:=GL _ _ (aT gQ q Qs).2
       have Cx:((gQ[q]).1,(gQ[q]).2)∈gQ:=List.getElem_mem Qs
       have fR:Hid (Rc.bA (pre++(gQ.take (q+1)).flatMap fun p=>Ex.facts kl gv p.1)=Rc.bA (pre++(gQ.take q).flatMap fun p=>Ex.facts kl gv p.1)++Rc.bA (Ex.facts kl gv (gQ[q]).1)):=by
        have e0:gQ.take (q+1)=gQ.take q++[gQ[q]]:=by rw[List.take_add_one,List.getElem?_eq_getElem Qs];rfl
        have e1:Rc.bA (pre++(gQ.take (q+1)).flatMap fun p=>Ex.facts kl gv p.1)=Rc.bA (pre++(gQ.take q).flatMap fun p=>Ex.facts kl gv p.1)++Rc.bA (Ex.facts kl gv (gQ[q]).1):=by
         rw[e0,List.flatMap_append,←Rc.eK]
         simp
        exact e1
       generalize (gQ[q]).1=pn at c0 Cx fR
       generalize (gQ[q]).2=pp at c1 Cx
       obtain⟨wP,Hd⟩:∃wP,wP=wr.alloc (.cells #[.string pn,.int .i64 (pp:Nat)] 112):=⟨_,rfl⟩
       have IX:Below wr.heap.size wr wP:=by rw[Hd];exact(Below.refl _ _).alloc (Nat.le_refl _) _
       have LH:wP.heap[wr.heap.size]?=some (.cells #[.string pn,.int .i64 (pp:Nat)] 112 (0,0)):=by rw[Hd];exact heap_alloc_new wr _
       have p0:wP.cell? ⟨wr.heap.size,0,none⟩=some (.string pn):=by rw[cell_of_row _ _ _ _ _ _ LH];rfl
       have p1:wP.cell? ⟨wr.heap.size,1,none⟩=some (.int .i64 (pp:Nat)):=by rw[cell_of_row _ _ _ _ _ _ LH];rfl
       have hWP:=hW.below IX
       have nA:=hWP.box
       have Ta:Hid (Calls Tryz.prog 79 #[.agg cs,.slice bd' m bc,.agg #[.string pn,.int .i64 (pp:Nat)],.slice nd nm.length nc] wP fun e w'=>∃v' n',e=.returned v'∧Hid (ua w cs w' nd nm.length nc nm v' n' (Rc.bA (pre++(gQ.take (q+1)).flatMap fun p=>Ex.facts kl gv p.1))∧Lib.OthersKept 5 none w5 w')):=by
        refine(yT.out wP _ _ _ _ _ pn pp hWP (by omega) Cx).mono ?_
        rintro e w' ⟨v',n',rfl,H9⟩
        rw[fR.out]
        exact⟨v',n',rfl,H9.out.1,aP (aP HO.out (bT IX)) H9.out.2⟩
       clear hW ho GL HW HO fR hWP yT yR Cx
       go_upto_region 12 with fail
       rw[←Hd]
       clear Hd LH IX
       go_wp2_with (first | (refine wpList_load_row rfl _ _ rfl w.heap.size rfl _ _ _ _ nA Tryz.underlying107 rfl (by rw[hcz];kernel_rfl) ?_) | (go_at_call 79;refine Ta.out.mono ?_;rintro e w7 ⟨v7,n7,rfl,H7⟩))
       go_roundw
       case rel=>exact⟨q+1,n7,mL,by go_num,H7.out.1,H7.out.2⟩
       case measure=>simp[intOf];omega
     · have e0:gQ.take q=gQ:=List.take_of_length_le (by have:gQ.length=3:=rfl;omega)
       rw[e0,←HBD.out]at hW
       have WH:Hid (ua w cs wr nd nm.length nc nm (.slice bd' m bc) m (Rc.bA bd)):=hW
       obtain⟨u0,u1,u2,u3⟩:=yR.out wr hW.box
       have cE:=hW.aZ.size
       have al:=hW.own
       have HU3:Hid (∀(j:Nat) u,(Rc.bA hd)[j]?=some u→wr.cell? ((⟨w.heap.size,4,none⟩:Addr).add j)=some u):=u3
       have Fg:(Rc.bA hd).length=32*1:=by rw[Rc.bB,bS]
       clear hW HW ho HO yT yR u0 u1 u3 H5
       go_wp2_with (at_builtin;refine wpList_append_own _ rfl (.tmp 43) (.tmp 45) 63 rfl w.heap.size 5 i0 _ 1 1 Tryz.underlying63 HI.out H0.out H1.out H2.out rfl (by decide) _ _ _ rfl al ⟨w.heap.size,4,none⟩ 32 32 (Rc.bA hd) rfl Fg HU3.out (Rc.o4 hd) (by unfold maxLen;omega) (by omega) (by omega) ?_;intro v9 w9 Df BN _;rw[←Rc.eK]at Df;have E9:=wM Df (by intro e;have h8:=congrArg List.length e;rw[List.length_append,bS]at h8;simp at h8))
       have Yn:Below w.heap.size w w9:=WH.out.aZ.grown BN cE (fun k hk=>(al.lt k hk).1)
       go_ret
       exact⟨rfl,Yn⟩
theorem FF{w:World}{B eg:Nat}{kl:List Ax.ay}{gv:Nat→Bool}{n:Nat}(hE:nQ w B eg kl gv n)(hg:ji gv):∃hd:List UInt8,hd.length=32∧(∀W,Below w.heap.size w W→Calls Tryz.prog 23 #[.pointer (some ⟨eg,0,none⟩)] W fun e w'=>e=.returned (.string ⟨(Ex.body kl gv++hd).toArray⟩)∧Below W.heap.size W w')∧∃pl rv gm hm lv,w.heap[eg]?=some (.cells (bE pl rv gm hm hd lv) 109 (0,0)):=by
 obtain⟨rd,rn,rc,gm,hm,hd,lv,eb0,bS,hS0⟩:=JG hE hg
 refine⟨hd,bS,fun W hW=> ?_,_,_,_,_,_,eb0⟩
 have eb:W.heap[eg]?=some (.cells (bE (Ax.au kl) (.slice rd rn rc) gm hm hd lv) 109 (0,0)):=by rw[hW.block _ (lt_of_heap eb0)];exact eb0
 have hS:=hS0.below hW
 have kY:(Ax.au kl).size≤100000:=Nat.le_trans (Ax.jo kl) (by decide)
 have HB:Hid (Calls Tryz.prog 44 #[.agg (aO (Ax.au kl) (.slice rd rn rc) gm hm hd)] W fun e w'=>e=.returned (.string ⟨(Ex.body kl gv++hd).toArray⟩)∧Below W.heap.size W w'):=AZ W kl gv rd rn rc gm hm hd bS kY hS
 have hr:W.rangeAt eg 0 ([Value.string (Ax.au kl),.slice rd rn rc,.map (some gm),.map (some hm)]++Rc.bA hd):=by
  intro j v hv
  rw[cell_of_row _ _ _ _ _ _ eb,Nat.zero_add]
  unfold bE
  rw[List.getElem?_toArray,List.getElem?_append_left ?_]
  · exact hv
  · exact(List.getElem?_eq_some_iff.1 hv).1
 have hl:(Tryz.prog.info? 107).map (·.size)=some ([Value.string (Ax.au kl),.slice rd rn rc,.map (some gm),.map (some hm)]++Rc.bA hd).length:=by
  rw[List.length_append,Rc.bB,bS]
  kernel_rfl
 have Pc:=lt_of_heap eb
 clear hE eb eb0 hS hS0 hW
 go_enter Tryz.func23,Tryz.ntmps23
 go_wp2_with (first | (refine wpList_load_mid rfl _ _ rfl eg 0 rfl _ _ hr Tryz.underlying107 rfl hl ?_) | (go_at_call 44;refine HB.out.mono ?_;rintro e w1 ⟨rfl,a8⟩))
 go_ret
 exact⟨rfl,a8⟩
theorem vN(kl:List Ax.ay)(gv:Nat→Bool):(Ex.body kl gv).length≤10000000:=by
 unfold Ex.body
 have h1:=Rc.iw Rc.aC 1010 (Ex.jC (En.ak (En.aj kl) gv)) (fun a ha=>Rc.iO a (wO _ a ha))
 have h2:=Ex.qX (En.ak (En.aj kl) gv)
 have h3:=jV (fun p:Pd.Pr=>Ex.facts kl gv p.1) 10000 gQ (fun p _=>qP kl gv p.1)
 have h4:gQ.length=3:=rfl
 have h5:(Rc.aQ (Ex.jC (En.ak (En.aj kl) gv)).length).length≤10:=iL (by omega)
 have h6:=Rc.iO (Ax.au kl) (Nat.le_trans (Ax.jo kl) (by decide))
 simp only[List.length_append]
 omega
end
/- encode.Reader: the first number of some bytes. -/
section
open Go.RowKit
namespace Rd
def go:Nat→Nat→List UInt8→Nat→Nat×Nat
 | 0,_,_,_=>(0,0)
 | _+1,_,[],_=>(0,0)
 | k+1,i,b::l,acc=>if b.toNat=0∧0<i then (0,0)else if b.toNat<128 then (acc+b.toNat*128^i,i+1)else go k (i+1) l (acc+(b.toNat-128)*128^i)
def first(l:List UInt8):Nat×Nat:=go 4 0 l 0
theorem Rt:∀x:Fin 256,bits .and .u8 ((x.1:Nat):Int) 127=((x.1%128:Nat):Int):=by decide+kernel
theorem P3:∀x:Fin 256,bits .and .u8 ((x.1:Nat):Int) 128=if x.1<128 then 0 else 128:=by decide+kernel
theorem aca(a b:Nat)(ha:a<4611686018427387904)(hb:b<4611686018427387904):bits .or .i64 (a:Int) (b:Int)=((a|||b:Nat):Int):=by
 have pD:a|||b<2^62:=Nat.or_lt_two_pow ha hb
 have e:(BitVec.ofInt 64 (a:Int)|||BitVec.ofInt 64 (b:Int)).toNat=a|||b:=by
  rw[BitVec.toNat_or]
  have h1:∀m:Nat,m<4611686018427387904→(BitVec.ofInt 64 (m:Int)).toNat=m:=by
   intro m hm
   rw[BitVec.ofInt_natCast,BitVec.toNat_ofNat]
   omega
  rw[h1 a ha,h1 b hb]
 show IntKind.i64.wrap (((BitVec.ofInt 64 (a:Int)|||BitVec.ofInt 64 (b:Int)).toNat:Nat):Int)=_
 rw[e]
 generalize a|||b=c at pD
 simp[IntKind.wrap,IntKind.bits,IntKind.signed]
 omega
theorem BW{a k:Nat}(h:a<2^k)(x:Nat):a|||x*2^k=a+x*2^k:=by
 have h1:=Nat.shiftLeft_add_eq_or_of_lt h x
 rw[Nat.shiftLeft_eq]at h1
 rw[Nat.or_comm,←h1,Nat.add_comm]
end Rd
theorem vt(w:World)(l:List UInt8)(hl:l.length≤1000000000):
 Calls Tryz.prog 204 #[.string ⟨l.toArray⟩] w fun e w'=>e=.returned (.tuple #[.int .i64 ((Rd.first l).1:Nat),.int .i64 ((Rd.first l).2:Nat)])∧w'=w:=by
 obtain⟨s,hs⟩:∃s:ByteArray,s=⟨l.toArray⟩:=⟨_,rfl⟩
 have cE:s.size=l.length:=by rw[hs];rfl
 have WT:∀(i:Nat) (h:i<s.size) (k:i<l.length),(s[i]'h).toNat=(l[i]'k).toNat:=by
  intro i h h'
  subst hs
  rfl
 obtain⟨M,hM⟩:∃M,M=min l.length 4:=⟨_,rfl⟩
 have Y4:(if (4:Int)<(l.length:Int)then (4:Int)else (l.length:Int))=(M:Int):=by
  split<;>omega
 rw[←hs]
 clear hs
 generalize hR:Rd.first l=R
 have HR:Hid (Rd.first l=R):=hR
 clear hR
 have HG:Hid (∀(i:Nat) (h:i<s.size) (k:i<l.length),(s[i]'h).toNat=(l[i]'k).toNat):=WT
 clear WT
 go_enter Tryz.func204,Tryz.ntmps204
 go_wp2_with fail
 go_loopw [4,10] (fun a i wr=>∃(k x:Nat),k≤M∧i=.int .i64 k∧a=.int .i64 x∧x<128^k∧Rd.go (4-k) k (l.drop k) x=R∧wr=w) (fun _ i _=>M-(intOf i).toNat)
 case atStart=>exact⟨0,0,Nat.zero_le _,rfl,rfl,by decide,HR.out,rfl⟩
 case round=>
  obtain⟨k,x,hk,rfl,rfl,hx,jG,hw⟩:=hrel
  subst hw
  clear HR
  by_cases aE:k<M
  · have CB:k<l.length:=by omega
    have hk4:k<4:=by omega
    have EK:(l[k]).toNat<256:=(l[k]).toNat_lt
    have hd:l.drop k=l[k]::l.drop (k+1):=List.drop_eq_getElem_cons CB
    rw[hd,show 4-k=(4-(k+1))+1 by omega]at jG
    simp only[Rd.go]at jG
    have hsk:k<s.size:=by omega
    have hb:=HG.out k hsk CB
    generalize l[k]=bb at jG EK hb
    generalize ZJ:bb.toNat=b at jG EK hb
    clear ZJ hd bb
    have VO:=Rd.Rt ⟨b,EK⟩
    have V7:=Rd.P3 ⟨b,EK⟩
    simp only at VO V7
    have ND:∀c:Nat,c≤21→bits .or .i64 (x:Int) (((b%128)*2^c:Nat):Int)=((x|||(b%128)*2^c:Nat):Int):=by
     intro c hc
     have h9:2^c≤2^21:=Nat.pow_le_pow_right (by decide) hc
     have h8:(128:Nat)^k≤128^3:=Nat.pow_le_pow_right (by decide) (by omega)
     have h7:(b%128)*2^c≤127*2^21:=Nat.mul_le_mul (by omega) h9
     exact Rd.aca _ _ (by omega) (by omega)
    have h4:k=0∨k=1∨k=2∨k=3:=by omega
    clear HG
    have ha3:bits .and .u8 (0:Int) 127=0:=by decide
    have ZG:bits .and .u8 (0:Int) 128=0:=by decide
    rcases h4 with rfl | rfl | rfl | rfl
    · have hmn:(0:Int)<min (l.length:Int) 4:=by omega
      rw[if_neg (fun h=>absurd h.2 (by decide))]at jG
      have hOr:bits .or .i64 (x:Int) ((b:Int)%128)=((x+b%128*1:Nat):Int):=by
       have h9:=ND 0 (by decide)
       rw[Rd.BW (by simpa using hx)]at h9
       simpa using h9
      clear ND
      by_cases FV:b<128
      · have HE:Hid (R=(x+b%128*1,1)):=by
         rw[if_pos FV]at jG
         rw[Nat.mod_eq_of_lt FV]
         exact jG.symm
        clear jG
        generalize x+b%128*1=y at HE hOr
        go_wp2_with fail
        all_goals
         (go_ret2
          rw[HE.out]
          exact⟨rfl,rfl⟩)
      · have HE:Hid (x+b%128*1<128^1∧Rd.go 3 1 (l.drop 1) (x+b%128*1)=R):=by
         rw[if_neg FV]at jG
         have h9:b-128=b%128:=by omega
         rw[h9]at jG
         have h8:x<1:=by simpa using hx
         have h7:(128:Nat)^1=128:=by decide
         exact⟨by omega,jG⟩
        clear jG
        generalize x+b%128*1=y at HE hOr
        go_wp2_with fail
        all_goals
         (go_roundw
          case rel=>exact⟨1,y,by omega,rfl,rfl,HE.out.1,HE.out.2,trivial⟩
          case measure=>(simp[intOf];omega))
    · have hmn:(1:Int)<min (l.length:Int) 4:=by omega
      by_cases bL:b=0
      · have HE:Hid (R=(0,0)):=by
         rw[if_pos ⟨bL,by decide⟩]at jG
         exact jG.symm
        clear jG ND VO V7
        go_wp2_with fail
        go_ret2
        rw[HE.out]
        exact⟨rfl,rfl⟩
      · rw[if_neg (fun h=>bL h.1)]at jG
        have hOr:bits .or .i64 (x:Int) ((b:Int)%128*128)=((x+b%128*128:Nat):Int):=by
         have h9:=ND 7 (by decide)
         rw[Rd.BW (by simpa using hx)]at h9
         simpa using h9
        clear ND
        by_cases FV:b<128
        · have HE:Hid (R=(x+b%128*128,2)):=by
           rw[if_pos FV]at jG
           rw[Nat.mod_eq_of_lt FV]
           exact jG.symm
          clear jG
          generalize x+b%128*128=y at HE hOr
          go_wp2_with fail
          all_goals
           (go_ret2
            rw[HE.out]
            exact⟨rfl,rfl⟩)
        · have HE:Hid (x+b%128*128<128^2∧Rd.go 2 2 (l.drop 2) (x+b%128*128)=R):=by
           rw[if_neg FV]at jG
           have h9:b-128=b%128:=by omega
           rw[h9]at jG
           have h8:x<128:=by simpa using hx
           have h7:(128:Nat)^2=16384:=by decide
           exact⟨by omega,jG⟩
          clear jG
          generalize x+b%128*128=y at HE hOr
          go_wp2_with fail
          all_goals
           (go_roundw
            case rel=>exact⟨2,y,by omega,rfl,rfl,HE.out.1,HE.out.2,trivial⟩
            case measure=>(simp[intOf];omega))
    · have hmn:(2:Int)<min (l.length:Int) 4:=by omega
      by_cases bL:b=0
      · have HE:Hid (R=(0,0)):=by
         rw[if_pos ⟨bL,by decide⟩]at jG
         exact jG.symm
        clear jG ND VO V7
        go_wp2_with fail
        go_ret2
        rw[HE.out]
        exact⟨rfl,rfl⟩
      · rw[if_neg (fun h=>bL h.1)]at jG
        have hOr:bits .or .i64 (x:Int) ((b:Int)%128*16384)=((x+b%128*16384:Nat):Int):=by
         have h9:=ND 14 (by decide)
         rw[Rd.BW (by simpa using hx)]at h9
         simpa using h9
        clear ND
        by_cases FV:b<128
        · have HE:Hid (R=(x+b%128*16384,3)):=by
           rw[if_pos FV]at jG
           rw[Nat.mod_eq_of_lt FV]
           exact jG.symm
          clear jG
          generalize x+b%128*16384=y at HE hOr
          go_wp2_with fail
          all_goals
           (go_ret2
            rw[HE.out]
            exact⟨rfl,rfl⟩)
        · have HE:Hid (x+b%128*16384<128^3∧Rd.go 1 3 (l.drop 3) (x+b%128*16384)=R):=by
           rw[if_neg FV]at jG
           have h9:b-128=b%128:=by omega
           rw[h9]at jG
           have h8:x<16384:=by simpa using hx
           have h7:(128:Nat)^3=2097152:=by decide
           exact⟨by omega,jG⟩
          clear jG
          generalize x+b%128*16384=y at HE hOr
          go_wp2_with fail
          all_goals
           (go_roundw
            case rel=>exact⟨3,y,by omega,rfl,rfl,HE.out.1,HE.out.2,trivial⟩
            case measure=>(simp[intOf];omega))
    · have hmn:(3:Int)<min (l.length:Int) 4:=by omega
      by_cases bL:b=0
      · have HE:Hid (R=(0,0)):=by
         rw[if_pos ⟨bL,by decide⟩]at jG
         exact jG.symm
        clear jG ND VO V7
        go_wp2_with fail
        go_ret2
        rw[HE.out]
        exact⟨rfl,rfl⟩
      · rw[if_neg (fun h=>bL h.1)]at jG
        have hOr:bits .or .i64 (x:Int) ((b:Int)%128*2097152)=((x+b%128*2097152:Nat):Int):=by
         have h9:=ND 21 (by decide)
         rw[Rd.BW (by simpa using hx)]at h9
         simpa using h9
        clear ND
        by_cases FV:b<128
        · have HE:Hid (R=(x+b%128*2097152,4)):=by
           rw[if_pos FV]at jG
           rw[Nat.mod_eq_of_lt FV]
           exact jG.symm
          clear jG
          generalize x+b%128*2097152=y at HE hOr
          go_wp2_with fail
          all_goals
           (go_ret2
            rw[HE.out]
            exact⟨rfl,rfl⟩)
        · have HE:Hid (x+b%128*2097152<128^4∧Rd.go 0 4 (l.drop 4) (x+b%128*2097152)=R):=by
           rw[if_neg FV]at jG
           have h9:b-128=b%128:=by omega
           rw[h9]at jG
           have h8:x<2097152:=by simpa using hx
           have h7:(128:Nat)^4=268435456:=by decide
           exact⟨by omega,jG⟩
          clear jG
          generalize x+b%128*2097152=y at HE hOr
          go_wp2_with fail
          all_goals
           (go_roundw
            case rel=>exact⟨4,y,by omega,rfl,rfl,HE.out.1,HE.out.2,trivial⟩
            case measure=>(simp[intOf];omega))
  · have HE:Hid (R=(0,0)):=by
     have h9:R=(0,0):=by
      rw[←jG]
      by_cases h4:k=4
      · subst h4
        rfl
      · rw[List.drop_eq_nil_of_le (by omega),show 4-k=(3-k)+1 by omega]
        rfl
     exact h9
    clear jG HG
    go_wp2_with fail
    go_ret2
    rw[HE.out]
    exact⟨rfl,rfl⟩
end
end Go.Proofs.YtdmicblafmhflaaGreatDoor
