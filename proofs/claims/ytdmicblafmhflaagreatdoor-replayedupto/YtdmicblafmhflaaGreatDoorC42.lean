/- state.State.Bytes and Engine.Export, walked. -/
import Derived.Test.YtdmicblafmhflaaGreatDoorC41
set_option linter.unusedSimpArgs false
set_option linter.unusedVariables false
set_option maxHeartbeats 4000000
set_option maxRecDepth 100000
namespace Go.Proofs.YtdmicblafmhflaaGreatDoor
section
open Go.Shelf Go.RowKit Go.Maps
theorem wo(H:Nat→Bool):∀x,x∈Ex.jC H→x.size≤1000:=by
 intro x hx
 have h:=(Ex.He H x).1 hx
 unfold Ex.mT at h
 obtain⟨p,_,h⟩:=List.mem_flatMap.1 h
 obtain⟨j,_,h⟩:=List.mem_flatMap.1 h
 exact Nat.le_trans (iU j x h).2 (by decide)
theorem rz(kl:List Ax.ay)(gv:Nat→Bool)(p:ByteArray):(Ex.facts kl gv p).length≤10000:=by
 unfold Ex.facts
 have h1:=wW (En.ak (En.aj kl) gv) p
 have h2:=jX (Ex.fact kl gv) 100 (cW (En.ak (En.aj kl) gv) p) (fun x _=>vS kl gv x)
 have h3:(Rc.aQ (cW (En.ak (En.aj kl) gv) p).length).length≤10:=iD (by omega)
 rw[List.length_append]
 omega
structure tr(w0:World)(cs:Array Value)(w':World)(nd:Option Addr)(nl nc:Nat)(nm:List ByteArray)(v:Value)(n:Nat)(xs:List Value):Prop where
 own:w'.ownsRow w0.heap.size 5 1 v n xs
 aZ:Below w0.heap.size w0 w'
 box:w'.heap[w0.heap.size]?=some (.cells cs 107 (0,0))
 ZJ:w'.ownsRow 0 9 1 (.slice nd nl nc) nl (strCells nm)
theorem tr.below{w0:World}{cs:Array Value}{w1 W:World}{nd:Option Addr}{nl nc:Nat}{nm:List ByteArray}{v:Value}{n:Nat}{xs:List Value}(h:tr w0 cs w1 nd nl nc nm v n xs)(hb:Below w1.heap.size w1 W):tr w0 cs W nd nl nc nm v n xs:=
 ⟨ae h.own hb,h.aZ.trans (hb.mono h.aZ.size),by rw[hb.block _ (lt_of_heap h.box)];exact h.box,ae h.ZJ hb⟩
theorem tr.step{w0:World}{cs:Array Value}{W w2:World}{nd:Option Addr}{nl nc:Nat}{nm:List ByteArray}{v v2:Value}{n n2:Nat}{xs ys:List Value}(h:tr w0 cs W nd nl nc nm v n xs)(q1:w2.ownsRow w0.heap.size 5 1 v2 n2 ys)(q2:Below w0.heap.size W w2)(q3:Lib.OthersKept 5 none W w2):tr w0 cs w2 nd nl nc nm v2 n2 ys:=
 ⟨q1,h.aZ.trans q2,q3 _ _ h.box (by simp) (fun c fz e=>by simp at e),bJ h.ZJ q3 (by decide)⟩
theorem tr.len{w0:World}{cs:Array Value}{w':World}{nd:Option Addr}{nl nc:Nat}{nm:List ByteArray}{v:Value}{n:Nat}{xs:List Value}(h:tr w0 cs w' nd nl nc nm v n xs):xs.length=n:=by have:=h.own.1;omega
theorem zX(w:World)(kl:List Ax.ay)(gv:Nat→Bool)(rd:Option Addr)(rn rc gm hm:Nat)(hd:List UInt8)(bT:hd.length=32)(lj:(Ax.au kl).size≤100000)(hS:Nx w kl gv (.slice rd rn rc) gm hm):
 Calls Tryz.prog 44 #[.agg (aO (Ax.au kl) (.slice rd rn rc) gm hm hd)] w fun e w'=>e=.returned (.string ⟨(Ex.body kl gv++hd).toArray⟩)∧Below w.heap.size w w':=by
 obtain⟨i0,jt,ew,dZ,dU⟩:=info_parts Tryz.kK
 have HI:Hid (Tryz.prog.info? 5=some i0):=jt
 have H0:Hid (i0.zero=some (.int .u8 0)):=ew
 have H1:Hid (i0.size=1):=dZ
 have H2:Hid (i0.bytes=1):=dU
 clear jt ew dZ dU
 have HS:Hid (Nx w kl gv (.slice rd rn rc) gm hm):=hS
 obtain⟨cs,bH⟩:∃cs,cs=aO (Ax.au kl) (.slice rd rn rc) gm hm hd:=⟨_,rfl⟩
 have hcz:cs.size=36:=by rw[bH];exact aL _ _ _ _ bT
 obtain⟨wB,PA⟩:∃wB,wB=w.alloc (.cells cs 107):=⟨_,rfl⟩
 have GI:Below w.heap.size w wB:=by rw[PA];exact(Below.refl _ _).alloc (Nat.le_refl _) _
 have Gq:wB.heap[w.heap.size]?=some (.cells cs 107 (0,0)):=by rw[PA];exact heap_alloc_new w _
 have yL:Hid (∀W:World,W.heap[w.heap.size]?=some (.cells cs 107 (0,0))→W.cell? ⟨w.heap.size,0,none⟩=some (.string (Ax.au kl))∧W.cell? ⟨w.heap.size,1,none⟩=some (.slice rd rn rc)∧w.heap.size<W.heap.size∧∀(j:Nat) u,(Rc.bA hd)[j]?=some u→W.cell? ((⟨w.heap.size,4,none⟩:Addr).add j)=some u):=by
  intro W hW
  refine⟨by rw[cell_of_row _ _ _ _ _ _ hW,bH];rfl,by rw[cell_of_row _ _ _ _ _ _ hW,bH];rfl,lt_of_heap hW, ?_⟩
  intro j u hu
  rw[Addr.add_mid,cell_of_row _ _ _ _ _ _ hW,bH]
  unfold aO
  rw[List.getElem?_toArray,List.getElem?_append_right (by simp)]
  simpa using hu
 generalize hN:Ex.jC (En.ak (En.aj kl) gv)=nm
 have aco:nm.length≤324:=by rw[←hN];exact Ex.sr _
 have Mm:Hid (∀x,x∈nm→x.size≤1000):=by rw[←hN];exact wo _
 have ze:Hid (Calls Tryz.prog 76 #[.agg cs] wB fun e w1=>∃nd nc,e=.returned (.slice nd nm.length nc)∧Hid (tr w cs w1 nd nm.length nc nm (.slice none 0 0) 0 [])):=by
  have h9:=JA wB kl gv rd rn rc gm hm hd (hS.below GI)
  rw[←bH,hN]at h9
  refine h9.mono ?_
  rintro e w1 ⟨nd,nc,rfl,q1,q2⟩
  exact⟨nd,nc,rfl,World.ownsRow_nil _ _ _ _,GI.trans (q2.mono GI.size),by rw[q2.block _ (lt_of_heap Gq)];exact Gq,aG q1 (Nat.zero_le _)⟩
 have qE:Hid (∀W nd nc v n xs t,tr w cs W nd nm.length nc nm v n xs→n≤1000000000→t.size≤100000→Calls Tryz.prog 77 #[v,.string t] W fun e w'=>∃v' n',e=.returned v'∧Hid (tr w cs w' nd nm.length nc nm v' n' (xs++Rc.bA (Rc.aC t))∧Lib.OthersKept 5 none W w')):=by
  intro W nd nc v n xs t h hn ht
  refine(kq w.heap.size W v n xs t h.own h.aZ.size (by omega) (by omega)).mono ?_
  rintro e w' ⟨v',n',rfl,q1,q2,q3⟩
  exact⟨v',n',rfl,h.step q1 q2 q3,q3⟩
 have Br:Hid (∀W nd nc v n xs k,tr w cs W nd nm.length nc nm v n xs→n≤1000000000→k≤100000→Calls Tryz.prog 78 #[v,.int .i64 (k:Nat)] W fun e w'=>∃v' n',e=.returned v'∧Hid (tr w cs w' nd nm.length nc nm v' n' (xs++Rc.bA (Rc.aQ k)))):=by
  intro W nd nc v n xs k h hn hk
  refine(dH w.heap.size W v n xs k h.own h.aZ.size (by omega) (by omega)).mono ?_
  rintro e w' ⟨v',n',rfl,q1,q2,q3⟩
  exact⟨v',n',rfl,h.step q1 q2 q3⟩
 have tq:Hid (∀W nd nc v n xs,tr w cs W nd nm.length nc nm v n xs→Calls Tryz.prog 59 #[.agg #[.string (Ax.au kl),.slice rd rn rc]] W fun e w'=>∃qd qc,e=.returned (.slice qd 3 qc)∧Hid (tr w cs w' nd nm.length nc nm v n xs∧w'.ownsRow 0 112 2 (.slice qd 3 qc) 3 (aB gQ))):=by
  intro W nd nc v n xs h
  refine(hS.kP W h.aZ).mono ?_
  rintro e w' ⟨qd,qc,rfl,q1,q2⟩
  exact⟨qd,qc,rfl,h.below q2,aG q1 (Nat.zero_le _)⟩
 have zo:Hid (∀W nd nc v n xs pn pp,tr w cs W nd nm.length nc nm v n xs→n≤1000000000→(pn,pp)∈gQ→Calls Tryz.prog 79 #[.agg cs,v,.agg #[.string pn,.int .i64 (pp:Nat)],.slice nd nm.length nc] W fun e w'=>∃v' n',e=.returned v'∧Hid (tr w cs w' nd nm.length nc nm v' n' (xs++Rc.bA (Ex.facts kl gv pn))∧Lib.OthersKept 5 none W w')):=by
  intro W nd nc v n xs pn pp h hn hp
  have h9:=FR w kl gv rd rn rc gm hm hd hS W h.aZ v n xs h.own (by omega) pn pp hp nd nm.length nc (by rw[hN];exact h.ZJ)
  rw[←bH]at h9
  refine h9.mono ?_
  rintro e w' ⟨v',n',rfl,q⟩
  exact⟨v',n',rfl,h.step q.own q.aZ q.D5,q.D5⟩
 have HBD:Hid (Ex.body kl gv=Rc.aC (Ax.au kl)++Rc.aQ nm.length++nm.flatMap Rc.aC++gQ.flatMap fun p=>Ex.facts kl gv p.1):=by
  have e:Ex.body kl gv=Rc.aC (Ax.au kl)++Rc.aQ nm.length++nm.flatMap Rc.aC++gQ.flatMap fun p=>Ex.facts kl gv p.1:=by
   unfold Ex.body
   rw[hN]
  exact e
 have PF:Hid (∀p,(Ex.facts kl gv p).length≤10000):=rz kl gv
 generalize Ex.body kl gv=bd at HBD ⊢
 generalize Ax.au kl=pt at*
 obtain⟨t0,t1,t2,t3⟩:=yL.out wB Gq
 have hts:(Rc.aC pt).length≤100010:=by
  unfold Rc.aC
  have h9:(Rc.aQ pt.size).length≤10:=Rc.mn 10 _ (by
   have:(128:Nat)^10=1180591620717411303424:=by decide
   omega) (by decide)
  rw[List.length_append]
  simp
  omega
 have Bc:(Rc.aQ nm.length).length≤10:=iD (by omega)
 rw[←bH]
 clear bH hS hN GI t3
 go_enter Tryz.func44,Tryz.ntmps44
 go_upto_region 1 with fail
 rw[←PA]
 clear PA
 go_wp2_with (first | (refine wpList_load_row rfl _ _ rfl w.heap.size rfl _ _ _ _ Gq Tryz.underlying107 rfl (by rw[hcz];kernel_rfl) ?_) | (go_at_call 76;refine ze.out.mono ?_;rintro e w1 ⟨nd,nc,rfl,Nh⟩;obtain⟨u0,u1,u2,_⟩:=yL.out w1 Nh.out.box) | (go_at_call 77;refine(qE.out _ _ _ _ _ _ _ Nh.out (by omega) lj).mono ?_;rintro e w2 ⟨v2,n2,rfl,HW2⟩;have BI:n2≤1000000:=(by have h9:=HW2.out.1.len;rw[List.nil_append,Rc.bB]at h9;omega)) | (go_at_call 78;refine(Br.out _ _ _ _ _ _ _ HW2.out.1 (by omega) (by omega)).mono ?_;rintro e w3 ⟨v3,n3,rfl,HW3⟩))
 have ZN:Hid (tr w cs w3 nd nm.length nc nm v3 n3 (Rc.bA (Rc.aC pt++Rc.aQ nm.length++(nm.take 0).flatMap Rc.aC))):=by
  have h9:=HW3.out
  have e:[]++Rc.bA (Rc.aC pt)++Rc.bA (Rc.aQ nm.length)=Rc.bA (Rc.aC pt++Rc.aQ nm.length++(nm.take 0).flatMap Rc.aC):=by simp[Rc.bA]
  rw[e]at h9
  exact h9
 clear ze Nh HW2 HW3 u0 u1 u2 t0 t1 t2 Br Gq
 have Ta:Hid (∀k,(Rc.aC pt++Rc.aQ nm.length++(nm.take k).flatMap Rc.aC).length≤10000000):=by
  intro k
  have h1:=Rc.gU Rc.aC 1010 (nm.take k) (fun a ha=>Rc.iI a (Mm.out a (List.mem_of_mem_take ha)))
  have h2:(nm.take k).length≤324:=by rw[List.length_take];omega
  rw[List.length_append,List.length_append]
  omega
 go_loopw [4,21] (fun b i wr=>∃(k n:Nat),k≤nm.length∧i=.int .i64 k∧tr w cs wr nd nm.length nc nm b n (Rc.bA (Rc.aC pt++Rc.aQ nm.length++(nm.take k).flatMap Rc.aC))) (fun _ i _=>nm.length-(intOf i).toNat)
 case atStart=>exact⟨0,n3,Nat.zero_le _,rfl,ZN.out⟩
 case round=>
  obtain⟨k,n,hk,rfl,hW⟩:=hrel
  obtain⟨ad,ac,LO⟩:=ah hW.own
  subst LO
  clear ZN
  have hn9:n≤10000000:=by
   have h1:=hW.len
   have h2:=Ta.out k
   rw[Rc.bB]at h1
   omega
  have HW:Hid (tr w cs wr nd nm.length nc nm (.slice ad n ac) n (Rc.bA (Rc.aC pt++Rc.aQ nm.length++(nm.take k).flatMap Rc.aC))):=hW
  by_cases aE:k<nm.length
  · obtain⟨g,rfl,hg,hc,bH⟩:=aD hW.ZJ (by omega)
    have ca:wr.cell? ⟨g,k,none⟩=some (.string nm[k]):=bH k _ (by rw[strCells,List.getElem?_map,List.getElem?_eq_getElem aE];rfl)
    have fS:Hid (Rc.bA (Rc.aC pt++Rc.aQ nm.length++(nm.take (k+1)).flatMap Rc.aC)=Rc.bA (Rc.aC pt++Rc.aQ nm.length++(nm.take k).flatMap Rc.aC)++Rc.bA (Rc.aC nm[k])):=by
     have e0:nm.take (k+1)=nm.take k++[nm[k]]:=by rw[List.take_add_one,List.getElem?_eq_getElem aE];rfl
     have e1:Rc.bA (Rc.aC pt++Rc.aQ nm.length++(nm.take (k+1)).flatMap Rc.aC)=Rc.bA (Rc.aC pt++Rc.aQ nm.length++(nm.take k).flatMap Rc.aC)++Rc.bA (Rc.aC nm[k]):=by
      rw[e0,List.flatMap_append,←Rc.eU]
      simp
     exact e1
    have cE:(nm[k]).size≤100000:=Nat.le_trans (Mm.out _ (List.getElem_mem aE)) (by decide)
    generalize nm[k]=y at ca fS cE
    have ZU:Hid (Calls Tryz.prog 77 #[.slice ad n ac,.string y] wr fun e w'=>∃v' n',e=.returned v'∧Hid (tr w cs w' (some ⟨g,0,none⟩) nm.length nc nm v' n' (Rc.bA (Rc.aC pt++Rc.aQ nm.length++(nm.take (k+1)).flatMap Rc.aC)))):=by
     refine(qE.out wr _ _ _ _ _ y hW (by omega) cE).mono ?_
     rintro e w' ⟨v',n',rfl,H9⟩
     rw[fS.out]
     exact⟨v',n',rfl,H9.out.1⟩
    clear hW bH HW qE zo tq fS yL
    go_wp2_with (go_at_call 77;refine ZU.out.mono ?_;rintro e w5 ⟨v5,n5,rfl,HW5⟩)
    go_roundw
    case rel=>exact⟨k+1,n5,aE,by go_num,HW5.out⟩
    case measure=>simp[intOf];omega
  · have Wf:Hid (tr w cs wr nd nm.length nc nm (.slice ad n ac) n (Rc.bA (Rc.aC pt++Rc.aQ nm.length++nm.flatMap Rc.aC))):=by
     have e0:nm.take k=nm:=List.take_of_length_le (by omega)
     rw[e0]at hW
     exact hW
    obtain⟨u0,u1,u2,_⟩:=yL.out wr hW.box
    obtain⟨wA,rfl⟩:∃x,x=wr:=⟨_,rfl⟩
    have QX:Hid (Calls Tryz.prog 59 #[.agg #[.string pt,.slice rd rn rc]] wA fun e w'=>∃qd qc,e=.returned (.slice qd 3 qc)∧Hid (tr w cs w' nd nm.length nc nm (.slice ad n ac) n (Rc.bA (Rc.aC pt++Rc.aQ nm.length++nm.flatMap Rc.aC))∧w'.ownsRow 0 112 2 (.slice qd 3 qc) 3 (aB gQ))):=tq.out wA _ _ _ _ _ Wf.out
    generalize Cn:Rc.aC pt++Rc.aQ nm.length++nm.flatMap Rc.aC=pre at HBD QX
    have aeo:pre.length≤10000000:=by
     have h9:=Ta.out nm.length
     rw[List.take_length,Cn]at h9
     exact h9
    clear hW HW Wf qE tq Ta Cn
    go_wp2_with (go_at_call 59;refine QX.out.mono ?_;rintro e w5 ⟨qd,qc,rfl,H5⟩)
    clear u0 u1 u2
    go_loopw [4,33] (fun b i wr=>∃(q n:Nat),q≤3∧i=.int .i64 q∧tr w cs wr nd nm.length nc nm b n (Rc.bA (pre++(gQ.take q).flatMap fun p=>Ex.facts kl gv p.1))∧Lib.OthersKept 5 none w5 wr) (fun _ i _=>3-(intOf i).toNat)
    case atStart=>exact⟨0,n,Nat.zero_le _,rfl,by simpa using H5.out.1,Lib.OthersKept.refl _ _ _⟩
    case round=>
     obtain⟨q,m,hq,rfl,hW,ho⟩:=hrel
     obtain⟨bd',bc,bL⟩:=ah hW.own
     subst bL
     have hm9:m≤20000000:=by
      have h1:=hW.len
      have h2:=jX (fun p:Pd.Pr=>Ex.facts kl gv p.1) 10000 (gQ.take q) (fun p _=>PF.out p.1)
      have h3:(gQ.take q).length≤3:=by rw[List.length_take];exact Nat.min_le_right _ _
      rw[Rc.bB,List.length_append]at h1
      omega
     have HW:Hid (tr w cs wr nd nm.length nc nm (.slice bd' m bc) m (Rc.bA (pre++(gQ.take q).flatMap fun p=>Ex.facts kl gv p.1))):=hW
     have HO:Hid (Lib.OthersKept 5 none w5 wr):=ho
     by_cases mP:q<3
     · have Ql:q<gQ.length:=mP
       obtain⟨g2,rfl,dM,uD,GV⟩:=aD (bJ H5.out.2 ho (by decide)) (by omega)
       have c0:=GV _ _ (aT gQ q Ql).1
       have c1:=GV _ _ (aT gQ q Ql).2
       have CB:((gQ[q]).1,(gQ[q]).2)∈gQ:=List.getElem_mem Ql
       have fS:Hid (Rc.bA (pre++(gQ.take (q+1)).flatMap fun p=>Ex.facts kl gv p.1)=Rc.bA (pre++(gQ.take q).flatMap fun p=>Ex.facts kl gv p.1)++Rc.bA (Ex.facts kl gv (gQ[q]).1)):=by
        have e0:gQ.take (q+1)=gQ.take q++[gQ[q]]:=by rw[List.take_add_one,List.getElem?_eq_getElem Ql];rfl
        have e1:Rc.bA (pre++(gQ.take (q+1)).flatMap fun p=>Ex.facts kl gv p.1)=Rc.bA (pre++(gQ.take q).flatMap fun p=>Ex.facts kl gv p.1)++Rc.bA (Ex.facts kl gv (gQ[q]).1):=by
         rw[e0,List.flatMap_append,←Rc.eU]
         simp
        exact e1
       generalize (gQ[q]).1=pn at c0 CB fS
       generalize (gQ[q]).2=pp at c1 CB
       obtain⟨wP,Ho⟩:∃wP,wP=wr.alloc (.cells #[.string pn,.int .i64 (pp:Nat)] 112):=⟨_,rfl⟩
       have Hz:Below wr.heap.size wr wP:=by rw[Ho];exact(Below.refl _ _).alloc (Nat.le_refl _) _
       have LB:wP.heap[wr.heap.size]?=some (.cells #[.string pn,.int .i64 (pp:Nat)] 112 (0,0)):=by rw[Ho];exact heap_alloc_new wr _
       have p0:wP.cell? ⟨wr.heap.size,0,none⟩=some (.string pn):=by rw[cell_of_row _ _ _ _ _ _ LB];rfl
       have p1:wP.cell? ⟨wr.heap.size,1,none⟩=some (.int .i64 (pp:Nat)):=by rw[cell_of_row _ _ _ _ _ _ LB];rfl
       have hWP:=hW.below Hz
       have mZ:=hWP.box
       have Tf:Hid (Calls Tryz.prog 79 #[.agg cs,.slice bd' m bc,.agg #[.string pn,.int .i64 (pp:Nat)],.slice nd nm.length nc] wP fun e w'=>∃v' n',e=.returned v'∧Hid (tr w cs w' nd nm.length nc nm v' n' (Rc.bA (pre++(gQ.take (q+1)).flatMap fun p=>Ex.facts kl gv p.1))∧Lib.OthersKept 5 none w5 w')):=by
        refine(zo.out wP _ _ _ _ _ pn pp hWP (by omega) CB).mono ?_
        rintro e w' ⟨v',n',rfl,H9⟩
        rw[fS.out]
        exact⟨v',n',rfl,H9.out.1,aP (aP HO.out (bS Hz)) H9.out.2⟩
       clear hW ho GV HW HO fS hWP zo yL CB
       go_upto_region 12 with fail
       rw[←Ho]
       clear Ho LB Hz
       go_wp2_with (first | (refine wpList_load_row rfl _ _ rfl w.heap.size rfl _ _ _ _ mZ Tryz.underlying107 rfl (by rw[hcz];kernel_rfl) ?_) | (go_at_call 79;refine Tf.out.mono ?_;rintro e w7 ⟨v7,n7,rfl,H7⟩))
       go_roundw
       case rel=>exact⟨q+1,n7,mP,by go_num,H7.out.1,H7.out.2⟩
       case measure=>simp[intOf];omega
     · have e0:gQ.take q=gQ:=List.take_of_length_le (by have:gQ.length=3:=rfl;omega)
       rw[e0,←HBD.out]at hW
       have Wf:Hid (tr w cs wr nd nm.length nc nm (.slice bd' m bc) m (Rc.bA bd)):=hW
       obtain⟨u0,u1,u2,u3⟩:=yL.out wr hW.box
       have cE:=hW.aZ.size
       have al:=hW.own
       have HU3:Hid (∀(j:Nat) u,(Rc.bA hd)[j]?=some u→wr.cell? ((⟨w.heap.size,4,none⟩:Addr).add j)=some u):=u3
       have Ff:(Rc.bA hd).length=32*1:=by rw[Rc.bB,bT]
       clear hW HW ho HO zo yL u0 u1 u3 H5
       go_wp2_with (at_builtin;refine wpList_append_own _ rfl (.tmp 43) (.tmp 45) 63 rfl w.heap.size 5 i0 _ 1 1 Tryz.underlying63 HI.out H0.out H1.out H2.out rfl (by decide) _ _ _ rfl al ⟨w.heap.size,4,none⟩ 32 32 (Rc.bA hd) rfl Ff HU3.out (Rc.po hd) (by unfold maxLen;omega) (by omega) (by omega) ?_;intro v9 w9 Ea Ch _;rw[←Rc.eU]at Ea;have Fq:=wh Ea (by intro e;have h8:=congrArg List.length e;rw[List.length_append,bT]at h8;simp at h8))
       have WY:Below w.heap.size w w9:=Wf.out.aZ.grown Ch cE (fun k hk=>(al.lt k hk).1)
       go_ret
       exact⟨rfl,WY⟩
theorem Fv{w:World}{B eg:Nat}{kl:List Ax.ay}{gv:Nat→Bool}{n:Nat}(hE:nP w B eg kl gv n)(hg:jk gv):∃hd:List UInt8,hd.length=32∧(∀W,Below w.heap.size w W→Calls Tryz.prog 23 #[.pointer (some ⟨eg,0,none⟩)] W fun e w'=>e=.returned (.string ⟨(Ex.body kl gv++hd).toArray⟩)∧Below W.heap.size W w')∧∃pl rv gm hm lv,w.heap[eg]?=some (.cells (bE pl rv gm hm hd lv) 109 (0,0)):=by
 obtain⟨rd,rn,rc,gm,hm,hd,lv,Z1,bT,hS0⟩:=K7 hE hg
 refine⟨hd,bT,fun W hW=> ?_,_,_,_,_,_,Z1⟩
 have eb:W.heap[eg]?=some (.cells (bE (Ax.au kl) (.slice rd rn rc) gm hm hd lv) 109 (0,0)):=by rw[hW.block _ (lt_of_heap Z1)];exact Z1
 have hS:=hS0.below hW
 have lj:(Ax.au kl).size≤100000:=Nat.le_trans (Ax.ji kl) (by decide)
 have HB:Hid (Calls Tryz.prog 44 #[.agg (aO (Ax.au kl) (.slice rd rn rc) gm hm hd)] W fun e w'=>e=.returned (.string ⟨(Ex.body kl gv++hd).toArray⟩)∧Below W.heap.size W w'):=zX W kl gv rd rn rc gm hm hd bT lj hS
 have hr:W.rangeAt eg 0 ([Value.string (Ax.au kl),.slice rd rn rc,.map (some gm),.map (some hm)]++Rc.bA hd):=by
  intro j v hv
  rw[cell_of_row _ _ _ _ _ _ eb,Nat.zero_add]
  unfold bE
  rw[List.getElem?_toArray,List.getElem?_append_left ?_]
  · exact hv
  · exact(List.getElem?_eq_some_iff.1 hv).1
 have hl:(Tryz.prog.info? 107).map (·.size)=some ([Value.string (Ax.au kl),.slice rd rn rc,.map (some gm),.map (some hm)]++Rc.bA hd).length:=by
  rw[List.length_append,Rc.bB,bT]
  kernel_rfl
 have MH:=lt_of_heap eb
 clear hE eb Z1 hS hS0 hW
 go_enter Tryz.func23,Tryz.ntmps23
 go_wp2_with (first | (refine wpList_load_mid rfl _ _ rfl eg 0 rfl _ _ hr Tryz.underlying107 rfl hl ?_) | (go_at_call 44;refine HB.out.mono ?_;rintro e w1 ⟨rfl,a8⟩))
 go_ret
 exact⟨rfl,a8⟩
theorem vM(kl:List Ax.ay)(gv:Nat→Bool):(Ex.body kl gv).length≤10000000:=by
 unfold Ex.body
 have h1:=Rc.gU Rc.aC 1010 (Ex.jC (En.ak (En.aj kl) gv)) (fun a ha=>Rc.iI a (wo _ a ha))
 have h2:=Ex.sr (En.ak (En.aj kl) gv)
 have h3:=jX (fun p:Pd.Pr=>Ex.facts kl gv p.1) 10000 gQ (fun p _=>rz kl gv p.1)
 have h4:gQ.length=3:=rfl
 have h5:(Rc.aQ (Ex.jC (En.ak (En.aj kl) gv)).length).length≤10:=iD (by omega)
 have h6:=Rc.iI (Ax.au kl) (Nat.le_trans (Ax.ji kl) (by decide))
 simp only[List.length_append]
 omega
end
/- encode.Reader: the first number of some bytes. -/
section
open Go.RowKit
namespace Rd
def go:Nat→Nat→List UInt8→Nat→Nat×Nat
 | 0,_,_,_=>(0,0)
 | _+1,_,[],_=>(0,0)
 | k+1,i,b::l,acc=>if b.toNat=0∧0<i then (0,0)else if b.toNat<128 then (acc+b.toNat*128^i,i+1)else go k (i+1) l (acc+(b.toNat-128)*128^i)
def first(l:List UInt8):Nat×Nat:=go 4 0 l 0
theorem Rl:∀x:Fin 256,bits .and .u8 ((x.1:Nat):Int) 127=((x.1%128:Nat):Int):=by decide+kernel
theorem R0:∀x:Fin 256,bits .and .u8 ((x.1:Nat):Int) 128=if x.1<128 then 0 else 128:=by decide+kernel
theorem ac0(a b:Nat)(ha:a<4611686018427387904)(hb:b<4611686018427387904):bits .or .i64 (a:Int) (b:Int)=((a|||b:Nat):Int):=by
 have pI:a|||b<2^62:=Nat.or_lt_two_pow ha hb
 have e:(BitVec.ofInt 64 (a:Int)|||BitVec.ofInt 64 (b:Int)).toNat=a|||b:=by
  rw[BitVec.toNat_or]
  have h1:∀m:Nat,m<4611686018427387904→(BitVec.ofInt 64 (m:Int)).toNat=m:=by
   intro m hm
   rw[BitVec.ofInt_natCast,BitVec.toNat_ofNat]
   omega
  rw[h1 a ha,h1 b hb]
 show IntKind.i64.wrap (((BitVec.ofInt 64 (a:Int)|||BitVec.ofInt 64 (b:Int)).toNat:Nat):Int)=_
 rw[e]
 generalize a|||b=c at pI
 simp[IntKind.wrap,IntKind.bits,IntKind.signed]
 omega
theorem BB{a k:Nat}(h:a<2^k)(x:Nat):a|||x*2^k=a+x*2^k:=by
 have h1:=Nat.shiftLeft_add_eq_or_of_lt h x
 rw[Nat.shiftLeft_eq]at h1
 rw[Nat.or_comm,←h1,Nat.add_comm]
end Rd
theorem uX(w:World)(l:List UInt8)(hl:l.length≤1000000000):
 Calls Tryz.prog 204 #[.string ⟨l.toArray⟩] w fun e w'=>e=.returned (.tuple #[.int .i64 ((Rd.first l).1:Nat),.int .i64 ((Rd.first l).2:Nat)])∧w'=w:=by
 obtain⟨s,hs⟩:∃s:ByteArray,s=⟨l.toArray⟩:=⟨_,rfl⟩
 have cE:s.size=l.length:=by rw[hs];rfl
 have YQ:∀(i:Nat) (h:i<s.size) (h':i<l.length),(s[i]'h).toNat=(l[i]'h').toNat:=by
  intro i h h'
  subst hs
  rfl
 obtain⟨M,hM⟩:∃M,M=min l.length 4:=⟨_,rfl⟩
 have Xo:(if (4:Int)<(l.length:Int)then (4:Int)else (l.length:Int))=(M:Int):=by
  split<;>omega
 rw[←hs]
 clear hs
 generalize hR:Rd.first l=R
 have HR:Hid (Rd.first l=R):=hR
 clear hR
 have HG:Hid (∀(i:Nat) (h:i<s.size) (h':i<l.length),(s[i]'h).toNat=(l[i]'h').toNat):=YQ
 clear YQ
 go_enter Tryz.func204,Tryz.ntmps204
 go_wp2_with fail
 go_loopw [4,10] (fun a i wr=>∃(k x:Nat),k≤M∧i=.int .i64 k∧a=.int .i64 x∧x<128^k∧Rd.go (4-k) k (l.drop k) x=R∧wr=w) (fun _ i _=>M-(intOf i).toNat)
 case atStart=>exact⟨0,0,Nat.zero_le _,rfl,rfl,by decide,HR.out,rfl⟩
 case round=>
  obtain⟨k,x,hk,rfl,rfl,hx,jE,hw⟩:=hrel
  subst hw
  clear HR
  by_cases aE:k<M
  · have Cz:k<l.length:=by omega
    have hk4:k<4:=by omega
    have D9:(l[k]).toNat<256:=(l[k]).toNat_lt
    have hd:l.drop k=l[k]::l.drop (k+1):=List.drop_eq_getElem_cons Cz
    rw[hd,show 4-k=(4-(k+1))+1 by omega]at jE
    simp only[Rd.go]at jE
    have hsk:k<s.size:=by omega
    have hb:=HG.out k hsk Cz
    generalize l[k]=bb at jE D9 hb
    generalize Z7:bb.toNat=b at jE D9 hb
    clear Z7 hd bb
    have UR:=Rd.Rl ⟨b,D9⟩
    have Ww:=Rd.R0 ⟨b,D9⟩
    simp only at UR Ww
    have Mc:∀c:Nat,c≤21→bits .or .i64 (x:Int) (((b%128)*2^c:Nat):Int)=((x|||(b%128)*2^c:Nat):Int):=by
     intro c hc
     have h9:2^c≤2^21:=Nat.pow_le_pow_right (by decide) hc
     have h8:(128:Nat)^k≤128^3:=Nat.pow_le_pow_right (by decide) (by omega)
     have h7:(b%128)*2^c≤127*2^21:=Nat.mul_le_mul (by omega) h9
     exact Rd.ac0 _ _ (by omega) (by omega)
    have h4:k=0∨k=1∨k=2∨k=3:=by omega
    clear HG
    have ha3:bits .and .u8 (0:Int) 127=0:=by decide
    have Z5:bits .and .u8 (0:Int) 128=0:=by decide
    rcases h4 with rfl | rfl | rfl | rfl
    · have ZF:(0:Int)<min (l.length:Int) 4:=by omega
      rw[if_neg (fun h=>absurd h.2 (by decide))]at jE
      have hOr:bits .or .i64 (x:Int) ((b:Int)%128)=((x+b%128*1:Nat):Int):=by
       have h9:=Mc 0 (by decide)
       rw[Rd.BB (by simpa using hx)]at h9
       simpa using h9
      clear Mc
      by_cases GQ:b<128
      · have HE:Hid (R=(x+b%128*1,1)):=by
         rw[if_pos GQ]at jE
         rw[Nat.mod_eq_of_lt GQ]
         exact jE.symm
        clear jE
        generalize x+b%128*1=y at HE hOr
        go_wp2_with fail
        all_goals
         (go_ret2
          rw[HE.out]
          exact⟨rfl,rfl⟩)
      · have HE:Hid (x+b%128*1<128^1∧Rd.go 3 1 (l.drop 1) (x+b%128*1)=R):=by
         rw[if_neg GQ]at jE
         have h9:b-128=b%128:=by omega
         rw[h9]at jE
         have h8:x<1:=by simpa using hx
         have h7:(128:Nat)^1=128:=by decide
         exact⟨by omega,jE⟩
        clear jE
        generalize x+b%128*1=y at HE hOr
        go_wp2_with fail
        all_goals
         (go_roundw
          case rel=>exact⟨1,y,by omega,rfl,rfl,HE.out.1,HE.out.2,trivial⟩
          case measure=>(simp[intOf];omega))
    · have ZF:(1:Int)<min (l.length:Int) 4:=by omega
      by_cases bL:b=0
      · have HE:Hid (R=(0,0)):=by
         rw[if_pos ⟨bL,by decide⟩]at jE
         exact jE.symm
        clear jE Mc UR Ww
        go_wp2_with fail
        go_ret2
        rw[HE.out]
        exact⟨rfl,rfl⟩
      · rw[if_neg (fun h=>bL h.1)]at jE
        have hOr:bits .or .i64 (x:Int) ((b:Int)%128*128)=((x+b%128*128:Nat):Int):=by
         have h9:=Mc 7 (by decide)
         rw[Rd.BB (by simpa using hx)]at h9
         simpa using h9
        clear Mc
        by_cases GQ:b<128
        · have HE:Hid (R=(x+b%128*128,2)):=by
           rw[if_pos GQ]at jE
           rw[Nat.mod_eq_of_lt GQ]
           exact jE.symm
          clear jE
          generalize x+b%128*128=y at HE hOr
          go_wp2_with fail
          all_goals
           (go_ret2
            rw[HE.out]
            exact⟨rfl,rfl⟩)
        · have HE:Hid (x+b%128*128<128^2∧Rd.go 2 2 (l.drop 2) (x+b%128*128)=R):=by
           rw[if_neg GQ]at jE
           have h9:b-128=b%128:=by omega
           rw[h9]at jE
           have h8:x<128:=by simpa using hx
           have h7:(128:Nat)^2=16384:=by decide
           exact⟨by omega,jE⟩
          clear jE
          generalize x+b%128*128=y at HE hOr
          go_wp2_with fail
          all_goals
           (go_roundw
            case rel=>exact⟨2,y,by omega,rfl,rfl,HE.out.1,HE.out.2,trivial⟩
            case measure=>(simp[intOf];omega))
    · have ZF:(2:Int)<min (l.length:Int) 4:=by omega
      by_cases bL:b=0
      · have HE:Hid (R=(0,0)):=by
         rw[if_pos ⟨bL,by decide⟩]at jE
         exact jE.symm
        clear jE Mc UR Ww
        go_wp2_with fail
        go_ret2
        rw[HE.out]
        exact⟨rfl,rfl⟩
      · rw[if_neg (fun h=>bL h.1)]at jE
        have hOr:bits .or .i64 (x:Int) ((b:Int)%128*16384)=((x+b%128*16384:Nat):Int):=by
         have h9:=Mc 14 (by decide)
         rw[Rd.BB (by simpa using hx)]at h9
         simpa using h9
        clear Mc
        by_cases GQ:b<128
        · have HE:Hid (R=(x+b%128*16384,3)):=by
           rw[if_pos GQ]at jE
           rw[Nat.mod_eq_of_lt GQ]
           exact jE.symm
          clear jE
          generalize x+b%128*16384=y at HE hOr
          go_wp2_with fail
          all_goals
           (go_ret2
            rw[HE.out]
            exact⟨rfl,rfl⟩)
        · have HE:Hid (x+b%128*16384<128^3∧Rd.go 1 3 (l.drop 3) (x+b%128*16384)=R):=by
           rw[if_neg GQ]at jE
           have h9:b-128=b%128:=by omega
           rw[h9]at jE
           have h8:x<16384:=by simpa using hx
           have h7:(128:Nat)^3=2097152:=by decide
           exact⟨by omega,jE⟩
          clear jE
          generalize x+b%128*16384=y at HE hOr
          go_wp2_with fail
          all_goals
           (go_roundw
            case rel=>exact⟨3,y,by omega,rfl,rfl,HE.out.1,HE.out.2,trivial⟩
            case measure=>(simp[intOf];omega))
    · have ZF:(3:Int)<min (l.length:Int) 4:=by omega
      by_cases bL:b=0
      · have HE:Hid (R=(0,0)):=by
         rw[if_pos ⟨bL,by decide⟩]at jE
         exact jE.symm
        clear jE Mc UR Ww
        go_wp2_with fail
        go_ret2
        rw[HE.out]
        exact⟨rfl,rfl⟩
      · rw[if_neg (fun h=>bL h.1)]at jE
        have hOr:bits .or .i64 (x:Int) ((b:Int)%128*2097152)=((x+b%128*2097152:Nat):Int):=by
         have h9:=Mc 21 (by decide)
         rw[Rd.BB (by simpa using hx)]at h9
         simpa using h9
        clear Mc
        by_cases GQ:b<128
        · have HE:Hid (R=(x+b%128*2097152,4)):=by
           rw[if_pos GQ]at jE
           rw[Nat.mod_eq_of_lt GQ]
           exact jE.symm
          clear jE
          generalize x+b%128*2097152=y at HE hOr
          go_wp2_with fail
          all_goals
           (go_ret2
            rw[HE.out]
            exact⟨rfl,rfl⟩)
        · have HE:Hid (x+b%128*2097152<128^4∧Rd.go 0 4 (l.drop 4) (x+b%128*2097152)=R):=by
           rw[if_neg GQ]at jE
           have h9:b-128=b%128:=by omega
           rw[h9]at jE
           have h8:x<2097152:=by simpa using hx
           have h7:(128:Nat)^4=268435456:=by decide
           exact⟨by omega,jE⟩
          clear jE
          generalize x+b%128*2097152=y at HE hOr
          go_wp2_with fail
          all_goals
           (go_roundw
            case rel=>exact⟨4,y,by omega,rfl,rfl,HE.out.1,HE.out.2,trivial⟩
            case measure=>(simp[intOf];omega))
  · have HE:Hid (R=(0,0)):=by
     have h9:R=(0,0):=by
      rw[←jE]
      by_cases h4:k=4
      · subst h4
        rfl
      · rw[List.drop_eq_nil_of_le (by omega),show 4-k=(3-k)+1 by omega]
        rfl
     exact h9
    clear jE HG
    go_wp2_with fail
    go_ret2
    rw[HE.out]
    exact⟨rfl,rfl⟩
end
end Go.Proofs.YtdmicblafmhflaaGreatDoor
