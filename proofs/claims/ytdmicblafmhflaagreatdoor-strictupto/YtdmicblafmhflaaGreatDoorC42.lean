/- state.State.Bytes of any state, walked. -/
import Derived.Test.YtdmicblafmhflaaGreatDoorC41
import Derived.Test.YtdmicblafmhflaaGreatDoorC01
set_option linter.unusedSimpArgs false
set_option linter.unusedVariables false
set_option maxHeartbeats 4000000
set_option maxRecDepth 100000
namespace Go.Proofs.YtdmicblafmhflaaGreatDoor
section
open Go.Shelf Go.RowKit Go.Maps
theorem Gs.Fo{D:Gs.St}(h:Gs.Ok D){p:Pd.Pr}(hp:p∈D.Q):(Gs.facts D p.1).length≤30000:=by
 unfold Gs.facts
 have h1:=h.oo p hp
 have h2:=nb (Gs.fact D p.1) 100 (D.hold p.1) (fun x hx=>Gs.Jg h (pn:=p.1) (pp:=p.2) hp hx)
 have h3:(Rc.aV (D.hold p.1).length).length≤10:=Gs.kN (by omega)
 rw[List.length_append]
 omega
theorem Gs.RJ{D:Gs.St}(h:Gs.Ok D):(Gs.body D).length≤10000000:=by
 unfold Gs.body
 have h1:=Rc.jA Rc.aL 1010 (Gs.iJ D) (fun a ha=>Rc.iV a (Gs.tw h ha))
 have h2:=Gs.px h
 have h3:=nb (fun p:Pd.Pr=>Gs.facts D p.1) 30000 D.Q (fun p hp=>Gs.Fo h hp)
 have h4:=h.qs
 have h5:(Rc.aV (Gs.iJ D).length).length≤10:=Gs.kN (by omega)
 have h6:=Rc.iV D.pl (Nat.le_trans h.plz (by decide))
 simp only[List.length_append]
 omega
theorem Gs.Bl(w:World)(D:Gs.St)(hD:Gs.Ok D)(rd:Option Addr)(rn rc gm hm:Nat)(hd:List UInt8)(cN:hd.length=32)(hS:Gs.zW w D (.slice rd rn rc) gm hm):
 Calls Tryz.prog 44 #[.agg (aI D.pl (.slice rd rn rc) gm hm hd)] w fun e w'=>e=.returned (.string ⟨(Gs.body D++hd).toArray⟩)∧Below w.heap.size w w':=by
 have lu:D.pl.size≤100000:=Nat.le_trans hD.plz (by decide)
 have Wb:=hD.qs
 obtain⟨i0,kP,eX,eP,eA⟩:=info_parts Tryz.kX
 have HI:Hid (Tryz.prog.info? 5=some i0):=kP
 have H0:Hid (i0.zero=some (.int .u8 0)):=eX
 have H1:Hid (i0.size=1):=eP
 have H2:Hid (i0.bytes=1):=eA
 clear kP eX eP eA
 have HS:Hid (Gs.zW w D (.slice rd rn rc) gm hm):=hS
 obtain⟨cs,bA⟩:∃cs,cs=aI D.pl (.slice rd rn rc) gm hm hd:=⟨_,rfl⟩
 have hcz:cs.size=36:=by rw[bA];exact aQ _ _ _ _ cN
 obtain⟨wB,PM⟩:∃wB,wB=w.alloc (.cells cs 107):=⟨_,rfl⟩
 have GB:Below w.heap.size w wB:=by rw[PM];exact(Below.refl _ _).alloc (Nat.le_refl _) _
 have Ia:wB.heap[w.heap.size]?=some (.cells cs 107 (0,0)):=by rw[PM];exact heap_alloc_new w _
 have zN:Hid (∀W:World,W.heap[w.heap.size]?=some (.cells cs 107 (0,0))→W.cell? ⟨w.heap.size,0,none⟩=some (.string D.pl)∧W.cell? ⟨w.heap.size,1,none⟩=some (.slice rd rn rc)∧w.heap.size<W.heap.size∧∀(j:Nat) u,(Rc.bB hd)[j]?=some u→W.cell? ((⟨w.heap.size,4,none⟩:Addr).add j)=some u):=by
  intro W hW
  refine⟨by rw[cell_of_row _ _ _ _ _ _ hW,bA];rfl,by rw[cell_of_row _ _ _ _ _ _ hW,bA];rfl,lt_of_heap hW, ?_⟩
  intro j u hu
  rw[Addr.add_mid,cell_of_row _ _ _ _ _ _ hW,bA]
  unfold aI
  rw[List.getElem?_toArray,List.getElem?_append_right (by simp)]
  simpa using hu
 generalize hN:Gs.iJ D=nm
 have ac6:nm.length≤3600:=by rw[←hN];exact Gs.px hD
 have ML:Hid (∀x,x∈nm→x.size≤1000):=by rw[←hN];exact fun x hx=>Gs.tw hD hx
 have BW:Hid (Calls Tryz.prog 76 #[.agg cs] wB fun e w1=>∃nd nc,e=.returned (.slice nd nm.length nc)∧Hid (tz w cs w1 nd nm.length nc nm (.slice none 0 0) 0 [])):=by
  have h9:=Gs.Lr wB D hD rd rn rc gm hm hd (hS.below GB)
  rw[←bA,hN]at h9
  refine h9.mono ?_
  rintro e w1 ⟨nd,nc,rfl,q1,q2⟩
  exact⟨nd,nc,rfl,World.ownsRow_nil _ _ _ _,GB.trans (q2.mono GB.size),by rw[q2.block _ (lt_of_heap Ia)];exact Ia,aN q1 (Nat.zero_le _)⟩
 have zS:Hid (∀W nd nc v n xs t,tz w cs W nd nm.length nc nm v n xs→n≤1000000000→t.size≤100000→Calls Tryz.prog 77 #[v,.string t] W fun e w'=>∃v' n',e=.returned v'∧Hid (tz w cs w' nd nm.length nc nm v' n' (xs++Rc.bB (Rc.aL t))∧Lib.OthersKept 5 none W w')):=by
  intro W nd nc v n xs t h hn ht
  refine(kC w.heap.size W v n xs t h.own h.be.size (by omega) (by omega)).mono ?_
  rintro e w' ⟨v',n',rfl,q1,q2,q3⟩
  exact⟨v',n',rfl,h.step q1 q2 q3,q3⟩
 have Fy:Hid (∀W nd nc v n xs k,tz w cs W nd nm.length nc nm v n xs→n≤1000000000→k≤100000→Calls Tryz.prog 78 #[v,.int .i64 (k:Nat)] W fun e w'=>∃v' n',e=.returned v'∧Hid (tz w cs w' nd nm.length nc nm v' n' (xs++Rc.bB (Rc.aV k)))):=by
  intro W nd nc v n xs k h hn hk
  refine(dH w.heap.size W v n xs k h.own h.be.size (by omega) (by omega)).mono ?_
  rintro e w' ⟨v',n',rfl,q1,q2,q3⟩
  exact⟨v',n',rfl,h.step q1 q2 q3⟩
 have AJ:Hid (∀W nd nc v n xs,tz w cs W nd nm.length nc nm v n xs→Calls Tryz.prog 59 #[.agg #[.string D.pl,.slice rd rn rc]] W fun e w'=>∃qd qc,e=.returned (.slice qd D.Q.length qc)∧Hid (tz w cs w' nd nm.length nc nm v n xs∧w'.ownsRow 0 112 2 (.slice qd D.Q.length qc) D.Q.length (au D.Q))):=by
  intro W nd nc v n xs h
  refine(hS.cD W h.be).mono ?_
  rintro e w' ⟨qd,qc,rfl,q1,q2⟩
  exact⟨qd,qc,rfl,h.below q2,aN q1 (Nat.zero_le _)⟩
 have FJ:Hid (∀W nd nc v n xs pn pp,tz w cs W nd nm.length nc nm v n xs→n≤1000000000→(pn,pp)∈D.Q→Calls Tryz.prog 79 #[.agg cs,v,.agg #[.string pn,.int .i64 (pp:Nat)],.slice nd nm.length nc] W fun e w'=>∃v' n',e=.returned v'∧Hid (tz w cs w' nd nm.length nc nm v' n' (xs++Rc.bB (Gs.facts D pn))∧Lib.OthersKept 5 none W w')):=by
  intro W nd nc v n xs pn pp h hn hp
  have h9:=Gs.Hk w D hD rd rn rc gm hm hd hS W h.be v n xs h.own (by omega) pn pp hp nd nm.length nc (by rw[hN];exact h.WT)
  rw[←bA]at h9
  refine h9.mono ?_
  rintro e w' ⟨v',n',rfl,q⟩
  exact⟨v',n',rfl,h.step q.own q.be q.Ft,q.Ft⟩
 have HBD:Hid (Gs.body D=Rc.aL D.pl++Rc.aV nm.length++nm.flatMap Rc.aL++D.Q.flatMap fun p=>Gs.facts D p.1):=by
  have e:Gs.body D=Rc.aL D.pl++Rc.aV nm.length++nm.flatMap Rc.aL++D.Q.flatMap fun p=>Gs.facts D p.1:=by
   unfold Gs.body
   rw[hN]
  exact e
 have Tn:Hid (∀p,p∈D.Q→(Gs.facts D p.1).length≤30000):=fun p hp=>Gs.Fo hD hp
 generalize Gs.body D=bd at HBD ⊢
 generalize D.pl=pt at*
 obtain⟨t0,t1,t2,t3⟩:=zN.out wB Ia
 have WK:(Rc.aL pt).length≤100010:=by
  unfold Rc.aL
  have h9:(Rc.aV pt.size).length≤10:=Rc.mC 10 _ (by
   have:(128:Nat)^10=1180591620717411303424:=by decide
   omega) (by decide)
  rw[List.length_append]
  simp
  omega
 have Cl:(Rc.aV nm.length).length≤10:=kN (by omega)
 rw[←bA]
 clear bA hS hN GB t3
 go_enter Tryz.func44,Tryz.ntmps44
 go_upto_region 1 with fail
 rw[←PM]
 clear PM
 go_wp2_with (first | (refine wpList_load_row rfl _ _ rfl w.heap.size rfl _ _ _ _ Ia Tryz.underlying107 rfl (by rw[hcz];kernel_rfl) ?_) | (go_at_call 76;refine BW.out.mono ?_;rintro e w1 ⟨nd,nc,rfl,MI⟩;obtain⟨u0,u1,u2,_⟩:=zN.out w1 MI.out.box) | (go_at_call 77;refine(zS.out _ _ _ _ _ _ _ MI.out (by omega) lu).mono ?_;rintro e w2 ⟨v2,n2,rfl,HW2⟩;have FK:n2≤1000000:=(by have h9:=HW2.out.1.len;rw[List.nil_append,Rc.bC]at h9;omega)) | (go_at_call 78;refine(Fy.out _ _ _ _ _ _ _ HW2.out.1 (by omega) (by omega)).mono ?_;rintro e w3 ⟨v3,n3,rfl,HW3⟩))
 have HW4:Hid (tz w cs w3 nd nm.length nc nm v3 n3 (Rc.bB (Rc.aL pt++Rc.aV nm.length++(nm.take 0).flatMap Rc.aL))):=by
  have h9:=HW3.out
  have e:[]++Rc.bB (Rc.aL pt)++Rc.bB (Rc.aV nm.length)=Rc.bB (Rc.aL pt++Rc.aV nm.length++(nm.take 0).flatMap Rc.aL):=by simp[Rc.bB]
  rw[e]at h9
  exact h9
 clear BW MI HW2 HW3 u0 u1 u2 t0 t1 t2 Fy Ia
 have TL:Hid (∀k,(Rc.aL pt++Rc.aV nm.length++(nm.take k).flatMap Rc.aL).length≤10000000):=by
  intro k
  have h1:=Rc.jA Rc.aL 1010 (nm.take k) (fun a ha=>Rc.iV a (ML.out a (List.mem_of_mem_take ha)))
  have h2:(nm.take k).length≤3600:=by rw[List.length_take];omega
  rw[List.length_append,List.length_append]
  omega
 go_loopw [4,21] (fun b i wr=>∃(k n:Nat),k≤nm.length∧i=.int .i64 k∧tz w cs wr nd nm.length nc nm b n (Rc.bB (Rc.aL pt++Rc.aV nm.length++(nm.take k).flatMap Rc.aL))) (fun _ i _=>nm.length-(intOf i).toNat)
 case atStart=>exact⟨0,n3,Nat.zero_le _,rfl,HW4.out⟩
 case round=>
  obtain⟨k,n,hk,rfl,hW⟩:=hrel
  obtain⟨ad,ac,Jq⟩:=ah hW.own
  subst Jq
  clear HW4
  have hn9:n≤10000000:=by
   have h1:=hW.len
   have h2:=TL.out k
   rw[Rc.bC]at h1
   omega
  have HW:Hid (tz w cs wr nd nm.length nc nm (.slice ad n ac) n (Rc.bB (Rc.aL pt++Rc.aV nm.length++(nm.take k).flatMap Rc.aL))):=hW
  by_cases aC:k<nm.length
  · obtain⟨g,rfl,hg,hc,bA⟩:=ax hW.WT (by omega)
    have ca:wr.cell? ⟨g,k,none⟩=some (.string nm[k]):=bA k _ (by rw[strCells,List.getElem?_map,List.getElem?_eq_getElem aC];rfl)
    have gG:Hid (Rc.bB (Rc.aL pt++Rc.aV nm.length++(nm.take (k+1)).flatMap Rc.aL)=Rc.bB (Rc.aL pt++Rc.aV nm.length++(nm.take k).flatMap Rc.aL)++Rc.bB (Rc.aL nm[k])):=by
     have e0:nm.take (k+1)=nm.take k++[nm[k]]:=by rw[List.take_add_one,List.getElem?_eq_getElem aC];rfl
     have e1:Rc.bB (Rc.aL pt++Rc.aV nm.length++(nm.take (k+1)).flatMap Rc.aL)=Rc.bB (Rc.aL pt++Rc.aV nm.length++(nm.take k).flatMap Rc.aL)++Rc.bB (Rc.aL nm[k]):=by
      rw[e0,List.flatMap_append,←Rc.gq]
      simp
     exact e1
    have cr:(nm[k]).size≤100000:=Nat.le_trans (ML.out _ (List.getElem_mem aC)) (by decide)
    generalize nm[k]=y at ca gG cr
    have HT2:Hid (Calls Tryz.prog 77 #[.slice ad n ac,.string y] wr fun e w'=>∃v' n',e=.returned v'∧Hid (tz w cs w' (some ⟨g,0,none⟩) nm.length nc nm v' n' (Rc.bB (Rc.aL pt++Rc.aV nm.length++(nm.take (k+1)).flatMap Rc.aL)))):=by
     refine(zS.out wr _ _ _ _ _ y hW (by omega) cr).mono ?_
     rintro e w' ⟨v',n',rfl,H9⟩
     rw[gG.out]
     exact⟨v',n',rfl,H9.out.1⟩
    clear hW bA HW zS FJ AJ gG zN
    go_wp2_with (go_at_call 77;refine HT2.out.mono ?_;rintro e w5 ⟨v5,n5,rfl,HW5⟩)
    go_roundw
    case rel=>exact⟨k+1,n5,aC,by go_num,HW5.out⟩
    case measure=>simp[intOf];omega
  · have W6:Hid (tz w cs wr nd nm.length nc nm (.slice ad n ac) n (Rc.bB (Rc.aL pt++Rc.aV nm.length++nm.flatMap Rc.aL))):=by
     have e0:nm.take k=nm:=List.take_of_length_le (by omega)
     rw[e0]at hW
     exact hW
    obtain⟨u0,u1,u2,_⟩:=zN.out wr hW.box
    obtain⟨wA,rfl⟩:∃x,x=wr:=⟨_,rfl⟩
    have Vt:Hid (Calls Tryz.prog 59 #[.agg #[.string pt,.slice rd rn rc]] wA fun e w'=>∃qd qc,e=.returned (.slice qd D.Q.length qc)∧Hid (tz w cs w' nd nm.length nc nm (.slice ad n ac) n (Rc.bB (Rc.aL pt++Rc.aV nm.length++nm.flatMap Rc.aL))∧w'.ownsRow 0 112 2 (.slice qd D.Q.length qc) D.Q.length (au D.Q))):=AJ.out wA _ _ _ _ _ W6.out
    generalize CY:Rc.aL pt++Rc.aV nm.length++nm.flatMap Rc.aL=pre at HBD Vt
    have afO:pre.length≤10000000:=by
     have h9:=TL.out nm.length
     rw[List.take_length,CY]at h9
     exact h9
    clear hW HW W6 zS AJ TL CY
    go_wp2_with (go_at_call 59;refine Vt.out.mono ?_;rintro e w5 ⟨qd,qc,rfl,H5⟩)
    clear u0 u1 u2
    go_loopw [4,33] (fun b i wr=>∃(q n:Nat),q≤D.Q.length∧i=.int .i64 q∧tz w cs wr nd nm.length nc nm b n (Rc.bB (pre++(D.Q.take q).flatMap fun p=>Gs.facts D p.1))∧Lib.OthersKept 5 none w5 wr) (fun _ i _=>D.Q.length-(intOf i).toNat)
    case atStart=>exact⟨0,n,Nat.zero_le _,rfl,by simpa using H5.out.1,Lib.OthersKept.refl _ _ _⟩
    case round=>
     obtain⟨q,m,hq,rfl,hW,ho⟩:=hrel
     obtain⟨bd',bc,bK⟩:=ah hW.own
     subst bK
     have hm9:m≤20000000:=by
      have h1:=hW.len
      have h2:=nb (fun p:Pd.Pr=>Gs.facts D p.1) 30000 (D.Q.take q) (fun p hp=>Tn.out p (List.mem_of_mem_take hp))
      have h3:(D.Q.take q).length≤6:=by rw[List.length_take];omega
      rw[Rc.bC,List.length_append]at h1
      omega
     have HW:Hid (tz w cs wr nd nm.length nc nm (.slice bd' m bc) m (Rc.bB (pre++(D.Q.take q).flatMap fun p=>Gs.facts D p.1))):=hW
     have HO:Hid (Lib.OthersKept 5 none w5 wr):=ho
     by_cases pw:q<D.Q.length
     · have Qy:q<D.Q.length:=pw
       obtain⟨g2,rfl,dL,uw,Hs⟩:=ax (bD H5.out.2 ho (by decide)) (by omega)
       have c0:=Hs _ _ (aU D.Q q Qy).1
       have c1:=Hs _ _ (aU D.Q q Qy).2
       have Fe:((D.Q[q]).1,(D.Q[q]).2)∈D.Q:=List.getElem_mem Qy
       have gG:Hid (Rc.bB (pre++(D.Q.take (q+1)).flatMap fun p=>Gs.facts D p.1)=Rc.bB (pre++(D.Q.take q).flatMap fun p=>Gs.facts D p.1)++Rc.bB (Gs.facts D (D.Q[q]).1)):=by
        have e0:D.Q.take (q+1)=D.Q.take q++[D.Q[q]]:=by rw[List.take_add_one,List.getElem?_eq_getElem Qy];rfl
        have e1:Rc.bB (pre++(D.Q.take (q+1)).flatMap fun p=>Gs.facts D p.1)=Rc.bB (pre++(D.Q.take q).flatMap fun p=>Gs.facts D p.1)++Rc.bB (Gs.facts D (D.Q[q]).1):=by
         rw[e0,List.flatMap_append,←Rc.gq]
         simp
        exact e1
       generalize (D.Q[q]).1=pn at c0 Fe gG
       generalize (D.Q[q]).2=pp at c1 Fe
       obtain⟨wP,IV⟩:∃wP,wP=wr.alloc (.cells #[.string pn,.int .i64 (pp:Nat)] 112):=⟨_,rfl⟩
       have IU:Below wr.heap.size wr wP:=by rw[IV];exact(Below.refl _ _).alloc (Nat.le_refl _) _
       have LQ:wP.heap[wr.heap.size]?=some (.cells #[.string pn,.int .i64 (pp:Nat)] 112 (0,0)):=by rw[IV];exact heap_alloc_new wr _
       have p0:wP.cell? ⟨wr.heap.size,0,none⟩=some (.string pn):=by rw[cell_of_row _ _ _ _ _ _ LQ];rfl
       have p1:wP.cell? ⟨wr.heap.size,1,none⟩=some (.int .i64 (pp:Nat)):=by rw[cell_of_row _ _ _ _ _ _ LQ];rfl
       have hWP:=hW.below IU
       have nG:=hWP.box
       have Lp:Hid (Calls Tryz.prog 79 #[.agg cs,.slice bd' m bc,.agg #[.string pn,.int .i64 (pp:Nat)],.slice nd nm.length nc] wP fun e w'=>∃v' n',e=.returned v'∧Hid (tz w cs w' nd nm.length nc nm v' n' (Rc.bB (pre++(D.Q.take (q+1)).flatMap fun p=>Gs.facts D p.1))∧Lib.OthersKept 5 none w5 w')):=by
        refine(FJ.out wP _ _ _ _ _ pn pp hWP (by omega) Fe).mono ?_
        rintro e w' ⟨v',n',rfl,H9⟩
        rw[gG.out]
        exact⟨v',n',rfl,H9.out.1,aJ (aJ HO.out (bR IU)) H9.out.2⟩
       clear hW ho Hs HW HO gG hWP FJ zN Fe
       go_upto_region 12 with fail
       rw[←IV]
       clear IV LQ IU
       go_wp2_with (first | (refine wpList_load_row rfl _ _ rfl w.heap.size rfl _ _ _ _ nG Tryz.underlying107 rfl (by rw[hcz];kernel_rfl) ?_) | (go_at_call 79;refine Lp.out.mono ?_;rintro e w7 ⟨v7,n7,rfl,H7⟩))
       go_roundw
       case rel=>exact⟨q+1,n7,pw,by go_num,H7.out.1,H7.out.2⟩
       case measure=>simp[intOf];omega
     · have e0:D.Q.take q=D.Q:=List.take_of_length_le (by omega)
       rw[e0,←HBD.out]at hW
       have W6:Hid (tz w cs wr nd nm.length nc nm (.slice bd' m bc) m (Rc.bB bd)):=hW
       obtain⟨u0,u1,u2,u3⟩:=zN.out wr hW.box
       have cr:=hW.be.size
       have aj:=hW.own
       have HU3:Hid (∀(j:Nat) u,(Rc.bB hd)[j]?=some u→wr.cell? ((⟨w.heap.size,4,none⟩:Addr).add j)=some u):=u3
       have Ro:(Rc.bB hd).length=32*1:=by rw[Rc.bC,cN]
       clear hW HW ho HO FJ zN u0 u1 u3 H5
       go_wp2_with (at_builtin;refine wpList_append_own _ rfl (.tmp 43) (.tmp 45) 63 rfl w.heap.size 5 i0 _ 1 1 Tryz.underlying63 HI.out H0.out H1.out H2.out rfl (by decide) _ _ _ rfl aj ⟨w.heap.size,4,none⟩ 32 32 (Rc.bB hd) rfl Ro HU3.out (Rc.qR hd) (by unfold maxLen;omega) (by omega) (by omega) ?_;intro v9 w9 SN UH _;rw[←Rc.gq]at SN;have Ml:=wX SN (by intro e;have h8:=congrArg List.length e;rw[List.length_append,cN]at h8;simp at h8))
       have Uw:Below w.heap.size w w9:=W6.out.be.grown UH cr (fun k hk=>(aj.lt k hk).1)
       go_ret
       exact⟨rfl,Uw⟩
end
/- facts.Table.Row of any names. -/
section
open Go.RowKit Go.Maps
namespace Ax
theorem Lo(s:ByteArray)(p:Nat):(Utf8.decode s p).2≤4:=by
 rw[gL]
 unfold Lib.decodeN
 repeat' split
 all_goals (simp;try omega)
theorem uH(s:ByteArray):∀f p n,s.size≤p+f→p≤s.size→n≤(aG s f p n).2∧(aG s f p n).1+4*n≤p+4*(aG s f p n).2
 | 0,p,n,h1,h2=>by
  simp only[aG]
  omega
 | f+1,p,n,h1,h2=>by
  unfold aG
  by_cases hp:p<s.size
  · rw[if_pos hp]
    by_cases hs:stops s p=true
    · rw[if_pos hs]
      simp only
      omega
    · rw[if_neg hs]
      have h3:=Lo s p
      have h4:=gE s p hp
      have h5:=kt s p hp
      have h6:=uH s f (p+(Utf8.decode s p).2) (n+1) (by omega) h5
      omega
  · rw[if_neg hp]
    simp only
    omega
theorem nI{s:ByteArray}(h:cf s=true):s.size≤24:=by
 unfold cf at h
 rw[Bool.and_eq_true]at h
 obtain⟨h1,h2⟩:=h
 have h1:(aD s (Lib.decodeGo s).1).1=2:=by simpa using h1
 have h2:(aD s (Lib.decodeGo s).1).2=s.size:=by
  have:=eq_of_beq h2
  omega
 rw[←h2]
 generalize (Lib.decodeGo s).1=r at h1 h2 ⊢
 have hw:∀k:Int,(word s k).2≤24:=by
  intro k
  have h3:=uH s s.size 0 0 (by omega) (Nat.zero_le _)
  unfold word
  simp only
  split
  · exact Nat.zero_le _
  · simp only
    omega
 unfold aD at h1 ⊢
 repeat' split
 all_goals first
  | exact hw _
  | (simp;done)
  | decide
end Ax
theorem RI(w:World)(g pl:Nat)(names:List ByteArray)(v:Value)(hc:w.cell? ⟨g,1,none⟩=some (.int .i64 pl))(hv:w.ownsRow 0 9 1 v names.length (strCells names))(hl:names.length=pl)(h3:names.length≤3)
 (hs:∀a,a∈names→a.size≤maxLen)(hT:fw w):
 Calls Tryz.prog 74 #[.pointer (some ⟨g,0,none⟩),v] w fun e w'=>e=.returned (.tuple (if names.all Ax.cf=true then #[.agg (Tb.dE names),.bool true]else #[.agg (Tb.dE []),.bool false]))∧Below w.heap.size w w':=by
 by_cases ju:names.all Ax.cf=true
 · rw[if_pos ju]
   have h1:∀a,a∈names→Ax.cf a=true:=by simpa using ju
   exact Je w g pl names v hc hv hl h3 h1 (fun a ha=>Nat.le_trans (Ax.nI (h1 a ha)) (by decide)) hT
 rw[if_neg ju]
 subst hl
 obtain⟨ad,ac,Jq⟩:=ah hv
 subst Jq
 have HT:Hid (fw w):=hT
 have HV:Hid (w.ownsRow 0 9 1 (.slice ad names.length ac) names.length (strCells names)):=hv
 have HN:Hid (∀a,a∈names→a.size≤maxLen):=hs
 have adC:Hid (¬names.all Ax.cf=true):=ju
 have X4:=block_lt_of_cell hc
 clear hT hv hs ju
 have HS:Hid (mJ w ((w.alloc (.cells #[.string ⟨#[]⟩,.string ⟨#[]⟩,.string ⟨#[]⟩] 119)).alloc (.cells #[.string ⟨#[]⟩,.string ⟨#[]⟩,.string ⟨#[]⟩] 119)) (names.take 0)):=
  ⟨((Below.refl _ _).alloc (Nat.le_refl _) _).alloc (by simp) _,by rw[Below.heap_alloc _ _ _ (by simp)];exact heap_alloc_new w _,by
   have:=pN w (.cells #[.string ⟨#[]⟩,.string ⟨#[]⟩,.string ⟨#[]⟩] 119) (.cells #[.string ⟨#[]⟩,.string ⟨#[]⟩,.string ⟨#[]⟩] 119)
   simpa [Tb.dE,Tb.eh]using this⟩
 go_enter Tryz.func74,Tryz.ntmps74
 go_wp2_with fail
 go_loopw [20] (fun i wr=>∃(k:Nat),k≤names.length∧i=.int .i64 k∧mJ w wr (names.take k)∧(names.take k).all Ax.cf=true) (fun i _=>names.length-(intOf i).toNat)
 case atStart=>exact⟨0,Nat.zero_le _,rfl,HS.out,by simp⟩
 case round=>
  obtain⟨k,hk,rfl,hr,U4⟩:=hrel
  have HR:Hid (mJ w wr (names.take k)):=hr
  have WX:Hid ((names.take k).all Ax.cf=true):=U4
  clear U4
  by_cases aC:k<names.length
  · have bV:=af HV.out hr.be
    obtain⟨g3,rfl,nB,uP,kk⟩:=ax bV (by omega)
    have ca:wr.cell? ⟨g3,k,none⟩=some (.string names[k]):=kk k _ (by rw[strCells,List.getElem?_map,List.getElem?_eq_getElem aC];rfl)
    have Tf:Hid (k<names.length):=aC
    have Gk:k<3:=by omega
    have HSN:Hid (names.take (k+1)=names.take k++[names[k]]):=by
     have e9:names.take (k+1)=names.take k++[names[k]]:=by rw[List.take_add_one,List.getElem?_eq_getElem aC];rfl
     exact e9
    have wa:Hid (names[k].size≤maxLen):=HN.out _ (List.getElem_mem aC)
    have gG:Hid ((Tb.dE (names.take k)).setIfInBounds k (.string names[k])=Tb.dE (names.take (k+1))):=Tb.xu aC h3
    generalize names[k]=q at ca HSN wa gG
    have dQ:Hid (Calls Tryz.prog 130 #[.string q] wr fun e w5=>e=.returned (.bool (Ax.cf q))∧Hid (mJ w w5 (names.take k))∧w5.heap.size≥w.heap.size+2∧w5.heap[w.heap.size]?=some (.cells #[.string ⟨#[]⟩,.string ⟨#[]⟩,.string ⟨#[]⟩] 119 (0,0))):=by
     refine(wN q wr (Utf8Tabs_below HT.out HR.out.be) wa.out).mono ?_
     rintro e w5 ⟨rfl,hb⟩
     have h5:=HR.out.below hb
     exact⟨rfl,h5,h5.size,h5.res⟩
    cases hq:Ax.cf q with
    | true=>
     rw[hq]at dQ
     have vE:Hid (∀w5,Hid (mJ w w5 (names.take k))→Calls Tryz.prog 102 #[.string q] w5 fun e w6=>e=.returned (.string q)∧Hid (mJ w (w6.setCell ⟨w.heap.size+1,k,none⟩ (.string q)) (names.take (k+1)))∧w6.cell? ⟨w.heap.size+1,k,none⟩=some (.string (Tb.eh (names.take k) k))∧w6.frozen? ⟨w.heap.size+1,k,none⟩=false):=by
      intro w5 h5
      refine(gY q w5 (by have:=Ax.nI hq;omega)).mono ?_
      rintro e w6 ⟨rfl,hb⟩
      have h6:=h5.out.below hb
      refine⟨rfl, ?_, ?_, ?_⟩
      · have:=h6.set k q
        rw[gG.out]at this
        exact⟨this.1,this.2.1,this.2.2⟩
      · rw[cell_of_row _ _ _ _ _ _ h6.row]
        exact Tb.Bi _ Gk
      · simp[World.frozen?,h6.row]
     have HK1:Hid ((names.take (k+1)).all Ax.cf=true):=by
      have e1:(names.take (k+1)).all Ax.cf=true:=by
       rw[HSN.out,List.all_append,WX.out]
       simp[hq]
      exact e1
     clear hr bV kk hq
     go_wp2_with (first | (go_at_call 130;refine dQ.out.mono ?_;rintro e w5 ⟨rfl,H5,TY,_⟩) | (go_at_call 102;refine(vE.out _ H5).mono ?_;rintro e w6 ⟨rfl,H6,hc6,hf6⟩))
     go_roundw
     case rel=>exact⟨k+1,Tf.out,by go_num,H6.out,HK1.out⟩
     case measure=>
      have h9:=Tf.out
      simp[intOf]
      omega
    | false=>
     rw[hq]at dQ
     clear hr bV kk hq gG HSN
     go_upto_region 8 with(go_at_call 130;refine dQ.out.mono ?_;rintro e w5 ⟨rfl,H5,TY,Cn⟩)
     have d0:w5.cell? ⟨w.heap.size,0,none⟩=some (.string ⟨#[]⟩):=by rw[cell_of_row _ _ _ _ _ _ Cn];rfl
     have d1:w5.cell? ⟨w.heap.size,1,none⟩=some (.string ⟨#[]⟩):=by rw[cell_of_row _ _ _ _ _ _ Cn];rfl
     have d2:w5.cell? ⟨w.heap.size,2,none⟩=some (.string ⟨#[]⟩):=by rw[cell_of_row _ _ _ _ _ _ Cn];rfl
     have f0:∀o,w5.frozen? ⟨w.heap.size,o,none⟩=false:=fun o=>by simp[World.frozen?,Cn]
     have WI:Hid (w5.heap[w.heap.size]?=some (.cells #[.string ⟨#[]⟩,.string ⟨#[]⟩,.string ⟨#[]⟩] 119 (0,0))):=Cn
     clear Cn
     go_wp2_with fail
     have fE:=H5.out.be
     refine bodyPost_ret (v:=.tuple #[.agg (Tb.dE []),.bool false]) ?_ rfl ⟨rfl,((fE.setCell (p:=⟨w.heap.size,0,none⟩) (Nat.le_refl _) _).setCell (p:=⟨w.heap.size,1,none⟩) (Nat.le_refl _) _).setCell (p:=⟨w.heap.size,2,none⟩) (Nat.le_refl _) _⟩
     refine Eq.trans (ba rfl _ _ _ _ _ _ _ rfl (vY WI.out _ _ _) Tryz.underlying119 rfl (by kernel_rfl)) ?_
     rfl
  · exfalso
    refine adC.out ?_
    have e0:names.take k=names:=List.take_of_length_le (by omega)
    have h9:=WX.out
    rw[e0]at h9
    exact h9
end
/- encode.Reader: the first number of some bytes. -/
section
open Go.RowKit
namespace Rd
def go:Nat→Nat→List UInt8→Nat→Nat×Nat
 | 0,_,_,_=>(0,0)
 | _+1,_,[],_=>(0,0)
 | k+1,i,b::l,acc=>if b.toNat=0∧0<i then (0,0)else if b.toNat<128 then (acc+b.toNat*128^i,i+1)else go k (i+1) l (acc+(b.toNat-128)*128^i)
def first(l:List UInt8):Nat×Nat:=go 4 0 l 0
theorem Rh:∀x:Fin 256,bits .and .u8 ((x.1:Nat):Int) 127=((x.1%128:Nat):Int):=by decide+kernel
theorem QV:∀x:Fin 256,bits .and .u8 ((x.1:Nat):Int) 128=if x.1<128 then 0 else 128:=by decide+kernel
theorem ad7(a b:Nat)(ha:a<4611686018427387904)(hb:b<4611686018427387904):bits .or .i64 (a:Int) (b:Int)=((a|||b:Nat):Int):=by
 have pS:a|||b<2^62:=Nat.or_lt_two_pow ha hb
 have e:(BitVec.ofInt 64 (a:Int)|||BitVec.ofInt 64 (b:Int)).toNat=a|||b:=by
  rw[BitVec.toNat_or]
  have h1:∀m:Nat,m<4611686018427387904→(BitVec.ofInt 64 (m:Int)).toNat=m:=by
   intro m hm
   rw[BitVec.ofInt_natCast,BitVec.toNat_ofNat]
   omega
  rw[h1 a ha,h1 b hb]
 show IntKind.i64.wrap (((BitVec.ofInt 64 (a:Int)|||BitVec.ofInt 64 (b:Int)).toNat:Nat):Int)=_
 rw[e]
 generalize a|||b=c at pS
 simp[IntKind.wrap,IntKind.bits,IntKind.signed]
 omega
theorem Cq{a k:Nat}(h:a<2^k)(x:Nat):a|||x*2^k=a+x*2^k:=by
 have h1:=Nat.shiftLeft_add_eq_or_of_lt h x
 rw[Nat.shiftLeft_eq]at h1
 rw[Nat.or_comm,←h1,Nat.add_comm]
end Rd
theorem vp(w:World)(l:List UInt8)(hl:l.length≤1000000000):
 Calls Tryz.prog 204 #[.string ⟨l.toArray⟩] w fun e w'=>e=.returned (.tuple #[.int .i64 ((Rd.first l).1:Nat),.int .i64 ((Rd.first l).2:Nat)])∧w'=w:=by
 obtain⟨s,hs⟩:∃s:ByteArray,s=⟨l.toArray⟩:=⟨_,rfl⟩
 have cr:s.size=l.length:=by rw[hs];rfl
 have XV:∀(i:Nat) (h:i<s.size) (k:i<l.length),(s[i]'h).toNat=(l[i]'k).toNat:=by
  intro i h h'
  subst hs
  rfl
 obtain⟨M,hM⟩:∃M,M=min l.length 4:=⟨_,rfl⟩
 have Xq:(if (4:Int)<(l.length:Int)then (4:Int)else (l.length:Int))=(M:Int):=by
  split<;>omega
 rw[←hs]
 clear hs
 generalize hR:Rd.first l=R
 have HR:Hid (Rd.first l=R):=hR
 clear hR
 have HG:Hid (∀(i:Nat) (h:i<s.size) (k:i<l.length),(s[i]'h).toNat=(l[i]'k).toNat):=XV
 clear XV
 go_enter Tryz.func204,Tryz.ntmps204
 go_wp2_with fail
 go_loopw [4,10] (fun a i wr=>∃(k x:Nat),k≤M∧i=.int .i64 k∧a=.int .i64 x∧x<128^k∧Rd.go (4-k) k (l.drop k) x=R∧wr=w) (fun _ i _=>M-(intOf i).toNat)
 case atStart=>exact⟨0,0,Nat.zero_le _,rfl,rfl,by decide,HR.out,rfl⟩
 case round=>
  obtain⟨k,x,hk,rfl,rfl,hx,jN,hw⟩:=hrel
  subst hw
  clear HR
  by_cases aC:k<M
  · have KL:k<l.length:=by omega
    have hk4:k<4:=by omega
    have DB:(l[k]).toNat<256:=(l[k]).toNat_lt
    have hd:l.drop k=l[k]::l.drop (k+1):=List.drop_eq_getElem_cons KL
    rw[hd,show 4-k=(4-(k+1))+1 by omega]at jN
    simp only[Rd.go]at jN
    have hsk:k<s.size:=by omega
    have hb:=HG.out k hsk KL
    generalize l[k]=bb at jN DB hb
    generalize Z9:bb.toNat=b at jN DB hb
    clear Z9 hd bb
    have Wg:=Rd.Rh ⟨b,DB⟩
    have Xg:=Rd.QV ⟨b,DB⟩
    simp only at Wg Xg
    have Nt:∀c:Nat,c≤21→bits .or .i64 (x:Int) (((b%128)*2^c:Nat):Int)=((x|||(b%128)*2^c:Nat):Int):=by
     intro c hc
     have h9:2^c≤2^21:=Nat.pow_le_pow_right (by decide) hc
     have h8:(128:Nat)^k≤128^3:=Nat.pow_le_pow_right (by decide) (by omega)
     have h7:(b%128)*2^c≤127*2^21:=Nat.mul_le_mul (by omega) h9
     exact Rd.ad7 _ _ (by omega) (by omega)
    have h4:k=0∨k=1∨k=2∨k=3:=by omega
    clear HG
    have ha3:bits .and .u8 (0:Int) 127=0:=by decide
    have Z7:bits .and .u8 (0:Int) 128=0:=by decide
    rcases h4 with rfl | rfl | rfl | rfl
    · have hmn:(0:Int)<min (l.length:Int) 4:=by omega
      rw[if_neg (fun h=>absurd h.2 (by decide))]at jN
      have hOr:bits .or .i64 (x:Int) ((b:Int)%128)=((x+b%128*1:Nat):Int):=by
       have h9:=Nt 0 (by decide)
       rw[Rd.Cq (by simpa using hx)]at h9
       simpa using h9
      clear Nt
      by_cases Hr:b<128
      · have HE:Hid (R=(x+b%128*1,1)):=by
         rw[if_pos Hr]at jN
         rw[Nat.mod_eq_of_lt Hr]
         exact jN.symm
        clear jN
        generalize x+b%128*1=y at HE hOr
        go_wp2_with fail
        all_goals
         (go_ret2
          rw[HE.out]
          exact⟨rfl,rfl⟩)
      · have HE:Hid (x+b%128*1<128^1∧Rd.go 3 1 (l.drop 1) (x+b%128*1)=R):=by
         rw[if_neg Hr]at jN
         have h9:b-128=b%128:=by omega
         rw[h9]at jN
         have h8:x<1:=by simpa using hx
         have h7:(128:Nat)^1=128:=by decide
         exact⟨by omega,jN⟩
        clear jN
        generalize x+b%128*1=y at HE hOr
        go_wp2_with fail
        all_goals
         (go_roundw
          case rel=>exact⟨1,y,by omega,rfl,rfl,HE.out.1,HE.out.2,trivial⟩
          case measure=>(simp[intOf];omega))
    · have hmn:(1:Int)<min (l.length:Int) 4:=by omega
      by_cases bK:b=0
      · have HE:Hid (R=(0,0)):=by
         rw[if_pos ⟨bK,by decide⟩]at jN
         exact jN.symm
        clear jN Nt Wg Xg
        go_wp2_with fail
        go_ret2
        rw[HE.out]
        exact⟨rfl,rfl⟩
      · rw[if_neg (fun h=>bK h.1)]at jN
        have hOr:bits .or .i64 (x:Int) ((b:Int)%128*128)=((x+b%128*128:Nat):Int):=by
         have h9:=Nt 7 (by decide)
         rw[Rd.Cq (by simpa using hx)]at h9
         simpa using h9
        clear Nt
        by_cases Hr:b<128
        · have HE:Hid (R=(x+b%128*128,2)):=by
           rw[if_pos Hr]at jN
           rw[Nat.mod_eq_of_lt Hr]
           exact jN.symm
          clear jN
          generalize x+b%128*128=y at HE hOr
          go_wp2_with fail
          all_goals
           (go_ret2
            rw[HE.out]
            exact⟨rfl,rfl⟩)
        · have HE:Hid (x+b%128*128<128^2∧Rd.go 2 2 (l.drop 2) (x+b%128*128)=R):=by
           rw[if_neg Hr]at jN
           have h9:b-128=b%128:=by omega
           rw[h9]at jN
           have h8:x<128:=by simpa using hx
           have h7:(128:Nat)^2=16384:=by decide
           exact⟨by omega,jN⟩
          clear jN
          generalize x+b%128*128=y at HE hOr
          go_wp2_with fail
          all_goals
           (go_roundw
            case rel=>exact⟨2,y,by omega,rfl,rfl,HE.out.1,HE.out.2,trivial⟩
            case measure=>(simp[intOf];omega))
    · have hmn:(2:Int)<min (l.length:Int) 4:=by omega
      by_cases bK:b=0
      · have HE:Hid (R=(0,0)):=by
         rw[if_pos ⟨bK,by decide⟩]at jN
         exact jN.symm
        clear jN Nt Wg Xg
        go_wp2_with fail
        go_ret2
        rw[HE.out]
        exact⟨rfl,rfl⟩
      · rw[if_neg (fun h=>bK h.1)]at jN
        have hOr:bits .or .i64 (x:Int) ((b:Int)%128*16384)=((x+b%128*16384:Nat):Int):=by
         have h9:=Nt 14 (by decide)
         rw[Rd.Cq (by simpa using hx)]at h9
         simpa using h9
        clear Nt
        by_cases Hr:b<128
        · have HE:Hid (R=(x+b%128*16384,3)):=by
           rw[if_pos Hr]at jN
           rw[Nat.mod_eq_of_lt Hr]
           exact jN.symm
          clear jN
          generalize x+b%128*16384=y at HE hOr
          go_wp2_with fail
          all_goals
           (go_ret2
            rw[HE.out]
            exact⟨rfl,rfl⟩)
        · have HE:Hid (x+b%128*16384<128^3∧Rd.go 1 3 (l.drop 3) (x+b%128*16384)=R):=by
           rw[if_neg Hr]at jN
           have h9:b-128=b%128:=by omega
           rw[h9]at jN
           have h8:x<16384:=by simpa using hx
           have h7:(128:Nat)^3=2097152:=by decide
           exact⟨by omega,jN⟩
          clear jN
          generalize x+b%128*16384=y at HE hOr
          go_wp2_with fail
          all_goals
           (go_roundw
            case rel=>exact⟨3,y,by omega,rfl,rfl,HE.out.1,HE.out.2,trivial⟩
            case measure=>(simp[intOf];omega))
    · have hmn:(3:Int)<min (l.length:Int) 4:=by omega
      by_cases bK:b=0
      · have HE:Hid (R=(0,0)):=by
         rw[if_pos ⟨bK,by decide⟩]at jN
         exact jN.symm
        clear jN Nt Wg Xg
        go_wp2_with fail
        go_ret2
        rw[HE.out]
        exact⟨rfl,rfl⟩
      · rw[if_neg (fun h=>bK h.1)]at jN
        have hOr:bits .or .i64 (x:Int) ((b:Int)%128*2097152)=((x+b%128*2097152:Nat):Int):=by
         have h9:=Nt 21 (by decide)
         rw[Rd.Cq (by simpa using hx)]at h9
         simpa using h9
        clear Nt
        by_cases Hr:b<128
        · have HE:Hid (R=(x+b%128*2097152,4)):=by
           rw[if_pos Hr]at jN
           rw[Nat.mod_eq_of_lt Hr]
           exact jN.symm
          clear jN
          generalize x+b%128*2097152=y at HE hOr
          go_wp2_with fail
          all_goals
           (go_ret2
            rw[HE.out]
            exact⟨rfl,rfl⟩)
        · have HE:Hid (x+b%128*2097152<128^4∧Rd.go 0 4 (l.drop 4) (x+b%128*2097152)=R):=by
           rw[if_neg Hr]at jN
           have h9:b-128=b%128:=by omega
           rw[h9]at jN
           have h8:x<2097152:=by simpa using hx
           have h7:(128:Nat)^4=268435456:=by decide
           exact⟨by omega,jN⟩
          clear jN
          generalize x+b%128*2097152=y at HE hOr
          go_wp2_with fail
          all_goals
           (go_roundw
            case rel=>exact⟨4,y,by omega,rfl,rfl,HE.out.1,HE.out.2,trivial⟩
            case measure=>(simp[intOf];omega))
  · have HE:Hid (R=(0,0)):=by
     have h9:R=(0,0):=by
      rw[←jN]
      by_cases h4:k=4
      · subst h4
        rfl
      · rw[List.drop_eq_nil_of_le (by omega),show 4-k=(3-k)+1 by omega]
        rfl
     exact h9
    clear jN HG
    go_wp2_with fail
    go_ret2
    rw[HE.out]
    exact⟨rfl,rfl⟩
end
end Go.Proofs.YtdmicblafmhflaaGreatDoor
