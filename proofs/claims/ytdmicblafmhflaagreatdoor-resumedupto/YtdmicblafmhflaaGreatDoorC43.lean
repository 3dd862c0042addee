/- state.State.names, walked. -/
import Derived.Test.YtdmicblafmhflaaGreatDoorC42
set_option linter.unusedSimpArgs false
set_option linter.unusedVariables false
set_option maxHeartbeats 4000000
set_option maxRecDepth 100000
namespace Go.Proofs.YtdmicblafmhflaaGreatDoor
section
open Go.Shelf Go.RowKit Go.Maps
structure Iq(w1 wr:World)(v:Value)(n:Nat)(l:List ByteArray):Prop where
 own:wr.ownsRow w1.heap.size 9 1 v n (strCells l)
 aQ:Below w1.heap.size w1 wr
theorem Iq.len{w1 wr:World}{v:Value}{n:Nat}{l:List ByteArray}(h:Iq w1 wr v n l):n=l.length:=by
 have:=h.own.1
 simp[strCells]at this
 omega
theorem Iq.grow{w1 w2 w4:World}{v v4:Value}{n p:Nat}{l m:List ByteArray}{o:Obj}(h:Iq w1 w2 v n l)(au:w4.ownsRow w1.heap.size 9 1 v4 (n+p) (strCells l++strCells m))(bx:(w2.alloc o).grownBy w4 v.ownBlock):Iq w1 w4 v4 (n+p) (l++m):=by
 refine⟨by simpa [strCells]using au, ?_⟩
 exact(h.aQ.alloc h.aQ.size o).grown bx (by simp;have:=h.aQ.size;omega) (fun k hk=>(h.own.lt k hk).1)
theorem Iq.below{w1 w2 w3:World}{v:Value}{n:Nat}{l:List ByteArray}(h:Iq w1 w2 v n l)(hb:Below w2.heap.size w2 w3):Iq w1 w3 v n l:=⟨ah h.own hb,h.aQ.trans (hb.mono h.aQ.size)⟩
theorem AP(w1 w:World)(d:Option Addr)(n c:Nat)(l:List ByteArray)(h:Iq w1 w (.slice d n c) n l)(hl:n≤1000):
 Calls Tryz.prog 134 #[.slice d n c] w fun e w'=>e=.returned (.tuple #[])∧Hid (Below w1.heap.size w1 w')∧Hid (Calls Tryz.prog 135 #[.slice d n c] w' fun e w3=>∃d' c',e=.returned (.slice d' (Ex.QN l).length c')∧Hid (w3.ownsRow w1.heap.size 9 1 (.slice d' (Ex.QN l).length c') (Ex.QN l).length (uT (Ex.QN l))∧Below w1.heap.size w1 w3)):=by
 have au:=h.own
 have Hy:=h.len
 rcases h.own.2 with⟨e1,e2⟩ | ⟨g,cap,cur,e1,hB,hg,Lp,qD,qo,_⟩
 · simp only[Value.slice.injEq]at e1
   obtain⟨rfl,rfl,rfl⟩:=e1
   have Pz:l=[]:=List.eq_nil_of_length_eq_zero Hy.symm
   subst Pz
   refine Calls.mono (AnyG.slices_Sort_string_none zC none 0 w) ?_
   rintro e w' ⟨rfl,rfl⟩
   refine⟨rfl,h.aQ, ?_⟩
   refine Calls.mono (AnyG.slices_Compact_string_empty zS none 0 w') ?_
   rintro e w3 ⟨rfl,rfl⟩
   have e0:Ex.QN []=[]:=by
    refine List.eq_nil_iff_forall_not_mem.2 fun x hx=> ?_
    have h9:=((rA []).2 x).1 hx
    cases h9
   rw[e0]
   exact⟨none,0,rfl,World.ownsRow_nil _ _ _ _,h.aQ⟩
 · simp only[Value.slice.injEq]at e1
   obtain⟨rfl,_,rfl⟩:=e1
   rw[Ex.aeb]at au
   have F6:=hB
   have cR:=h.aQ.size
   have mO:=lt_of_heap hg
   refine(Ku w1.heap.size w g n c _ au (by omega)).mono ?_
   rintro e w' ⟨rfl,yf,mA⟩
   have yH:=mA.size
   have cw:Below w1.heap.size w1 w':=mA.aU h.aQ cR (by simp;omega)
   refine⟨rfl,cw, ?_⟩
   refine(Kw w1.heap.size w' g n c _ yf (by omega) (by omega)).mono ?_
   rintro e w3 ⟨rfl,Xw,Ig⟩
   exact⟨_,_,rfl,Xw,Ig.aU cw (by omega) (by simp;omega)⟩
theorem Hs{l:List ByteArray}(hl:l.length≤3){x:Nat}{u:Value}(h:(strCells l)[x]?=some u):[Value.string (Tb.dZ l 0),.string (Tb.dZ l 1),.string (Tb.dZ l 2)][x]?=some u:=by
 rw[strCells,List.getElem?_map]at h
 obtain⟨y,hy,rfl⟩:=Option.map_eq_some_iff.1 h
 have aG:=(List.getElem?_eq_some_iff.1 hy).1
 have e:Tb.dZ l x=y:=by unfold Tb.dZ;rw[List.getD_eq_getElem?_getD,hy];rfl
 have hx:x=0∨x=1∨x=2:=by omega
 rcases hx with rfl | rfl | rfl<;>simp[e]
theorem IW(w:World)(kl:List Ax.aA)(gv:Nat→Bool)(rd:Option Addr)(rn rc gm hm:Nat)(hd:List UInt8)(hS:Oe w kl gv (.slice rd rn rc) gm hm):
 Calls Tryz.prog 76 #[.agg (aL (Ax.aC kl) (.slice rd rn rc) gm hm hd)] w fun e w'=>∃d c,e=.returned (.slice d (Ex.jH (En.al (En.af kl) gv)).length c)∧w'.ownsRow w.heap.size 9 1 (.slice d (Ex.jH (En.al (En.af kl) gv)).length c) (Ex.jH (En.al (En.af kl) gv)).length (strCells (Ex.jH (En.al (En.af kl) gv)))∧Below w.heap.size w w':=by
 obtain⟨i0,jS,ew,ev,dY⟩:=info_parts Tryz.vo
 have HI:Hid (Tryz.prog.info? 9=some i0):=jS
 have H0:Hid (i0.zero=some (.string ByteArray.empty)):=ew
 have H1:Hid (i0.size=1):=ev
 have H2:Hid (i0.bytes=16):=dY
 clear jS ew ev dY
 have HS:Hid (Oe w kl gv (.slice rd rn rc) gm hm):=hS
 obtain⟨cs,br⟩:∃cs,cs=aL (Ax.aC kl) (.slice rd rn rc) gm hm hd:=⟨_,rfl⟩
 obtain⟨w0,db⟩:∃w0,w0=w.alloc (.cells cs 107):=⟨_,rfl⟩
 have bU:Below w.heap.size w w0:=by rw[db];exact(Below.refl _ _).alloc (Nat.le_refl _) _
 have mJ:w0.heap[w.heap.size]?=some (.cells cs 107 (0,0)):=by rw[db];exact heap_alloc_new w _
 have t0:w0.cell? ⟨w.heap.size,0,none⟩=some (.string (Ax.aC kl)):=by rw[cell_of_row _ _ _ _ _ _ mJ,br];rfl
 have t1:w0.cell? ⟨w.heap.size,1,none⟩=some (.slice rd rn rc):=by rw[cell_of_row _ _ _ _ _ _ mJ,br];rfl
 have t3:w0.cell? ⟨w.heap.size,3,none⟩=some (.map (some hm)):=by rw[cell_of_row _ _ _ _ _ _ mJ,br];rfl
 have PM:=lt_of_heap mJ
 have zU:Hid (Calls Tryz.prog 59 #[.agg #[.string (Ax.aC kl),.slice rd rn rc]] w0 fun e w1=>∃qd qc,e=.returned (.slice qd 3 qc)∧w1.cell? ⟨w.heap.size,3,none⟩=some (.map (some hm))∧Hid (w1.ownsRow w0.heap.size 112 2 (.slice qd 3 qc) 3 (aF gQ)∧Below w.heap.size w w1)):=by
  refine(hS.nI w0 bU).mono ?_
  rintro e w1 ⟨qd,qc,rfl,h1,h2⟩
  exact⟨qd,qc,rfl,by rw[h2.cell PM];exact t3,h1,bU.trans (h2.mono bU.size)⟩
 rw[←br]
 clear br hS mJ
 go_enter Tryz.func76,Tryz.ntmps76
 go_upto_region 2 with fail
 rw[←db]
 clear db
 go_wp2_with (go_at_call 59;refine zU.out.mono ?_;rintro e w1 ⟨qd,qc,rfl,x3,HP1⟩)
 have xS:Hid (Below w.heap.size w w1):=HP1.out.2
 have Hh:w.heap.size<w1.heap.size:=block_lt_of_cell x3
 clear zU t0 t1 t3 PM bU
 go_loopw [3,12] (fun a i wr=>∃(k n:Nat),k≤3∧i=.int .i64 k∧Iq w1 wr a n (Ex.np (En.al (En.af kl) gv) (gQ.take k))) (fun _ i _=>3-(intOf i).toNat)
 case atStart=>exact⟨0,0,Nat.zero_le _,rfl,World.ownsRow_nil _ _ _ _,Below.refl _ _⟩
 case round=>
  obtain⟨k,n,hk,rfl,hN⟩:=hrel
  obtain⟨ad,ac,Lt⟩:=aj hN.own
  subst Lt
  have hn9:n≤324:=by
   rw[hN.len]
   refine Nat.le_trans (Ex.DB _ _) ?_
   rw[List.length_take]
   have:gQ.length=3:=rfl
   omega
  obtain⟨wA,rfl⟩:∃x,x=wr:=⟨_,rfl⟩
  have Py:Below w.heap.size w wA:=xS.out.trans (hN.aQ.mono xS.out.size)
  have x3A:wA.cell? ⟨w.heap.size,3,none⟩=some (.map (some hm)):=by rw[hN.aQ.cell Hh];exact x3
  have acH:w.heap.size<wA.heap.size:=block_lt_of_cell x3A
  by_cases aG:k<3
  · have mL:k<gQ.length:=aG
    obtain⟨g2,rfl,eE,qD,br⟩:=aD (ah HP1.out.1 hN.aQ) (by omega)
    have c0:=br _ _ (aY gQ k mL).1
    have c1:=br _ _ (aY gQ k mL).2
    have Cg:gQ[k]∈gQ:=List.getElem_mem mL
    obtain⟨ug,hA⟩:=HS.out.U7 _ Cg
    have pD:Hid (Ex.np (En.al (En.af kl) gv) (gQ.take (k+1))=Ex.np (En.al (En.af kl) gv) (gQ.take k)++(cW (En.al (En.af kl) gv) (gQ[k]).1).flatMap fun j=>(bk j).2):=by
     have e0:gQ.take (k+1)=gQ.take k++[gQ[k]]:=by rw[List.take_add_one,List.getElem?_eq_getElem mL];rfl
     have e1:Ex.np (En.al (En.af kl) gv) (gQ.take (k+1))=Ex.np (En.al (En.af kl) gv) (gQ.take k)++(cW (En.al (En.af kl) gv) (gQ[k]).1).flatMap fun j=>(bk j).2:=by unfold Ex.np;rw[e0,List.flatMap_append,List.flatMap_singleton]
     exact e1
    have ZW:Hid (∀j,j∈cW (En.al (En.af kl) gv) (gQ[k]).1→(bk j).2.length=(gQ[k]).2):=by
     intro j hj
     obtain⟨h1,_,h3⟩:=gS.1 hj
     have h4:=kp h1
     rw[h3]at h4
     exact xQ h4 (oK Cg)
    have Gf:(gQ[k]).2≤3:=by
     have:∀q,q∈gQ→q.2≤3:=by unfold gQ;decide
     exact this _ Cg
    generalize gQ[k]=p at c0 c1 hA pD ZW Gf
    obtain⟨pn,pp⟩:=p
    simp only at c0 c1 hA pD ZW Gf
    have hug:ug<wA.heap.size:=Nat.lt_of_lt_of_le hA.lt Py.size
    obtain⟨wP,Hf⟩:∃wP,wP=wA.alloc (.cells #[.string pn,.int .i64 (pp:Nat)] 112):=⟨_,rfl⟩
    have Hl:Below wA.heap.size wA wP:=by rw[Hf];exact(Below.refl _ _).alloc (Nat.le_refl _) _
    have Lz:wP.heap[wA.heap.size]?=some (.cells #[.string pn,.int .i64 (pp:Nat)] 112 (0,0)):=by rw[Hf];exact heap_alloc_new wA _
    have p0:wP.cell? ⟨wA.heap.size,0,none⟩=some (.string pn):=by rw[cell_of_row _ _ _ _ _ _ Lz];rfl
    have p3:wP.cell? ⟨w.heap.size,3,none⟩=some (.map (some hm)):=by rw[Hl.cell acH];exact x3A
    have U8:Below w.heap.size w wP:=Py.trans (Hl.mono Py.size)
    have nP:=hA.look wP U8
    have aiS:ug<wP.heap.size:=Nat.lt_of_lt_of_le hug Hl.size
    generalize Lv:cW (En.al (En.af kl) gv) pn=js at pD ZW
    have OL:Hid (Calls Tryz.prog 133 #[.pointer (some ⟨ug,0,none⟩)] wP fun e w3=>∃xd xc,e=.returned (.slice xd js.length xc)∧Hid (w3.ownsRow wP.heap.size 119 3 (.slice xd js.length xc) js.length (aK (js.map fun j=>Tb.dw (bk j).2))∧Iq w1 w3 (.slice ad n ac) n (Ex.np (En.al (En.af kl) gv) (gQ.take k))∧w3.heap[wA.heap.size]?=some (.cells #[.string pn,.int .i64 (pp:Nat)] 112 (0,0)))):=by
     refine(hA.rows wP U8).mono ?_
     rintro e w3 ⟨xd,xc,rfl,q1,q2⟩
     rw[Lv]at q1 ⊢
     exact⟨xd,xc,rfl,q1,(hN.below Hl).below q2,by rw[q2.block _ (lt_of_heap Lz)];exact Lz⟩
    have Hw:js.length≤36:=by
     rw[←Lv]
     unfold cW
     exact Nat.le_trans (List.length_filter_le _ _) (by simp)
    clear br hA Lv hN Py Lz Cg U8 Hl HP1
    go_upto_region 5 with fail
    rw[←Hf]
    clear Hf
    go_wp2_with (go_at_call 133;refine OL.out.mono ?_;rintro e w3 ⟨xd,xc,rfl,H3⟩)
    clear OL nP p0 p3 c0 c1
    generalize Ex.np (En.al (En.af kl) gv) (gQ.take k)=base at H3 pD
    go_loopw [3,25] (fun a i w4=>∃(q m:Nat),q≤js.length∧i=.int .i64 q∧Iq w1 w4 a m (base++(js.take q).flatMap fun j=>(bk j).2)∧Lib.OthersKept 9 none w3 w4) (fun _ i _=>js.length-(intOf i).toNat)
    case atStart=>exact⟨0,n,Nat.zero_le _,rfl,by simpa using H3.out.2.1,Lib.OthersKept.refl _ _ _⟩
    case round=>
     obtain⟨q,m,hq,rfl,Q0,Xo⟩:=hrel
     obtain⟨bd,bc,bU⟩:=aj Q0.own
     subst bU
     have HN4:Hid (Iq w1 wr (.slice bd m bc) m (base++(js.take q).flatMap fun j=>(bk j).2)):=Q0
     have HO4:Hid (Lib.OthersKept 9 none w3 wr):=Xo
     have hblk:wr.heap[wA.heap.size]?=some (.cells #[.string pn,.int .i64 (pp:Nat)] 112 (0,0)):=Xo _ _ H3.out.2.2 (by simp) (fun c fz e=>by simp at e)
     have y1:wr.cell? ⟨wA.heap.size,1,none⟩=some (.int .i64 (pp:Nat)):=by rw[cell_of_row _ _ _ _ _ _ hblk];rfl
     have ff:=lt_of_heap hblk
     by_cases yi:q<js.length
     · have bF:=bJ H3.out.1 Xo (by decide)
       obtain⟨g3,rfl,nN,qo,mg⟩:=aD bF (by omega)
       have h3:pS (js.map fun j=>Tb.dw (bk j).2):=fun r hr=>by
        obtain⟨j,_,rfl⟩:=List.mem_map.1 hr
        rfl
       obtain⟨r0,r1,r2⟩:=ke h3 (k:=q) (by simpa using yi) (a:=Tb.dZ (bk js[q]).2 0) (b:=Tb.dZ (bk js[q]).2 1) (c:=Tb.dZ (bk js[q]).2 2) (by rw[List.getElem_map];rfl)
       have z0:=mg _ _ r0
       have z1:=mg _ _ r1
       have z2:=mg _ _ r2
       have eX:Hid (base++(js.take (q+1)).flatMap (fun j=>(bk j).2)=base++(js.take q).flatMap (fun j=>(bk j).2)++(bk js[q]).2):=by
        have e0:js.take (q+1)=js.take q++[js[q]]:=by rw[List.take_add_one,List.getElem?_eq_getElem yi];rfl
        have e1:base++(js.take (q+1)).flatMap (fun j=>(bk j).2)=base++(js.take q).flatMap (fun j=>(bk j).2)++(bk js[q]).2:=by rw[e0,List.flatMap_append];simp
        exact e1
       have VW:(bk js[q]).2.length=pp:=ZW.out _ (List.getElem_mem yi)
       have pN:=lD js[q]
       have hm9:m≤100000:=by
        have h8:=Q0.len
        rw[List.length_append]at h8
        have h7:=H3.out.2.1.len
        have h6:∀l:List Nat,(l.flatMap fun j=>(bk j).2).length≤3*l.length:=by
         intro l
         induction l with
         | nil=>simp
         | cons a l ih=>
          rw[List.flatMap_cons,List.length_append,List.length_cons]
          have:=lD a
          omega
        have h5:=h6 (js.take q)
        rw[List.length_take]at h5
        omega
       have V0:Hid (∀(x:Nat) u,(strCells (bk js[q]).2)[x]?=some u→(wr.alloc (.cells #[.string (Tb.dZ (bk js[q]).2 0),.string (Tb.dZ (bk js[q]).2 1),.string (Tb.dZ (bk js[q]).2 2)] 119)).cell? ((⟨wr.heap.size,0,none⟩:Addr).add x)=some u):=by
        intro x u hu
        rw[Addr.add_lit,cell_of_row _ _ _ _ _ _ (heap_alloc_new wr _)]
        have h8:=Hs (by omega) hu
        simpa using h8
       have au:=Q0.own
       have ahz:w1.heap.size≤wr.heap.size:=Q0.aQ.size
       generalize Tb.dZ (bk js[q]).2 0=s0 at*
       generalize Tb.dZ (bk js[q]).2 1=s1 at*
       generalize Tb.dZ (bk js[q]).2 2=s2 at*
       generalize (bk js[q]).2=dl at*
       have ab9:(strCells dl).length=pp*1:=by simp[strCells,VW]
       have aaU:∀u∈strCells dl,u.oneCell'=true:=by
        intro u hu
        obtain⟨x,_,rfl⟩:=List.mem_map.1 hu
        rfl
       have b1:(0:Int)≤(pp:Int):=by omega
       have b2:(pp:Int)≤3:=by omega
       clear mg bF r0 r1 r2 h3 Q0 Xo hblk
       go_wp2_with (at_builtin;go_must (refine wpList_append_own _ rfl (.tmp 29) (.tmp 32) 46 rfl w1.heap.size 9 i0 _ 1 16 Tryz.underlying46 HI.out H0.out H1.out H2.out rfl (by decide) _ _ _ rfl (au.alloc _) ⟨wr.heap.size,0,none⟩ pp 3 (strCells dl) rfl ab9 V0.out aaU (by unfold maxLen;omega) (by omega) (by simp;omega) ?_;intro v5 w5 Mq Ns _))
       have Ys:=(HO4.out.alloc _).grown Ns (bK (au.alloc _))
       have hN5:=HN4.out.grow Mq Ns
       rw[←eX.out]at hN5
       go_roundw
       case rel=>exact⟨q+1,m+pp,yi,by go_num,hN5,Ys⟩
       case measure=>simp[intOf];omega
     · have HE:Hid (Iq w1 wr (.slice bd m bc) m (Ex.np (En.al (En.af kl) gv) (gQ.take (k+1)))):=by
        rw[pD.out]
        have e:js.take q=js:=List.take_of_length_le (by omega)
        rw[e]at Q0
        exact Q0
       clear Q0 Xo HN4
       go_wp2_with fail
       go_roundw
       case rel=>exact⟨k+1,m,by omega,by go_num,HE.out⟩
       case measure=>simp[intOf];omega
  · have qH:k=3:=by omega
    subst qH
    have HN9:Hid (Calls Tryz.prog 134 #[.slice ad n ac] wA fun e w'=>e=.returned (.tuple #[])∧Hid (Below w1.heap.size w1 w')∧Hid (Calls Tryz.prog 135 #[.slice ad n ac] w' fun e w3=>∃d' c',e=.returned (.slice d' (Ex.jH (En.al (En.af kl) gv)).length c')∧Hid (w3.ownsRow w1.heap.size 9 1 (.slice d' (Ex.jH (En.al (En.af kl) gv)).length c') (Ex.jH (En.al (En.af kl) gv)).length (strCells (Ex.jH (En.al (En.af kl) gv)))∧Below w1.heap.size w1 w3))):=by
     have h9:=AP w1 wA ad n ac _ hN (by omega)
     have e1:(Ex.jH (En.al (En.af kl) gv)).length=(Ex.QN (Ex.np (En.al (En.af kl) gv) (gQ.take 3))).length:=by unfold Ex.jH;rw[List.length_map];rfl
     have e2:strCells (Ex.jH (En.al (En.af kl) gv))=uT (Ex.QN (Ex.np (En.al (En.af kl) gv) (gQ.take 3))):=by unfold Ex.jH;rw[Ex.aaJ];rfl
     rw[e1,e2]
     exact h9
    clear hN Py x3A x3
    go_wp2_with (first | (go_at_call 134;refine HN9.out.mono ?_;rintro e w5 ⟨rfl,Ir,HC5⟩) | (go_at_call 135;refine HC5.out.mono ?_;rintro e w6 ⟨d',c',rfl,H6⟩))
    go_ret
    exact⟨d',c',rfl,aE H6.out.1 xS.out.size,xS.out.trans (H6.out.2.mono xS.out.size)⟩
end
end Go.Proofs.YtdmicblafmhflaaGreatDoor
