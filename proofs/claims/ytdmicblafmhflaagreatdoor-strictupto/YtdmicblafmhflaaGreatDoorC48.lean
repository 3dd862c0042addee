/- state.Read of any bytes, walked. -/
import Derived.Test.YtdmicblafmhflaaGreatDoorC47
set_option linter.unusedSimpArgs false
set_option linter.unusedVariables false
set_option maxHeartbeats 3000000
set_option maxRecDepth 100000
namespace Go.Proofs.YtdmicblafmhflaaGreatDoor
section
open Go.RowKit Go.Maps
theorem vW{rs:List Ax.aP}(h:Ax.dV rs){Q:List Pd.Pr}(hs:Pd.lX Q)(hQ:∀p,p∈Q↔p∈aS rs):Q.length≤6∧∀p,p∈Q→(1≤p.2∧p.2≤3)∧p.1.size≤600:=by
 refine⟨?_,fun p hp=> ?_⟩
 · obtain⟨all,h1,h2⟩:=h.cD
   have h3:=List.Nodup.length_le_of_subset (dS hs) (l₂:=all) (fun x hx=>by
    obtain⟨p,hp,rfl⟩:=List.mem_map.1 hx
    exact h2 p ((hQ p).1 hp))
   rw[List.length_map]at h3
   omega
 · obtain⟨a,ha,rfl⟩:=List.mem_map.1 ((hQ p).1 hp)
   obtain⟨r,hr,ha⟩:=List.mem_flatMap.1 ha
   obtain⟨k1,k2⟩:=h.atoms r hr a ha
   have:=List.length_pos_iff.2 k1.1
   exact⟨⟨this,k2⟩,k1.2.1⟩
structure RdG(w0 W:World)(pt:ByteArray)(Q:List Pd.Pr)(R:Rd.dz)(rd:Option Addr)(rc:Nat)(l:List MR)(gm pb:Nat):Prop where
 be:Below w0.heap.size w0 W
 rul:aB W rd rc l
 rA:∃G,jY W gm G∧GQ G Q R
 Z8:W.heap[pb]?=some (.cells #[.string pt,.slice rd l.length rc] 101 (0,0))
theorem Rd.Ar{N:List ByteArray}{pn:ByteArray}{pp:Nat}:∀(k:Nat) (l:List UInt8) (f:Bool) (R:Rd.dz) {x:Rd.dz×List UInt8×Bool},Rd.fl N pn pp k l f R=some x→(∀p,p≠pn→x.1 p=R p)∧(x.1 pn).length≤(R pn).length+k
 | 0,l,f,R,x,e=>by
  simp[Rd.fl]at e
  subst e
  exact⟨fun p _=>rfl,Nat.le_refl _⟩
 | k+1,l,f,R,x,e=>by
  unfold Rd.fl at e
  split at e
  · obtain⟨h1,h2⟩:=Rd.Ar k _ _ _ e
    have h5:=Rd.pJ (R pn) (Tb.dh (Rd.iL N pp l f).2.1)
    refine⟨fun p hp=> ?_, ?_⟩
    · rw[h1 p hp]
      split
      · exact Rd.pM _ hp
      · rfl
    · split at h2
      · rw[Rd.se]at h2
        omega
      · omega
  · cases e
theorem Rd.Ak{N:List ByteArray}:∀(Q:List Pd.Pr) (l:List UInt8) (f:Bool) (R:Rd.dz) {x:Rd.dz×List UInt8×Bool},(Q.map Prod.fst).Nodup→Rd.eQ N Q l f R=some x→∀p,(x.1 p).length≤(R p).length+200∧(¬p∈Q.map Prod.fst→x.1 p=R p)
 | [],l,f,R,x,_,e=>by
  simp[Rd.eQ]at e
  subst e
  intro p
  exact⟨by simp,fun _=>rfl⟩
 | q::Q,l,f,R,x,hn,e=>by
  unfold Rd.eQ at e
  obtain⟨y,hy,e⟩:=Option.bind_eq_some_iff.1 e
  rw[List.map_cons,List.nodup_cons]at hn
  obtain⟨h1,h2⟩:=Rd.Ar _ _ _ _ hy
  have h3:(Rd.number l f 200).1≤200:=Rd.pL l f 200
  intro p
  obtain⟨h4,h5⟩:=Rd.Ak Q y.2.1 y.2.2 y.1 hn.2 e p
  by_cases hp:p=q.1
  · subst hp
    refine⟨?_,fun h=>absurd (by simp) h⟩
    rw[h5 hn.1]
    omega
  · rw[h1 p hp]at h4 h5
    exact⟨h4,fun h=>h5 (fun h9=>h (by rw[List.map_cons];exact List.mem_cons_of_mem _ h9))⟩
theorem Rd.um{N:List ByteArray}:∀(Q:List Pd.Pr) (l:List UInt8) (f:Bool) (R:Rd.dz) {R':Rd.dz} {l':List UInt8} {f':Bool} {X:ByteArray→List ByteArray→Prop},(∀p r,r∈R p→X p r)→(∀p,p∈Q→∀names:List ByteArray,names.length=p.2→(∀x,x∈names→x.size≤24)→X p.1 (Tb.dh names))→Rd.eQ N Q l f R=some (R',l',f')→∀p r,r∈R' p→X p r
 | [],l,f,R,R',l',f',X,h,_,e=>by
  simp[Rd.eQ]at e
  obtain⟨rfl,_⟩:=e
  exact h
 | q::Q,l,f,R,R',l',f',X,h,hX,e=>by
  have hf:∀(k:Nat) (l:List UInt8) (f:Bool) (R:Rd.dz) (x:Rd.dz×List UInt8×Bool),(∀p r,r∈R p→X p r)→Rd.fl N q.1 q.2 k l f R=some x→∀p r,r∈x.1 p→X p r:=by
   intro k
   induction k with
   | zero=>
    intro l f R x h e
    simp[Rd.fl]at e
    subst e
    exact h
   | succ k ih=>
    intro l f R x h e
    unfold Rd.fl at e
    split at e
    · rename_i ju
      refine ih _ _ _ x ?_ e
      intro p r hr
      split at hr
      · unfold Rd.lk at hr
        split at hr
        · rename_i hp
          rw[Tb.sA]at hr
          rcases hr with rfl | hr
          · rw[hp]
            exact hX q (by simp) _ (Rd.KY _ _ _ _) (fun y hy=>Ax.nI (by
             rw[List.all_eq_true]at ju
             exact ju y hy))
          · rw[hp]
            exact h _ r hr
        · exact h p r hr
      · exact h p r hr
    · cases e
  unfold Rd.eQ at e
  obtain⟨x,hx,e⟩:=Option.bind_eq_some_iff.1 e
  exact Rd.um Q x.2.1 x.2.2 x.1 (hf _ _ _ _ x h hx) (fun p hp=>hX p (by simp[hp])) e
theorem G7(w:World)(s:List UInt8)(hs:s.length≤100000000)(hU:fw w):
 Calls Tryz.prog 45 #[.string ⟨s.toArray⟩] w fun e w'=>Below w.heap.size w w'∧((e=.returned (.tuple #[.agg fB,.bool false])∧Rd.state s=none)∨∃D hd rd rn rc gm hm,e=.returned (.tuple #[.agg (aI D.pl (.slice rd rn rc) gm hm hd),.bool true])∧Rd.state s=some (D,hd)∧hd.length=32∧Gs.Ok D∧Gs.zW w' D (.slice rd rn rc) gm hm∧Gs.body D++hd=s):=by
 obtain⟨w0,di⟩:∃w0,w0=w.alloc (.cells fB 107):=⟨_,rfl⟩
 have bK:Below w.heap.size w w0:=by rw[di];exact(Below.refl _ _).alloc (Nat.le_refl _) _
 have nD:w0.heap[w.heap.size]?=some (.cells fB 107 (0,0)):=by rw[di];exact heap_alloc_new w _
 have km:Hid (∀W,Below w0.heap.size w0 W→W.there w.heap.size 0 fB.size∧(W.setCells w.heap.size 0 fB.toList).heap[w.heap.size]?=some (.cells fB 107 (0,0))∧Below w.heap.size w (W.setCells w.heap.size 0 fB.toList)):=by
  intro W hW
  have h1:W.heap[w.heap.size]?=some (.cells fB 107 (0,0)):=by rw[hW.block _ (lt_of_heap nD)];exact nD
  have oq:Below w.heap.size w W:=bK.trans (hW.mono bK.size)
  obtain⟨_,hk⟩:=bO w.heap.size fB.toList 0 _ W h1 (Nat.le_refl 36)
  refine⟨?_,eO h1 rfl rfl,hk.aK oq oq.size (by simp)⟩
  intro j hj
  rw[cell_of_row _ _ _ _ _ _ h1]
  refine⟨?_,by simp[World.frozen?,h1]⟩
  rw[Nat.zero_add,Array.getElem?_eq_getElem hj]
  rfl
 have oN:Hid ((Tryz.prog.info? 107).map (·.size)=some fB.size):=(by kernel_rfl:(Tryz.prog.info? 107).map (·.size)=some 36)
 have mR:Hid (fB.all (·.oneCell')=true):=(Array.all_eq_true_iff_forall_mem.2 (fun v hv=>vR v (by simpa using hv)):fB.all (·.oneCell')=true)
 obtain⟨S,hS⟩:∃S:ByteArray,S=⟨s.toArray⟩:=⟨_,rfl⟩
 have XW:S.size=s.length:=by rw[hS];rfl
 rw[←hS]
 by_cases NY:s.length<32
 · have vU:decide ((s.length:Int)<32)=true:=decide_eq_true (by omega)
   have HR:Hid (Rd.state s=none):=Rd.Dk NY
   obtain⟨FG,qJ,lW⟩:=km.out w0 (Below.refl _ _)
   have Qu:Hid (w0.there w.heap.size 0 fB.size):=FG
   clear hS bK nD hU km FG
   go_enter Tryz.func45,Tryz.ntmps45
   go_upto_region 1 with fail
   have hz:w.alloc (.cells fB 107)=w0:=di.symm
   unfold fB vm at hz
   rw[hz]
   clear hz di
   go_wp2_with (refine wpList_store_mid rfl 107 (.tmp 2) (.tmp 15) rfl w.heap.size 0 fB rfl rfl Qu.out oN.out mR.out ?_)
   refine bodyPost_ret (v:=.tuple #[.agg fB,.bool false]) ?_ rfl ⟨lW,.inl ⟨rfl,HR.out⟩⟩
   refine Eq.trans (ba rfl _ _ _ _ _ _ _ rfl qJ Tryz.underlying107 rfl oN.out) ?_
   rfl
 obtain⟨A,hA⟩:∃A,A=s.take (s.length-32):=⟨_,rfl⟩
 obtain⟨hd,Fz⟩:∃hd,hd=s.drop (s.length-32):=⟨_,rfl⟩
 have Di:s=A++hd:=by rw[hA,Fz,List.take_append_drop]
 have cN:hd.length=32:=by rw[Fz,List.length_drop];omega
 have hAl:A.length≤100000000:=by rw[hA,List.length_take];omega
 have SJ:Hid (s=A++hd):=Di
 have hSs:S.size=A.length+32:=by rw[XW,Di,List.length_append];omega
 have Xo:S.extract 0 A.length=⟨A.toArray⟩:=by rw[hS,Di];exact Vu _ _
 have hSH:S.extract A.length (A.length+32)=⟨hd.toArray⟩:=by
  have:=UG A hd
  rw[cN]at this
  rw[hS,Di]
  exact this
 have HSB:Hid (S=⟨s.toArray⟩):=hS
 obtain⟨N,hN⟩:∃N,N=A.length+32:=⟨_,rfl⟩
 rw[←hN]at hSs hSH
 obtain⟨L,hL⟩:∃L,L=A.length:=⟨_,rfl⟩
 rw[←hL]at hN Xo hSH
 have hL9:L≤100000000:=by omega
 have vU:decide ((N:Int)<32)=false:=decide_eq_false (by omega)
 have FK:IntKind.i64.wrap ((N:Int)-32)=(L:Int):=by
  rw[IntKind.wrap_i64]
  omega
 have hn3:(0:Int)≤(L:Int):=by omega
 have hn4:(L:Int)≤(N:Int):=by omega
 obtain⟨jU,Rk⟩:∃jU:ByteArray,jU=⟨(Rd.text A false).1.toArray⟩:=⟨_,rfl⟩
 have htz:jU.size≤100000000:=by
  have h1:=Rd.eu A false 9223372036854775807
  have h2:(Rd.text A false).1.length≤A.length:=by
   unfold Rd.text
   simp only
   split
   · simp
   · simp only[List.length_take]
     omega
  rw[Rk]
  show(Rd.text A false).1.toArray.size≤_
  simp
  omega
 have AK:=Rd.Fi A false
 have PN:Hid (Calls Tryz.prog 80 #[.string ⟨A.toArray⟩] w0 fun e w1=>∃rb,e=.returned (.pointer (some ⟨rb,0,none⟩))∧Hid (w0.heap.size≤rb∧cJ w1 rb A false∧Below w0.heap.size w0 w1)):=(yY w0 A).mono (fun e w1 ⟨a,b,c⟩=>⟨_,a,Nat.le_refl _,b,c⟩)
 have zS:Hid (∀w1 rb,w0.heap.size≤rb→cJ w1 rb A false→Below w0.heap.size w0 w1→Calls Tryz.prog 81 #[.pointer (some ⟨rb,0,none⟩)] w1 fun e w2=>e=.returned (.string jU)∧Hid (cJ w2 rb (Rd.text A false).2.1 (Rd.text A false).2.2∧Below w0.heap.size w0 w2)):=by
  intro w1 rb BO hr hb
  rw[Rk]
  refine(xD w1 rb _ false hr (by omega)).mono ?_
  rintro e' w2 ⟨rfl,q1,q2⟩
  exact⟨rfl,q1,q2.aK hb hb.size (by simpa using BO)⟩
 have Ys:Hid (jU=⟨(Rd.text A false).1.toArray⟩):=Rk
 have HU0:Hid (fw w0):=Utf8Tabs_below hU bK
 have HB0:Hid (Below w.heap.size w w0):=bK
 have Y2:Hid (w0.heap[w.heap.size]?=some (.cells fB 107 (0,0))):=nD
 have FD:(Rd.text A false).2.1.length≤100000000:=by omega
 generalize (⟨A.toArray⟩:ByteArray)=SB at*
 obtain⟨l1,Rs⟩:∃l1,l1=(Rd.text A false).2.1:=⟨_,rfl⟩
 obtain⟨f1,Uo⟩:∃f1,f1=(Rd.text A false).2.2:=⟨_,rfl⟩
 have V9:Hid (l1=(Rd.text A false).2.1∧f1=(Rd.text A false).2.2):=⟨Rs,Uo⟩
 rw[←Rs,←Uo]at zS
 rw[←Rs]at FD
 clear hS hN hL hAl bK nD hU hA Fz Di Rk Rs Uo AK XW hs NY
 by_cases h0:(Ax.read jU).2.1=0
 · have ET:Hid (∀w2,Calls Tryz.prog 56 #[.string jU] w2 fun e w'=>∃rd rc l,e=.returned (.tuple #[.agg #[.string (Ax.read jU).1,.slice rd (List.length l) rc],.int .i64 0,.int .i64 0])∧Hid (Ax.dV (Ax.bw jU)∧(Ax.read jU).1.size≤600∧aB w' rd rc l∧l.map MR.ak=Ax.bw jU∧Below w2.heap.size w2 w')):=by
    intro w2
    refine(El jU w2 (by unfold maxLen;omega)).mono ?_
    rintro e w' ⟨hb,hh⟩
    rcases hh with⟨h9,_⟩ | ⟨_,a1,a2,rd,rc,l,rfl,a3,a4⟩
    · exact absurd h0 h9
    · exact⟨rd,rc,l,rfl,a1,a2,a3,a4,hb⟩
   have HH0:Hid ((Ax.read jU).2.1=0):=h0
   obtain⟨pt,TA⟩:∃pt,pt=(Ax.read jU).1:=⟨_,rfl⟩
   have HPT:Hid (pt=(Ax.read jU).1):=TA
   rw[←TA]at ET
   clear h0 TA
   go_enter Tryz.func45,Tryz.ntmps45
   go_upto_region 1 with fail
   have hz:w.alloc (.cells fB 107)=w0:=di.symm
   unfold fB vm at hz
   rw[hz]
   clear hz di
   go_upto_region 8 with(first | (go_at_call 80;refine PN.out.mono ?_;rintro e w1 ⟨rb,rfl,H1⟩) | (go_at_call 81;refine(zS.out w1 rb H1.out.1 H1.out.2.1 H1.out.2.2).mono ?_;rintro e w2 ⟨rfl,H2⟩) | (go_at_call 56;refine(ET.out w2).mono ?_;rintro e w3 ⟨rd,rc,l,rfl,H3⟩))
   obtain⟨w4,PC⟩:∃w4,w4=w3.alloc (.cells #[.string pt,.slice rd l.length rc] 101):=⟨_,rfl⟩
   rw[←PC]
   obtain⟨Rm,Zq,qz,hle,J8⟩:=H3.out
   have Ua:Below w3.heap.size w3 w4:=by rw[PC];exact(Below.refl _ _).alloc (Nat.le_refl _) _
   have Uh:Below w2.heap.size w2 w4:=J8.trans (Ua.mono J8.size)
   have UR:Below w0.heap.size w0 w4:=H2.out.2.trans (Uh.mono H2.out.2.size)
   have yX:w4.heap[w3.heap.size]?=some (.cells #[.string pt,.slice rd l.length rc] 101 (0,0)):=by rw[PC];exact heap_alloc_new w3 _
   have x0:w4.cell? ⟨w3.heap.size,0,none⟩=some (.string pt):=by rw[cell_of_row _ _ 0 _ _ _ yX];rfl
   have x1:w4.cell? ⟨w3.heap.size,1,none⟩=some (.slice rd l.length rc):=by rw[cell_of_row _ _ 1 _ _ _ yX];rfl
   have X6:=lt_of_heap yX
   have ya:aB w4 rd rc l:=qz.below Ua
   have CS:l.length≤8:=by
    have:=Rm.oo
    rw[←hle,List.length_map]at this
    exact this
   have QU:cJ w4 rb l1 f1:=by
    have h9:=H2.out.1
    unfold cJ at h9 ⊢
    rw[Uh.block _ (lt_of_heap h9)]
    exact h9
   obtain⟨Q,hQd⟩:∃Q,Q=Rd.cD (Ax.bw jU):=⟨_,rfl⟩
   have AJ:Hid (Calls Tryz.prog 59 #[.agg #[.string pt,.slice rd l.length rc]] w4 fun e w5=>∃qd qc,e=.returned (.slice qd Q.length qc)∧Hid (w5.ownsRow 0 112 2 (.slice qd Q.length qc) Q.length (au Q)∧Below w4.heap.size w4 w5∧Pd.lX Q∧∀p,p∈Q↔p∈aS (l.map MR.ak))):=by
    refine(pD w4 _ rd rc l ya (by omega) (by rw[hle];exact Rm.one)).mono ?_
    rintro e w5 ⟨qd,qc,Q',rfl,q1,q2,q3⟩
    have hQ:Q'=Q:=by
     rw[hQd,←hle]
     exact(Rd.xw q3.out.1 q3.out.2).symm
    subst hQ
    exact⟨qd,qc,rfl,aN q1 (Nat.zero_le _),q2,q3.out.1,q3.out.2⟩
   have FA:Hid (Ax.dV (l.map MR.ak)):=by
    rw[hle]
    exact Rm
   have PG:Hid (Q=Rd.cD (Ax.bw jU)∧l.map MR.ak=Ax.bw jU):=⟨hQd,hle⟩
   have HRG:Hid (∀w5 qd qc,w5.ownsRow 0 112 2 (.slice qd Q.length qc) Q.length (au Q)→Below w4.heap.size w4 w5→(Pd.lX Q∧∀p,p∈Q↔p∈aS (l.map MR.ak))→Calls Tryz.prog 82 #[.pointer (some ⟨rb,0,none⟩),.slice qd Q.length qc] w5 fun e w6=>∃om ok,e=.returned (.tuple #[.map om,.bool ok])∧Hid (Below w0.heap.size w0 w6∧((ok=false∧Rd.state s=none)∨(ok=true∧∃gm R l',om=some gm∧Rd.dJ Q l1 f1=some (R,l',false)∧RdG w0 w6 pt Q R rd rc l gm w3.heap.size)))):=by
    intro w5 qd qc hq RO Co
    have abj:cJ w5 rb l1 f1:=by
     unfold cJ at QU ⊢
     rw[RO.block _ (lt_of_heap QU)]
     exact QU
    obtain⟨k6,kpl⟩:=vW FA.out Co.1 Co.2
    refine(zm w0 w5 rb Q Co.1 k6 (fun p hp=>⟨(kpl p hp).1.2,Nat.le_trans (kpl p hp).2 (by decide)⟩) l1 f1 FD (UR.trans (RO.mono UR.size)) H1.out.1 abj HU0.out qd qc hq).mono ?_
    rintro e w6 ⟨lW,hh⟩
    have jO:Rd.dJ Q l1 f1=none∨(∃R l',Rd.dJ Q l1 f1=some (R,l',true))→Rd.state s=none:=by
     intro hg
     refine Rd.uW SJ.out cN Ys.out HH0.out ?_
     rw[←PG.out.1,←V9.out.1,←V9.out.2]
     exact hg
    rcases hh with⟨rfl,hg⟩ | ⟨gm,R,l',f',rfl,hg,⟨G,k1,k2,_⟩,sO⟩
    · exact⟨none,false,rfl,lW,.inl ⟨rfl,jO (.inl hg)⟩⟩
    · cases f' with
      | true=>exact⟨some gm,false,rfl,lW,.inl ⟨rfl,jO (.inr ⟨R,l',hg⟩)⟩⟩
      | false=>exact⟨some gm,true,rfl,lW,.inr ⟨rfl,gm,R,l',rfl,hg,⟨lW,(ya.below RO).tk sO (by decide) (by decide) (by decide),⟨G,k1,k2⟩,sO.heap (by rw[RO.block _ (lt_of_heap yX)];exact yX) (by decide)⟩⟩⟩
   have ZJ:Hid (pt.size≤600):=Zq
   clear PC qz J8 Ua Uh UR yX ya QU H1 H2 H3 PN zS ET Rm Zq hle hQd
   generalize w3.heap.size=pb at*
   go_upto_region 9 with(first | (go_at_call 59;refine AJ.out.mono ?_;rintro e w5 ⟨qd,qc,rfl,H5⟩) | (go_at_call 82;refine(HRG.out w5 qd qc H5.out.1 H5.out.2.1 H5.out.2.2).mono ?_;rintro e w6 ⟨om,ok6,rfl,H6⟩))
   have wa:Hid (Pd.lX Q∧∀p,p∈Q↔p∈aS (l.map MR.ak)):=H5.out.2.2
   clear AJ HRG H5 x0 x1 X6
   cases ok6 with
   | false=>
    have HR:Hid (Rd.state s=none):=by
     rcases H6.out.2 with⟨_,h⟩ | ⟨h,_⟩
     · exact h
     · cases h
    obtain⟨FG,qJ,lW⟩:=km.out w6 H6.out.1
    have Qu:Hid (w6.there w.heap.size 0 fB.size):=FG
    clear H6 km FG
    go_wp2_with (refine wpList_store_mid rfl 107 (.tmp 2) (.tmp 42) rfl w.heap.size 0 fB rfl rfl Qu.out oN.out mR.out ?_)
    refine bodyPost_ret (v:=.tuple #[.agg fB,.bool false]) ?_ rfl ⟨lW,.inl ⟨rfl,HR.out⟩⟩
    refine Eq.trans (ba rfl _ _ _ _ _ _ _ rfl qJ Tryz.underlying107 rfl oN.out) ?_
    rfl
   | true=>
    obtain⟨gm,R,l',hom,UM,hG6⟩:∃gm R l',om=some gm∧Rd.dJ Q l1 f1=some (R,l',false)∧RdG w0 w6 pt Q R rd rc l gm pb:=by
     rcases H6.out.2 with⟨h,_⟩ | ⟨_,h⟩
     · cases h
     · exact h
    subst hom
    have P4:Hid (RdG w0 w6 pt Q R rd rc l gm pb):=hG6
    have HGV:Hid (Rd.dJ Q l1 f1=some (R,l',false)):=UM
    clear H6 hG6 UM
    have VF:Hid (∀p,(R p).length≤200):=by
     intro p
     have h9:=HGV.out
     unfold Rd.dJ at h9
     have h8:=(Rd.Ak Q _ _ _ (dS wa.out.1) h9 p).1
     simpa using h8
    obtain⟨Y,hY⟩:∃Y:Prop,Y=(Rd.state s=none):=⟨_,rfl⟩
    obtain⟨Z,hZ⟩:∃Z:Nat→List HT→En.cU En.bE→Prop,Z=fun hm T sea=>Rd.xj Q R≤40∧cg (l.map MR.ak) (Rd.Ct Q R)=some sea∧T.map iR=Q.reverse:=⟨_,rfl⟩
    have HYZ:Hid (Y=(Rd.state s=none)∧Z=fun hm T sea=>Rd.xj Q R≤40∧cg (l.map MR.ak) (Rd.Ct Q R)=some sea∧T.map iR=Q.reverse):=⟨hY,hZ⟩
    have Hx:Hid (∀b cb W,MX w6 pb pt (.slice rd l.length rc) hd b cb W→Calls Tryz.prog 57 #[.agg #[.string pt,.slice rd l.length rc],.map (some gm),.agg (Rc.bB hd).toArray] W fun e w'=>∃cs ok,e=.returned (.tuple #[.agg cs,.bool ok])∧ve cs b w'∧DW w6 pb pt (.slice rd l.length rc) gm hd Y Z cs ok b cb w'):=by
     intro b cb W hW
     obtain⟨G,PI,g2⟩:=P4.out.rA
     have g1:=PI.below hW.be
     have C5:=K8 (P4.out.rul.below hW.be) FA.out
     have hqn:=dS wa.out.1
     have U3:fh G=Rd.xj Q R:=Rd.Af g2 PI.names hqn
     have mh:cQ Q G=Rd.Ct Q R:=Rd.AD g2 PI.names
     have xE:fh G≤1000000:=by
      rw[U3]
      unfold Rd.xj
      have h7:=(vW FA.out wa.out.1 wa.out.2).1
      have h8:∀q:List Pd.Pr,(q.map fun p=>(R p.1).length).sum≤200*q.length:=by
       intro q
       induction q with
       | nil=>simp
       | cons a q ih=>
        have:=VF.out a.1
        simp only[List.map_cons,List.sum_cons,List.length_cons]
        omega
      have:=h8 Q
      omega
     refine(Nx W pt rd rc l C5 CS FA.out.one (fun p hp=> ?_) gm G g1 (fun p hp=> ?_) (fun t ht=> ?_) xE hd cN).mono ?_
     · exact Nat.le_trans ((vW FA.out wa.out.1 wa.out.2).2 p ((wa.out.2 p).2 hp)).2 (by decide)
     · obtain⟨t,ht,e,_⟩:=g2.has p ((wa.out.2 p).2 hp)
       rw[←e]
       exact List.mem_map_of_mem ht
     · rw[(g2.sub t ht).2]
       exact Nat.le_trans (VF.out _) (by decide)
     · rintro e w' ⟨hbm,hh⟩
       have h2:=hW.below hbm
       rcases hh with⟨rfl,hn⟩ | ⟨C0,hm,T,sea,Q',rfl,m1,m2,m3,m4,m5,m6⟩
       · refine⟨fB,false,rfl,EC h2 oG vR,h2,oG,.inl ⟨rfl,rfl, ?_⟩⟩
         rw[HYZ.out.1]
         refine Rd.G3 SJ.out cN Ys.out HH0.out (R:=R) (l:=l') ?_ ?_
         · rw[←PG.out.1,←V9.out.1,←V9.out.2]
           exact HGV.out
         · intro SZ
           rw[←PG.out.1,←U3]at SZ
           obtain⟨Q',a1,a2,a3⟩:=hn SZ
           have U6:Q'=Q:=Pd.mV a1 wa.out.1 (fun x=>(a2 x).trans (wa.out.2 x).symm)
           subst U6
           rw[←PG.out.1,←PG.out.2,←mh]
           exact a3
       · have U6:Q'=Q:=Pd.mV m1 wa.out.1 (fun x=>(m2 x).trans (wa.out.2 x).symm)
         subst U6
         refine⟨_,true,rfl,EC h2 (aQ _ _ _ _ cN) (gV _ _ _ _ _ _ _),h2,aQ _ _ _ _ cN,.inr ⟨rfl,hm,T,sea,rfl,m4, ?_, ?_⟩⟩
         · rw[HYZ.out.2]
           exact⟨by rw[←U3];exact C0,by rw[←mh];exact m3,m5⟩
         · intro x hx y hy
           obtain⟨_,C,k2,_⟩:=hW.da x hx
           have k3:=lt_of_heap k2
           have:=m6 y hy
           omega
    have hM:MX w6 pb pt (.slice rd l.length rc) hd none none w6.drew:=by
     refine MX.drew ⟨Below.refl _ _,lt_of_heap P4.out.Z8,by rw[cell_of_row _ _ _ _ _ _ P4.out.Z8];rfl,by rw[cell_of_row _ _ _ _ _ _ P4.out.Z8];rfl,(fun x h=>by cases h),(fun x h=>by cases h)⟩
    have X6:=lt_of_heap P4.out.Z8
    obtain⟨SH,Q3⟩:∃SH:ByteArray,SH=⟨hd.toArray⟩:=⟨_,rfl⟩
    have ZK:Hid (SH=⟨hd.toArray⟩):=Q3
    rw[←Q3]at hSH
    have adK:SH.size=32:=by rw[Q3];exact cN
    have Ml:∀W,(convert 9 63 (.string SH)).run Tryz.prog W=.ok (.slice (some ⟨W.heap.size,0,none⟩) 32 (grownCap W 32 0 5)) (Lib.bytesWorld W 5 SH):=by
     intro W
     have h9:=Lib.run_convert_string_bytes (P:=Tryz.prog) W 9 63 5 SH Tryz.underlying9 Tryz.underlying63 Tryz.underlying5
     rw[adK]at h9
     exact h9
    have VI:=U9
    have Gg:(Tryz.prog.info? 105).map (·.size)=some (Rc.bB hd).length:=by
     rw[Rc.bC,cN]
     kernel_rfl
    clear Q3 hY hZ
    go_upto_region 11 with fail
    go_cut [11,10]from 43 (fun v11 v10 wx=>Hid (MRg w6 pt (.slice rd l.length rc) gm hd Y Z v11 v10 wx))
    case first=>
     refine wp_region_held_drew (S:=fun W=>W.cell? ⟨pb,0,none⟩=some (.string pt)∧W.cell? ⟨pb,1,none⟩=some (.slice rd l.length rc)) (by kernel_rfl) hM.cells (fun cT=> ?_)
     generalize w6.drew=wn at hM cT ⊢
     refine wpAnyH_take (i:=0) (v:= ?_) rfl (by kernel_rfl) (by kernel_rfl) (by kernel_rfl) (fun _ _ _ h=>h) (Or.inl ⟨by rfl, ?_⟩) (by assumption) ?_
     rotate_left
     · intro wS jq
       (try obtain⟨lr,lp⟩:=jq)
       go_simp
       (try with_reducible rfl)
     try simp only[Act.put,List.setIfInBounds_toArray,List.set_cons_zero,List.set_cons_succ]
     refine wpAnyH_take (i:=1) (v:= ?_) rfl (by kernel_rfl) (by kernel_rfl) (by kernel_rfl) (fun _ _ _ h=>h) (Or.inl ⟨by rfl, ?_⟩) (by assumption) ?_
     rotate_left
     · intro wS jq
       (try obtain⟨lr,lp⟩:=jq)
       go_simp
       (try with_reducible rfl)
     try simp only[Act.put,List.setIfInBounds_toArray,List.set_cons_zero,List.set_cons_succ]
     refine wpAnyH_take (i:=2) (v:= ?_) rfl (by kernel_rfl) (by kernel_rfl) (by kernel_rfl) (fun _ _ _ h=>h) (Or.inl ⟨by rfl, ?_⟩) (by assumption) ?_
     rotate_left
     · intro wS jq
       (try obtain⟨lr,lp⟩:=jq)
       go_simp
       (try with_reducible rfl)
     try simp only[Act.put,List.setIfInBounds_toArray,List.set_cons_zero,List.set_cons_succ]
     refine wpAnyH_take (i:=3) (v:= ?_) rfl (by kernel_rfl) (by kernel_rfl) (by kernel_rfl) (fun _ _ _ h=>h) (Or.inl ⟨by rfl, ?_⟩) (by assumption) ?_
     rotate_left
     · intro wS jq
       (try obtain⟨lr,lp⟩:=jq)
       go_simp
       (try with_reducible rfl)
     try simp only[Act.put,List.setIfInBounds_toArray,List.set_cons_zero,List.set_cons_succ]
     refine wpAnyH_take (i:=4) (v:= ?_) rfl (by kernel_rfl) (by kernel_rfl) (by kernel_rfl) (fun _ _ _ h=>h) (Or.inl ⟨by rfl, ?_⟩) (by assumption) ?_
     rotate_left
     · intro wS jq
       (try obtain⟨lr,lp⟩:=jq)
       go_simp
       (try with_reducible rfl)
     try simp only[Act.put,List.setIfInBounds_toArray,List.set_cons_zero,List.set_cons_succ]
     refine wpAnyH_ready (rs:=[5,12]) (by kernel_rfl) (by simp) ?_
     refine AllReadyH.cons rfl (fun Kq im=> ?_) (AllReadyH.cons rfl (fun Kq im=> ?_) AllReadyH.nil)
     · go_simp
       have qg:=MX.conv hM
       rw[←ZK.out]at qg
       refine im.out _ _ qg.cells (fun cT=> ?_)
       clear im Kq hM cT
       try simp only[Act.put,List.setIfInBounds_toArray,List.set_cons_zero,List.set_cons_succ]
       generalize wn.heap.size=cbn at qg ⊢
       generalize Lib.bytesWorld wn 5 SH=BQ at qg ⊢
       have hM:=qg
       clear qg
       obtain⟨wn,rfl⟩:∃wn,wn=BQ:=⟨_,rfl⟩
       have cT:=hM.cells
       refine wpAnyH_take (i:=6) (v:= ?_) rfl (by kernel_rfl) (by kernel_rfl) (by kernel_rfl) (fun _ _ _ h=>h) (Or.inl ⟨by rfl, ?_⟩) (by assumption) ?_
       rotate_left
       · intro wS jq
         (try obtain⟨lr,lp⟩:=jq)
         go_simp
         (try with_reducible rfl)
       try simp only[Act.put,List.setIfInBounds_toArray,List.set_cons_zero,List.set_cons_succ]
       refine wpAnyH_ready (rs:=[7,12]) (by kernel_rfl) (by simp) ?_
       refine AllReadyH.cons rfl (fun Kq im=> ?_) (AllReadyH.cons rfl (fun Kq im=> ?_) AllReadyH.nil)
       · rw[if_pos (by rfl)]
         refine wp_load_mid _ _ rfl _ 0 rfl (Rc.bB hd) _ (hM.Yp _ rfl).2 Tryz.underlying105 rfl Gg ?_
         refine im.out _ _ hM.cells (fun cT=> ?_)
         clear im Kq
         try simp only[Act.put,List.setIfInBounds_toArray,List.set_cons_zero,List.set_cons_succ]
         refine wpAnyH_ready (rs:=[8,12]) (by kernel_rfl) (by simp) ?_
         refine AllReadyH.cons rfl (fun Kq im=> ?_) (AllReadyH.cons rfl (fun Kq im=> ?_) AllReadyH.nil)
         · go_simp
           refine(Hx.out _ _ _ hM).mono ?_
           rintro e w5 ⟨cs,ok,rfl,eo,hE⟩
           unfold ve at eo
           dsimp only at eo
           refine im.out _ _ hE.mx.cells (fun cT=> ?_)
           clear im Kq hM cT
           try simp only[Act.put,List.setIfInBounds_toArray,List.set_cons_zero,List.set_cons_succ]
           obtain⟨wn,rfl⟩:∃wn,wn=w5:=⟨_,rfl⟩
           have cT:=hE.mx.cells
           refine wpAnyH_take (i:=9) (v:= ?_) rfl (by kernel_rfl) (by kernel_rfl) (by kernel_rfl) (fun _ _ _ h=>h) (Or.inl ⟨by rfl, ?_⟩) (by assumption) ?_
           rotate_left
           · intro wS jq
             (try obtain⟨lr,lp⟩:=jq)
             go_simp
             (try with_reducible rfl)
           try simp only[Act.put,List.setIfInBounds_toArray,List.set_cons_zero,List.set_cons_succ]
           refine wpAnyH_take (i:=10) (v:= ?_) rfl (by kernel_rfl) (by kernel_rfl) (by kernel_rfl) (fun _ _ _ h=>h) (Or.inl ⟨by rfl, ?_⟩) (by assumption) ?_
           rotate_left
           · intro wS jq
             (try obtain⟨lr,lp⟩:=jq)
             go_simp
             (try with_reducible rfl)
           try simp only[Act.put,List.setIfInBounds_toArray,List.set_cons_zero,List.set_cons_succ]
           refine wpAnyH_take (i:=11) (v:= ?_) rfl (by kernel_rfl) (by kernel_rfl) (by kernel_rfl) (fun _ _ _ h=>h) (Or.inl ⟨by rfl, ?_⟩) (by assumption) ?_
           rotate_left
           · intro wS jq
             (try obtain⟨lr,lp⟩:=jq)
             go_simp
             (try with_reducible rfl)
           try simp only[Act.put,List.setIfInBounds_toArray,List.set_cons_zero,List.set_cons_succ]
           refine wpAnyH_ready (rs:=[12]) (by kernel_rfl) (by simp) ?_
           refine AllReadyH.cons rfl (fun Kq im=> ?_) AllReadyH.nil
           go_simp
           obtain⟨BQ,nK⟩:∃BQ,BQ=wn.alloc (.cells (vm (.string ⟨#[]⟩) (.slice none 0 0) (.map none) (.map none)) 107):=⟨_,rfl⟩
           have ZL:=DW.alloc hE (C:=(vm (.string ⟨#[]⟩) (.slice none 0 0) (.map none) (.map none))) rfl
           have C9:=eo (vm (.string ⟨#[]⟩) (.slice none 0 0) (.map none) (.map none)) rfl
           rw[←nK]at ZL C9
           unfold vm at nK
           rw[←nK]
           refine im.out _ _ ZL.mx.cells (fun cT=> ?_)
           clear im Kq hE eo cT nK
           try simp only[Act.put,List.setIfInBounds_toArray,List.set_cons_zero,List.set_cons_succ]
           generalize wn.heap.size=xbn at ZL C9 ⊢
           have hE:=ZL
           have eo:=C9
           clear ZL C9
           obtain⟨wn,rfl⟩:∃wn,wn=BQ:=⟨_,rfl⟩
           have cT:=hE.mx.cells
           refine wpAnyH_ready (rs:=[13]) (by kernel_rfl) (by simp) ?_
           refine AllReadyH.cons rfl (fun Kq im=> ?_) AllReadyH.nil
           have cr:=hE.sz
           go_simp
           refine im.out _ _ (DW.kg hE) (fun cT=> ?_)
           clear im Kq
           try simp only[Act.put,List.setIfInBounds_toArray,List.set_cons_zero,List.set_cons_succ]
           refine wpAnyH_take (i:=14) (oi:=⟨some 10,.assign (.tmp 54),4,"read.go:31",#[⟨11,.data⟩,⟨13,.chain⟩,⟨0,.phase⟩,⟨1,.phase⟩,⟨2,.phase⟩,⟨3,.phase⟩,⟨4,.phase⟩,⟨5,.phase⟩,⟨6,.phase⟩,⟨7,.phase⟩,⟨8,.phase⟩,⟨9,.phase⟩,⟨10,.phase⟩,⟨11,.phase⟩,⟨12,.phase⟩,⟨13,.phase⟩],none⟩) (v:= ?_) rfl (by kernel_rfl) (by kernel_rfl) (by kernel_rfl) (fun _ _ _ h=>h) (Or.inl ⟨by rfl, ?_⟩) (by assumption) ?_
           rotate_left
           · intro wS jq
             (try obtain⟨lr,lp⟩:=jq)
             go_simp
             (try with_reducible rfl)
           try simp only[Act.put,List.setIfInBounds_toArray,List.set_cons_zero,List.set_cons_succ]
           refine wpAnyH_done (by kernel_rfl) ?_ _
           go_wp2_with fail
           go_meet
           exact DW.cut hE
         · go_simp
           obtain⟨BQ,nK⟩:∃BQ,BQ=wn.alloc (.cells (vm (.string ⟨#[]⟩) (.slice none 0 0) (.map none) (.map none)) 107):=⟨_,rfl⟩
           have qg:=MX.alloc hM (Z:=(vm (.string ⟨#[]⟩) (.slice none 0 0) (.map none) (.map none))) rfl
           rw[←nK]at qg
           unfold vm at nK
           rw[←nK]
           refine im.out _ _ qg.cells (fun cT=> ?_)
           clear im Kq hM cT nK
           try simp only[Act.put,List.setIfInBounds_toArray,List.set_cons_zero,List.set_cons_succ]
           generalize wn.heap.size=xbn at qg ⊢
           have hM:=qg
           clear qg
           obtain⟨wn,rfl⟩:∃wn,wn=BQ:=⟨_,rfl⟩
           have cT:=hM.cells
           refine wpAnyH_ready (rs:=[8]) (by kernel_rfl) (by simp) ?_
           refine AllReadyH.cons rfl (fun Kq im=> ?_) AllReadyH.nil
           go_simp
           refine(Hx.out _ _ _ hM).mono ?_
           rintro e w5 ⟨cs,ok,rfl,eo,hE⟩
           unfold ve at eo
           dsimp only at eo
           refine im.out _ _ hE.mx.cells (fun cT=> ?_)
           clear im Kq hM cT
           try simp only[Act.put,List.setIfInBounds_toArray,List.set_cons_zero,List.set_cons_succ]
           obtain⟨wn,rfl⟩:∃wn,wn=w5:=⟨_,rfl⟩
           have cT:=hE.mx.cells
           refine wpAnyH_take (i:=9) (v:= ?_) rfl (by kernel_rfl) (by kernel_rfl) (by kernel_rfl) (fun _ _ _ h=>h) (Or.inl ⟨by rfl, ?_⟩) (by assumption) ?_
           rotate_left
           · intro wS jq
             (try obtain⟨lr,lp⟩:=jq)
             go_simp
             (try with_reducible rfl)
           try simp only[Act.put,List.setIfInBounds_toArray,List.set_cons_zero,List.set_cons_succ]
           refine wpAnyH_take (i:=10) (v:= ?_) rfl (by kernel_rfl) (by kernel_rfl) (by kernel_rfl) (fun _ _ _ h=>h) (Or.inl ⟨by rfl, ?_⟩) (by assumption) ?_
           rotate_left
           · intro wS jq
             (try obtain⟨lr,lp⟩:=jq)
             go_simp
             (try with_reducible rfl)
           try simp only[Act.put,List.setIfInBounds_toArray,List.set_cons_zero,List.set_cons_succ]
           refine wpAnyH_take (i:=11) (v:= ?_) rfl (by kernel_rfl) (by kernel_rfl) (by kernel_rfl) (fun _ _ _ h=>h) (Or.inl ⟨by rfl, ?_⟩) (by assumption) ?_
           rotate_left
           · intro wS jq
             (try obtain⟨lr,lp⟩:=jq)
             go_simp
             (try with_reducible rfl)
           try simp only[Act.put,List.setIfInBounds_toArray,List.set_cons_zero,List.set_cons_succ]
           refine wpAnyH_ready (rs:=[13]) (by kernel_rfl) (by simp) ?_
           refine AllReadyH.cons rfl (fun Kq im=> ?_) AllReadyH.nil
           have cr:=hE.sz
           go_simp
           refine im.out _ _ (DW.kg hE) (fun cT=> ?_)
           clear im Kq
           try simp only[Act.put,List.setIfInBounds_toArray,List.set_cons_zero,List.set_cons_succ]
           refine wpAnyH_take (i:=14) (oi:=⟨some 10,.assign (.tmp 54),4,"read.go:31",#[⟨11,.data⟩,⟨13,.chain⟩,⟨0,.phase⟩,⟨1,.phase⟩,⟨2,.phase⟩,⟨3,.phase⟩,⟨4,.phase⟩,⟨5,.phase⟩,⟨6,.phase⟩,⟨7,.phase⟩,⟨8,.phase⟩,⟨9,.phase⟩,⟨10,.phase⟩,⟨11,.phase⟩,⟨12,.phase⟩,⟨13,.phase⟩],none⟩) (v:= ?_) rfl (by kernel_rfl) (by kernel_rfl) (by kernel_rfl) (fun _ _ _ h=>h) (Or.inl ⟨by rfl, ?_⟩) (by assumption) ?_
           rotate_left
           · intro wS jq
             (try obtain⟨lr,lp⟩:=jq)
             go_simp
             (try with_reducible rfl)
           try simp only[Act.put,List.setIfInBounds_toArray,List.set_cons_zero,List.set_cons_succ]
           refine wpAnyH_done (by kernel_rfl) ?_ _
           go_wp2_with fail
           go_meet
           exact DW.cut hE
       · go_simp
         obtain⟨BQ,nK⟩:∃BQ,BQ=wn.alloc (.cells (vm (.string ⟨#[]⟩) (.slice none 0 0) (.map none) (.map none)) 107):=⟨_,rfl⟩
         have qg:=MX.alloc hM (Z:=(vm (.string ⟨#[]⟩) (.slice none 0 0) (.map none) (.map none))) rfl
         rw[←nK]at qg
         unfold vm at nK
         rw[←nK]
         refine im.out _ _ qg.cells (fun cT=> ?_)
         clear im Kq hM cT nK
         try simp only[Act.put,List.setIfInBounds_toArray,List.set_cons_zero,List.set_cons_succ]
         generalize wn.heap.size=xbn at qg ⊢
         have hM:=qg
         clear qg
         obtain⟨wn,rfl⟩:∃wn,wn=BQ:=⟨_,rfl⟩
         have cT:=hM.cells
         refine wpAnyH_ready (rs:=[7]) (by kernel_rfl) (by simp) ?_
         refine AllReadyH.cons rfl (fun Kq im=> ?_) AllReadyH.nil
         rw[if_pos (by rfl)]
         refine wp_load_mid _ _ rfl _ 0 rfl (Rc.bB hd) _ (hM.Yp _ rfl).2 Tryz.underlying105 rfl Gg ?_
         refine im.out _ _ hM.cells (fun cT=> ?_)
         clear im Kq
         try simp only[Act.put,List.setIfInBounds_toArray,List.set_cons_zero,List.set_cons_succ]
         refine wpAnyH_ready (rs:=[8]) (by kernel_rfl) (by simp) ?_
         refine AllReadyH.cons rfl (fun Kq im=> ?_) AllReadyH.nil
         go_simp
         refine(Hx.out _ _ _ hM).mono ?_
         rintro e w5 ⟨cs,ok,rfl,eo,hE⟩
         unfold ve at eo
         dsimp only at eo
         refine im.out _ _ hE.mx.cells (fun cT=> ?_)
         clear im Kq hM cT
         try simp only[Act.put,List.setIfInBounds_toArray,List.set_cons_zero,List.set_cons_succ]
         obtain⟨wn,rfl⟩:∃wn,wn=w5:=⟨_,rfl⟩
         have cT:=hE.mx.cells
         refine wpAnyH_take (i:=9) (v:= ?_) rfl (by kernel_rfl) (by kernel_rfl) (by kernel_rfl) (fun _ _ _ h=>h) (Or.inl ⟨by rfl, ?_⟩) (by assumption) ?_
         rotate_left
         · intro wS jq
           (try obtain⟨lr,lp⟩:=jq)
           go_simp
           (try with_reducible rfl)
         try simp only[Act.put,List.setIfInBounds_toArray,List.set_cons_zero,List.set_cons_succ]
         refine wpAnyH_take (i:=10) (v:= ?_) rfl (by kernel_rfl) (by kernel_rfl) (by kernel_rfl) (fun _ _ _ h=>h) (Or.inl ⟨by rfl, ?_⟩) (by assumption) ?_
         rotate_left
         · intro wS jq
           (try obtain⟨lr,lp⟩:=jq)
           go_simp
           (try with_reducible rfl)
         try simp only[Act.put,List.setIfInBounds_toArray,List.set_cons_zero,List.set_cons_succ]
         refine wpAnyH_take (i:=11) (v:= ?_) rfl (by kernel_rfl) (by kernel_rfl) (by kernel_rfl) (fun _ _ _ h=>h) (Or.inl ⟨by rfl, ?_⟩) (by assumption) ?_
         rotate_left
         · intro wS jq
           (try obtain⟨lr,lp⟩:=jq)
           go_simp
           (try with_reducible rfl)
         try simp only[Act.put,List.setIfInBounds_toArray,List.set_cons_zero,List.set_cons_succ]
         refine wpAnyH_ready (rs:=[13]) (by kernel_rfl) (by simp) ?_
         refine AllReadyH.cons rfl (fun Kq im=> ?_) AllReadyH.nil
         have cr:=hE.sz
         go_simp
         refine im.out _ _ (DW.kg hE) (fun cT=> ?_)
         clear im Kq
         try simp only[Act.put,List.setIfInBounds_toArray,List.set_cons_zero,List.set_cons_succ]
         refine wpAnyH_take (i:=14) (oi:=⟨some 10,.assign (.tmp 54),4,"read.go:31",#[⟨11,.data⟩,⟨13,.chain⟩,⟨0,.phase⟩,⟨1,.phase⟩,⟨2,.phase⟩,⟨3,.phase⟩,⟨4,.phase⟩,⟨5,.phase⟩,⟨6,.phase⟩,⟨7,.phase⟩,⟨8,.phase⟩,⟨9,.phase⟩,⟨10,.phase⟩,⟨11,.phase⟩,⟨12,.phase⟩,⟨13,.phase⟩],none⟩) (v:= ?_) rfl (by kernel_rfl) (by kernel_rfl) (by kernel_rfl) (fun _ _ _ h=>h) (Or.inl ⟨by rfl, ?_⟩) (by assumption) ?_
         rotate_left
         · intro wS jq
           (try obtain⟨lr,lp⟩:=jq)
           go_simp
           (try with_reducible rfl)
         try simp only[Act.put,List.setIfInBounds_toArray,List.set_cons_zero,List.set_cons_succ]
         refine wpAnyH_done (by kernel_rfl) ?_ _
         go_wp2_with fail
         go_meet
         exact DW.cut hE
     · go_simp
       obtain⟨BQ,nK⟩:∃BQ,BQ=wn.alloc (.cells (vm (.string ⟨#[]⟩) (.slice none 0 0) (.map none) (.map none)) 107):=⟨_,rfl⟩
       have qg:=MX.alloc hM (Z:=(vm (.string ⟨#[]⟩) (.slice none 0 0) (.map none) (.map none))) rfl
       rw[←nK]at qg
       unfold vm at nK
       rw[←nK]
       refine im.out _ _ qg.cells (fun cT=> ?_)
       clear im Kq hM cT nK
       try simp only[Act.put,List.setIfInBounds_toArray,List.set_cons_zero,List.set_cons_succ]
       generalize wn.heap.size=xbn at qg ⊢
       have hM:=qg
       clear qg
       obtain⟨wn,rfl⟩:∃wn,wn=BQ:=⟨_,rfl⟩
       have cT:=hM.cells
       refine wpAnyH_ready (rs:=[5]) (by kernel_rfl) (by simp) ?_
       refine AllReadyH.cons rfl (fun Kq im=> ?_) AllReadyH.nil
       go_simp
       have qg:=MX.conv hM
       rw[←ZK.out]at qg
       refine im.out _ _ qg.cells (fun cT=> ?_)
       clear im Kq hM cT
       try simp only[Act.put,List.setIfInBounds_toArray,List.set_cons_zero,List.set_cons_succ]
       generalize wn.heap.size=cbn at qg ⊢
       generalize Lib.bytesWorld wn 5 SH=BQ at qg ⊢
       have hM:=qg
       clear qg
       obtain⟨wn,rfl⟩:∃wn,wn=BQ:=⟨_,rfl⟩
       have cT:=hM.cells
       refine wpAnyH_take (i:=6) (v:= ?_) rfl (by kernel_rfl) (by kernel_rfl) (by kernel_rfl) (fun _ _ _ h=>h) (Or.inl ⟨by rfl, ?_⟩) (by assumption) ?_
       rotate_left
       · intro wS jq
         (try obtain⟨lr,lp⟩:=jq)
         go_simp
         (try with_reducible rfl)
       try simp only[Act.put,List.setIfInBounds_toArray,List.set_cons_zero,List.set_cons_succ]
       refine wpAnyH_ready (rs:=[7]) (by kernel_rfl) (by simp) ?_
       refine AllReadyH.cons rfl (fun Kq im=> ?_) AllReadyH.nil
       rw[if_pos (by rfl)]
       refine wp_load_mid _ _ rfl _ 0 rfl (Rc.bB hd) _ (hM.Yp _ rfl).2 Tryz.underlying105 rfl Gg ?_
       refine im.out _ _ hM.cells (fun cT=> ?_)
       clear im Kq
       try simp only[Act.put,List.setIfInBounds_toArray,List.set_cons_zero,List.set_cons_succ]
       refine wpAnyH_ready (rs:=[8]) (by kernel_rfl) (by simp) ?_
       refine AllReadyH.cons rfl (fun Kq im=> ?_) AllReadyH.nil
       go_simp
       refine(Hx.out _ _ _ hM).mono ?_
       rintro e w5 ⟨cs,ok,rfl,eo,hE⟩
       unfold ve at eo
       dsimp only at eo
       refine im.out _ _ hE.mx.cells (fun cT=> ?_)
       clear im Kq hM cT
       try simp only[Act.put,List.setIfInBounds_toArray,List.set_cons_zero,List.set_cons_succ]
       obtain⟨wn,rfl⟩:∃wn,wn=w5:=⟨_,rfl⟩
       have cT:=hE.mx.cells
       refine wpAnyH_take (i:=9) (v:= ?_) rfl (by kernel_rfl) (by kernel_rfl) (by kernel_rfl) (fun _ _ _ h=>h) (Or.inl ⟨by rfl, ?_⟩) (by assumption) ?_
       rotate_left
       · intro wS jq
         (try obtain⟨lr,lp⟩:=jq)
         go_simp
         (try with_reducible rfl)
       try simp only[Act.put,List.setIfInBounds_toArray,List.set_cons_zero,List.set_cons_succ]
       refine wpAnyH_take (i:=10) (v:= ?_) rfl (by kernel_rfl) (by kernel_rfl) (by kernel_rfl) (fun _ _ _ h=>h) (Or.inl ⟨by rfl, ?_⟩) (by assumption) ?_
       rotate_left
       · intro wS jq
         (try obtain⟨lr,lp⟩:=jq)
         go_simp
         (try with_reducible rfl)
       try simp only[Act.put,List.setIfInBounds_toArray,List.set_cons_zero,List.set_cons_succ]
       refine wpAnyH_take (i:=11) (v:= ?_) rfl (by kernel_rfl) (by kernel_rfl) (by kernel_rfl) (fun _ _ _ h=>h) (Or.inl ⟨by rfl, ?_⟩) (by assumption) ?_
       rotate_left
       · intro wS jq
         (try obtain⟨lr,lp⟩:=jq)
         go_simp
         (try with_reducible rfl)
       try simp only[Act.put,List.setIfInBounds_toArray,List.set_cons_zero,List.set_cons_succ]
       refine wpAnyH_ready (rs:=[13]) (by kernel_rfl) (by simp) ?_
       refine AllReadyH.cons rfl (fun Kq im=> ?_) AllReadyH.nil
       have cr:=hE.sz
       go_simp
       refine im.out _ _ (DW.kg hE) (fun cT=> ?_)
       clear im Kq
       try simp only[Act.put,List.setIfInBounds_toArray,List.set_cons_zero,List.set_cons_succ]
       refine wpAnyH_take (i:=14) (oi:=⟨some 10,.assign (.tmp 54),4,"read.go:31",#[⟨11,.data⟩,⟨13,.chain⟩,⟨0,.phase⟩,⟨1,.phase⟩,⟨2,.phase⟩,⟨3,.phase⟩,⟨4,.phase⟩,⟨5,.phase⟩,⟨6,.phase⟩,⟨7,.phase⟩,⟨8,.phase⟩,⟨9,.phase⟩,⟨10,.phase⟩,⟨11,.phase⟩,⟨12,.phase⟩,⟨13,.phase⟩],none⟩) (v:= ?_) rfl (by kernel_rfl) (by kernel_rfl) (by kernel_rfl) (fun _ _ _ h=>h) (Or.inl ⟨by rfl, ?_⟩) (by assumption) ?_
       rotate_left
       · intro wS jq
         (try obtain⟨lr,lp⟩:=jq)
         go_simp
         (try with_reducible rfl)
       try simp only[Act.put,List.setIfInBounds_toArray,List.set_cons_zero,List.set_cons_succ]
       refine wpAnyH_done (by kernel_rfl) ?_ _
       go_wp2_with fail
       go_meet
       exact DW.cut hE
    case rest=>
     obtain⟨x,cs,ok,abq,Vp,hcz,hx,dv,vN⟩:=hcut.out
     subst Vp
     subst abq
     have zJ:Below w0.heap.size w0 wc:=P4.out.be.trans (vN.mono P4.out.be.size)
     cases ok with
     | false=>
      have HR:Hid (Rd.state s=none):=by
       rcases dv with⟨_,_,h⟩ | ⟨h,_⟩
       · rw[HYZ.out.1]at h
         exact h
       · cases h
      obtain⟨FG,qJ,lW⟩:=km.out wc zJ
      have Qu:Hid (wc.there w.heap.size 0 fB.size):=FG
      clear hcut dv vN zJ km FG hM Ml VI Gg Hx
      go_wp2_with (refine wpList_store_mid rfl 107 (.tmp 2) (.tmp 63) rfl w.heap.size 0 fB rfl rfl Qu.out oN.out mR.out ?_)
      refine bodyPost_ret (v:=.tuple #[.agg fB,.bool false]) ?_ rfl ⟨lW,.inl ⟨rfl,HR.out⟩⟩
      refine Eq.trans (ba rfl _ _ _ _ _ _ _ rfl qJ Tryz.underlying107 rfl oN.out) ?_
      rfl
     | true=>
      obtain⟨hm,T,sea,bA,hH,hZz⟩:∃hm T sea,cs=aI pt (.slice rd l.length rc) gm hm hd∧p5 wc hm T sea∧Z hm T sea:=by
       rcases dv with⟨h,_⟩ | ⟨_,hm,T,sea,a,b,c,_⟩
       · cases h
       · exact⟨hm,T,sea,a,b,c⟩
      rw[HYZ.out.2]at hZz
      obtain⟨C0,QM,hT⟩:=hZz
      subst bA
      obtain⟨G,PI,g2⟩:=P4.out.rA
      have Wb:=vW FA.out wa.out.1 wa.out.2
      have To:Gs.FQ Q sea:=by
       obtain⟨i1,i2⟩:=En.oE FA.out QM
       refine⟨dS wa.out.1,fun p hp=>(Wb.2 p hp).1,i2,i1.nodup,En.count_le FA.out QM,fun f hf=> ?_⟩
       have h9:=En.O4 FA.out (gl:=Rd.Ct Q R) (fun f hf=> ?_) QM f hf
       · obtain⟨names,a1,a2,a3⟩:=h9
         exact⟨names,(wa.out.2 _).2 a1,a2,a3⟩
       · obtain⟨p,hp,hf⟩:=List.mem_flatMap.1 hf
         obtain⟨r,hr,rfl⟩:=List.mem_map.1 hf
         have h9:=HGV.out
         unfold Rd.dJ at h9
         have h8:=Rd.um Q _ _ _ (X:=fun p r=>∃names:List ByteArray,(p,names.length)∈Q∧r=Tb.dh names∧∀x,x∈names→x.size≤600) (fun p r hr=>by cases hr) (fun p hp names e1 e2=>⟨names,by rw[e1];exact hp,rfl,fun x hx=>Nat.le_trans (e2 x hx) (by decide)⟩) h9 p.1 r hr
         obtain⟨names,a1,a2,a3⟩:=h8
         exact⟨names,(wa.out.2 _).1 a1,a2,a3⟩
      have TO:Gs.Ok (Gs.cP pt Q R sea):=Gs.MO ZJ.out Wb.1 R To
      have QO:aB wc rd rc l:=P4.out.rul.below vN
      have hSt:Gs.zW wc (Gs.cP pt Q R sea) (.slice rd l.length rc) gm hm:=Gs.B0 QO FA.out wa.out.1 wa.out.2 (PI.below vN) g2 (fun t ht=>by rw[(g2.sub t ht).2];exact Nat.le_trans (VF.out _) (by decide)) hH (fun p hp=>by rw[hT,List.mem_reverse];exact hp) To
      have Z1:=Rd.wL (s:=s) SJ.out cN Ys.out HH0.out (R:=R) (l:=l') (by rw[←PG.out.1,←V9.out.1,←V9.out.2];exact HGV.out) (by rw[←PG.out.1];exact C0) (sea:=sea) (by rw[←PG.out.1,←PG.out.2];exact QM)
      rw[←HPT.out,←PG.out.1]at Z1
      obtain⟨D,PL⟩:∃D,D=Gs.cP pt Q R sea:=⟨_,rfl⟩
      have P0:D.pl=pt:=by rw[PL];rfl
      rw[←PL]at Z1 hSt TO
      have cr:=aQ pt (.slice rd l.length rc) gm hm cN
      have DI:=gV pt rd l.length rc gm hm hd
      obtain⟨BB,Ud⟩:∃BB:ByteArray,BB=⟨(Gs.body D++hd).toArray⟩:=⟨_,rfl⟩
      have HBY:Hid (Calls Tryz.prog 44 #[.agg (aI pt (.slice rd l.length rc) gm hm hd)] wc fun e w9=>e=.returned (.string BB)∧Below wc.heap.size wc w9):=by
       rw[Ud,←P0]
       exact Gs.Bl wc D TO rd l.length rc gm hm hd cN hSt
      have HLS:Hid ((Gs.body D++hd=s→Rd.state s=some (D,hd))∧(¬Gs.body D++hd=s→Rd.state s=none)):=Z1
      have HDD:Hid (D=Gs.cP pt Q R sea):=PL
      have HQ:Hid (Gs.Ok D∧D.pl=pt∧Below w0.heap.size w0 wc∧aB wc rd rc l∧jY wc gm G∧GQ G Q R∧p5 wc hm T sea∧T.map iR=Q.reverse∧Gs.FQ Q sea):=⟨TO,P0,zJ,QO,PI.below vN,g2,hH,hT,To⟩
      have Rr:∀W:World,Below wc.heap.size wc W→W.heap[w.heap.size]?=some (.cells fB 107 (0,0)):=fun W hW=>by
       have h1:wc.heap[w.heap.size]?=some (.cells fB 107 (0,0)):=by rw[zJ.block _ (lt_of_heap Y2.out)];exact Y2.out
       rw[hW.block _ (lt_of_heap h1)]
       exact h1
      by_cases Ry:Gs.body D++hd=s
      · have hBS:BB=S:=by rw[Ud,HSB.out,Ry]
        subst hBS
        have vo:Hid (∀W:World,Below wc.heap.size wc W→(storeCells ⟨w.heap.size,0,none⟩ (aI pt (.slice rd l.length rc) gm hm hd).toList).run Tryz.prog W=.ok () (W.setCells w.heap.size 0 (aI pt (.slice rd l.length rc) gm hm hd).toList)):=fun W hW=>cO (Rr W hW) rfl cr DI
        have HZ9:Hid (∀W:World,Below wc.heap.size wc W→W.heap[w.heap.size]?=some (.cells fB 107 (0,0))):=Rr
        have WN:Hid (Gs.body D++hd=s):=Ry
        clear hcut QO PI g2 hSt hH hT zJ Rr Hx hM Ml VI Gg DI vN dv Z1 TO PL Ud To QM C0 Wb Ry P0
        go_wp2_with (first | (refine wpList_load_row rfl _ _ rfl x rfl _ _ _ _ hx9 Tryz.underlying107 rfl (by rw[cr];kernel_rfl) ?_) | (refine mz (by rfl) _ _ rfl x rfl _ _ _ _ hx Tryz.underlying107 rfl (by rw[cr];kernel_rfl) ?_) | (go_at_call 44;refine HBY.out.mono ?_;rintro e w9 ⟨rfl,H9⟩;have hx9:w9.heap[x]?=some (.cells (aI pt (.slice rd l.length rc) gm hm hd) 107 (0,0)):=(by rw[H9.block _ (lt_of_heap hx)];exact hx);have hs9:=vo.out w9 H9))
        obtain⟨q1,q3,q4,r1,r2,r3,r4,r5,r6⟩:=HQ.out
        have YJ:=HZ9.out w9 H9
        have qJ:=eO YJ rfl cr
        obtain⟨_,hk9⟩:=bO w.heap.size (aI pt (.slice rd l.length rc) gm hm hd).toList 0 _ w9 YJ (by rw[Array.length_toList,cr];exact Nat.le_refl 36)
        have adJ:Below w0.heap.size w0 w9:=q4.trans (H9.mono q4.size)
        have hw9:Below w.heap.size w w9:=HB0.out.trans (adJ.mono HB0.out.size)
        have adx:aB (w9.setCells w.heap.size 0 (aI pt (.slice rd l.length rc) gm hm hd).toList) rd rc l:=by
         refine(r1.below H9).kept hk9 ?_
         intro b cur U hb e
         simp only[List.mem_cons,List.not_mem_nil,or_false]at hb
         subst hb
         rw[YJ]at e
         simp at e
         rw[←e.2]
         decide
        have aa6:Gs.zW (w9.setCells w.heap.size 0 (aI pt (.slice rd l.length rc) gm hm hd).toList) D (.slice rd l.length rc) gm hm:=by
         rw[HDD.out]
         exact Gs.B0 adx FA.out wa.out.1 wa.out.2 ((r2.below H9).kept hk9 ((r2.below H9).kG YJ (by decide) (by decide))) r3 (fun t ht=>by rw[(r3.sub t ht).2];exact Nat.le_trans (VF.out _) (by decide)) ((r4.below H9).kept hk9 ((r4.below H9).kG YJ (by decide) (by decide) (by decide))) (fun p hp=>by rw[r5,List.mem_reverse];exact hp) r6
        refine bodyPost_ret (v:=.tuple #[.agg (aI pt (.slice rd l.length rc) gm hm hd),.bool true]) ?_ rfl ⟨hk9.aK hw9 hw9.size (by simp),.inr ⟨D,hd,rd,l.length,rc,gm,hm,by rw[q3],HLS.out.1 WN.out,cN,q1,aa6,WN.out⟩⟩
        refine Eq.trans (ba rfl _ _ _ _ _ _ _ rfl qJ Tryz.underlying107 rfl (by rw[cr];kernel_rfl)) ?_
        rfl
      · have hBS:¬BB=S:=by
         rw[Ud,HSB.out]
         intro e
         have e2:=congrArg (fun b:ByteArray=>b.data.toList) e
         simp at e2
         exact Ry e2
        have HR:Hid (Rd.state s=none):=HLS.out.2 Ry
        have Hg:Hid (Calls Tryz.prog 44 #[.agg (aI pt (.slice rd l.length rc) gm hm hd)] wc fun e w9=>e=.returned (.string BB)∧w9.there w.heap.size 0 fB.size∧(w9.setCells w.heap.size 0 fB.toList).heap[w.heap.size]?=some (.cells fB 107 (0,0))∧Hid (Below w.heap.size w (w9.setCells w.heap.size 0 fB.toList))):=by
         refine HBY.out.mono ?_
         rintro e w9 ⟨rfl,Uw⟩
         obtain⟨k1,k2,k3⟩:=km.out w9 (HQ.out.2.2.1.trans (Uw.mono HQ.out.2.2.1.size))
         exact⟨rfl,k1,k2,k3⟩
        have zx:(BB.toList==S.toList)=false:=by rw[eF];simp[hBS]
        have V0:(BB.toList != S.toList)=true:=by simp[bne,zx]
        clear hcut QO PI g2 hSt hH hT Rr Hx hM Ml VI Gg DI vN dv Z1 TO PL Ud To QM C0 Wb Ry P0 HLS HQ HBY km HDD zJ
        go_wp2_with (first | (refine mz (by rfl) _ _ rfl x rfl _ _ _ _ hx Tryz.underlying107 rfl (by rw[cr];kernel_rfl) ?_) | (go_at_call 44;refine Hg.out.mono ?_;rintro e w9 ⟨rfl,FG,qJ,lW⟩) | (refine wpList_store_mid rfl 107 (.tmp 2) (.tmp 63) rfl w.heap.size 0 fB rfl rfl FG oN.out mR.out ?_))
        refine bodyPost_ret (v:=.tuple #[.agg fB,.bool false]) ?_ rfl ⟨lW.out,.inl ⟨rfl,HR.out⟩⟩
        refine Eq.trans (ba rfl _ _ _ _ _ _ _ rfl qJ Tryz.underlying107 rfl oN.out) ?_
        rfl
 · have ET:Hid (∀w2,Calls Tryz.prog 56 #[.string jU] w2 fun e w'=>∃pl rd n rc,e=.returned (.tuple #[.agg #[.string pl,.slice rd n rc],.int .i64 (Ax.read jU).2.1,.int .i64 (Ax.read jU).2.2])∧Hid (Below w2.heap.size w2 w')):=by
    intro w2
    refine(El jU w2 (by unfold maxLen;omega)).mono ?_
    rintro e w' ⟨hb,hh⟩
    rcases hh with⟨_,pl,rd,n,rc,rfl⟩ | ⟨h9,_⟩
    · exact⟨pl,rd,n,rc,rfl,hb⟩
    · exact absurd h9 h0
   have HR:Hid (Rd.state s=none):=Rd.Hm SJ.out cN Ys.out h0
   have her:((Ax.read jU).2.1==0)=false:=by simpa using h0
   generalize (Ax.read jU).2.1=er at*
   generalize (Ax.read jU).2.2=at_ at*
   clear HSB SJ Ys V9 HU0 Y2 cN
   go_enter Tryz.func45,Tryz.ntmps45
   go_upto_region 1 with fail
   have hz:w.alloc (.cells fB 107)=w0:=di.symm
   unfold fB vm at hz
   rw[hz]
   clear hz di
   go_upto_region 7 with(first | (go_at_call 80;refine PN.out.mono ?_;rintro e w1 ⟨rb,rfl,H1⟩) | (go_at_call 81;refine(zS.out w1 rb H1.out.1 H1.out.2.1 H1.out.2.2).mono ?_;rintro e w2 ⟨rfl,H2⟩) | (go_at_call 56;refine(ET.out w2).mono ?_;rintro e w3 ⟨pl,rd,n,rc,rfl,H3⟩))
   obtain⟨w4,PC⟩:∃w4,w4=w3.alloc (.cells #[.string pl,.slice rd n rc] 101):=⟨_,rfl⟩
   rw[←PC]
   have lZ:Below w0.heap.size w0 w4:=by
    have h1:Below w0.heap.size w0 w3:=H2.out.2.trans (H3.out.mono H2.out.2.size)
    rw[PC]
    exact h1.alloc h1.size _
   obtain⟨eo,qJ,lW⟩:=km.out w4 lZ
   have Qu:Hid (w4.there w.heap.size 0 fB.size):=eo
   clear PC H1 H2 H3 PN zS ET lZ km eo
   go_wp2_with (refine wpList_store_mid rfl 107 (.tmp 2) (.tmp 32) rfl w.heap.size 0 fB rfl rfl Qu.out oN.out mR.out ?_)
   refine bodyPost_ret (v:=.tuple #[.agg fB,.bool false]) ?_ rfl ⟨lW,.inl ⟨rfl,HR.out⟩⟩
   refine Eq.trans (ba rfl _ _ _ _ _ _ _ rfl qJ Tryz.underlying107 rfl oN.out) ?_
   rfl
end
end Go.Proofs.YtdmicblafmhflaaGreatDoor
