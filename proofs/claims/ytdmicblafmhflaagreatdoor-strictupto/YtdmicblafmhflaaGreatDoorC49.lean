/- Import of any bytes; Export, Log of what it gives; axiomkeep.strict. -/
import Derived.Test.YtdmicblafmhflaaGreatDoorC48
import Derived.Test.YtdmicblafmhflaaGreatDoorC46
set_option linter.unusedSimpArgs false
set_option linter.unusedVariables false
set_option maxHeartbeats 4000000
set_option maxRecDepth 100000
namespace Go.Proofs.YtdmicblafmhflaaGreatDoor
section
open Go.RowKit Go.Maps
structure tC(w:World)(eg:Nat)(D:Gs.St)(hd:List UInt8):Prop where
 at_:∃rd rn rc gm hm,w.heap[eg]?=some (.cells (bH D.pl (.slice rd rn rc) gm hm hd (.slice none 0 0)) 109 (0,0))∧Gs.zW w D (.slice rd rn rc) gm hm
 NY:hd.length=32
 ok:Gs.Ok D
theorem tC.below{w w':World}{eg:Nat}{D:Gs.St}{hd:List UInt8}(h:tC w eg D hd)(hb:Below w.heap.size w w'):tC w' eg D hd:=by
 obtain⟨rd,rn,rc,gm,hm,e,h1⟩:=h.at_
 exact⟨⟨rd,rn,rc,gm,hm,by rw[hb.block _ (lt_of_heap e)];exact e,h1.below hb⟩,h.NY,h.ok⟩
theorem Gs.yD{W:World}{eg:Nat}{D:Gs.St}{hd:List UInt8}(cN:hd.length=32)(cB:Gs.Ok D){rd:Option Addr}{rn rc gm hm:Nat}{lv:Value}(eb:W.heap[eg]?=some (.cells (bH D.pl (.slice rd rn rc) gm hm hd lv) 109 (0,0)))(hS:Gs.zW W D (.slice rd rn rc) gm hm):Calls Tryz.prog 23 #[.pointer (some ⟨eg,0,none⟩)] W fun e w'=>e=.returned (.string ⟨(Gs.body D++hd).toArray⟩)∧Below W.heap.size W w':=by
 have HB:Hid (Calls Tryz.prog 44 #[.agg (aI D.pl (.slice rd rn rc) gm hm hd)] W fun e w'=>e=.returned (.string ⟨(Gs.body D++hd).toArray⟩)∧Below W.heap.size W w'):=Gs.Bl W D cB rd rn rc gm hm hd cN hS
 have hr:W.rangeAt eg 0 ([Value.string D.pl,.slice rd rn rc,.map (some gm),.map (some hm)]++Rc.bB hd):=by
  intro j v hv
  rw[cell_of_row _ _ _ _ _ _ eb,Nat.zero_add]
  unfold bH
  rw[List.getElem?_toArray,List.getElem?_append_left ?_]
  · exact hv
  · exact(List.getElem?_eq_some_iff.1 hv).1
 have hl:(Tryz.prog.info? 107).map (·.size)=some ([Value.string D.pl,.slice rd rn rc,.map (some gm),.map (some hm)]++Rc.bB hd).length:=by
  rw[List.length_append,Rc.bC,cN]
  kernel_rfl
 have Nz:=lt_of_heap eb
 clear eb hS cB
 go_enter Tryz.func23,Tryz.ntmps23
 go_wp2_with (first | (refine wpList_load_mid rfl _ _ rfl eg 0 rfl _ _ hr Tryz.underlying107 rfl hl ?_) | (go_at_call 44;refine HB.out.mono ?_;rintro e w1 ⟨rfl,bk⟩))
 go_ret
 exact⟨rfl,bk⟩
theorem tC.expo{W:World}{eg:Nat}{D:Gs.St}{hd:List UInt8}(h:tC W eg D hd):Calls Tryz.prog 23 #[.pointer (some ⟨eg,0,none⟩)] W fun e w'=>e=.returned (.string ⟨(Gs.body D++hd).toArray⟩)∧Below W.heap.size W w':=by
 obtain⟨rd,rn,rc,gm,hm,eb,hS⟩:=h.at_
 exact Gs.yD h.NY h.ok eb hS
theorem tC.log{w:World}{eg:Nat}{D:Gs.St}{hd:List UInt8}(h:tC w eg D hd):Calls Tryz.prog 29 #[.pointer (some ⟨eg,0,none⟩)] w fun e w'=>e=.returned (.string ⟨#[]⟩)∧w'=w:=by
 obtain⟨rd,rn,rc,gm,hm,eb,_⟩:=h.at_
 exact Sp (L:=[]) ⟨⟨_,_,_,_,eb⟩,h.NY,World.ownsRow_nil _ _ _ _⟩
theorem nJ(w:World)(s:List UInt8)(hs:s.length≤100000000)(hU:fw w):
 Calls Tryz.prog 24 #[.string ⟨s.toArray⟩] w fun e w'=>Below w.heap.size w w'∧((e=.returned (.tuple #[.pointer none,.int .i64 8])∧Rd.state s=none)∨∃eg D hd,e=.returned (.tuple #[.pointer (some ⟨eg,0,none⟩),.int .i64 0])∧Rd.state s=some (D,hd)∧tC w' eg D hd∧Gs.body D++hd=s):=by
 have h0:=G7 w s hs hU
 cases mX:Rd.state s with
 | none=>
  have ET:Hid (Calls Tryz.prog 45 #[.string ⟨s.toArray⟩] w fun e w1=>e=.returned (.tuple #[.agg fB,.bool false])∧(∀Z:Array Value,Z.size=36→(storeCells ⟨w1.heap.size,0,none⟩ fB.toList).run Tryz.prog (w1.alloc (.cells Z 107))=.ok () ((w1.alloc (.cells Z 107)).setCells w1.heap.size 0 fB.toList))∧(∀Z:Array Value,Z.size=36→Hid (Below w.heap.size w ((w1.alloc (.cells Z 107)).setCells w1.heap.size 0 fB.toList)))):=by
   refine h0.mono ?_
   rintro e w1 ⟨hb,hh⟩
   rcases hh with⟨rfl,_⟩ | ⟨D,hd,rd,rn,rc,gm,hm,_,h9,_⟩
   · refine⟨rfl,fun Z hZ=>cO (heap_alloc_new _ _) hZ oG vR,fun Z hZ=> ?_⟩
     obtain⟨_,hk⟩:=bO w1.heap.size fB.toList 0 _ _ (heap_alloc_new w1 (.cells Z 107)) (by rw[Array.length_toList,oG,hZ];exact Nat.le_refl 36)
     have h2:=hb.alloc hb.size (.cells Z 107)
     exact hk.aK h2 h2.size (by simpa using hb.size)
   · rw[mX]at h9
     cases h9
  have cr:=oG
  generalize (⟨s.toArray⟩:ByteArray)=S at*
  clear h0 mX hs hU
  go_enter Tryz.func24,Tryz.ntmps24
  go_wp2_with (go_at_call 45;refine ET.out.mono ?_;rintro e w1 ⟨rfl,eo,H1⟩)
  go_ret2
  exact⟨(H1 _ rfl).out,.inl ⟨rfl,by first | rfl | trivial⟩⟩
 | some x=>
  obtain⟨D,hd⟩:=x
  have ET:Hid (Calls Tryz.prog 45 #[.string ⟨s.toArray⟩] w fun e w1=>∃rd rn rc gm hm,e=.returned (.tuple #[.agg (aI D.pl (.slice rd rn rc) gm hm hd),.bool true])∧(∀Z:Array Value,Z.size=36→(storeCells ⟨w1.heap.size,0,none⟩ (aI D.pl (.slice rd rn rc) gm hm hd).toList).run Tryz.prog (w1.alloc (.cells Z 107))=.ok () ((w1.alloc (.cells Z 107)).setCells w1.heap.size 0 (aI D.pl (.slice rd rn rc) gm hm hd).toList))∧hd.length=32∧Hid (Below w.heap.size w w1∧Gs.Ok D∧Gs.zW w1 D (.slice rd rn rc) gm hm∧Gs.body D++hd=s)):=by
   refine h0.mono ?_
   rintro e w1 ⟨hb,hh⟩
   rcases hh with⟨_,h9⟩ | ⟨D',AY,rd,rn,rc,gm,hm,rfl,h9,k1,k2,k3,k4⟩
   · rw[mX]at h9
     cases h9
   · rw[mX]at h9
     simp only[Option.some.injEq,Prod.mk.injEq]at h9
     obtain⟨rfl,rfl⟩:=h9
     exact⟨rd,rn,rc,gm,hm,rfl,fun Z hZ=>cO (heap_alloc_new _ _) hZ (aQ _ _ _ _ k1) (gV _ _ _ _ _ _ _),k1,hb,k2,k3,k4⟩
  generalize (⟨s.toArray⟩:ByteArray)=S at*
  clear h0 mX hs hU
  go_enter Tryz.func24,Tryz.ntmps24
  go_upto_region 2 with(go_at_call 45;refine ET.out.mono ?_;rintro e w1 ⟨rd,rn,rc,gm,hm,rfl,eo,cN,H1⟩;have cr:=aQ D.pl (.slice rd rn rc) gm hm cN)
  obtain⟨w2,OT⟩:∃w2,w2=(w1.alloc (.cells (vm (.string ⟨#[]⟩) (.slice none 0 0) (.map none) (.map none)) 107)).setCells w1.heap.size 0 (aI D.pl (.slice rd rn rc) gm hm hd).toList:=⟨_,rfl⟩
  have PE:(w1.alloc (.cells (vm (.string ⟨#[]⟩) (.slice none 0 0) (.map none) (.map none)) 107)).heap[w1.heap.size]?=some (.cells (vm (.string ⟨#[]⟩) (.slice none 0 0) (.map none) (.map none)) 107 (0,0)):=heap_alloc_new _ _
  have hx:w2.heap[w1.heap.size]?=some (.cells (aI D.pl (.slice rd rn rc) gm hm hd) 107 (0,0)):=by rw[OT];exact eO PE rfl cr
  have VG:Below w1.heap.size w1 w2:=by
   obtain⟨_,hk⟩:=bO w1.heap.size (aI D.pl (.slice rd rn rc) gm hm hd).toList 0 _ _ PE (by rw[Array.length_toList,cr];exact Nat.le_refl 36)
   rw[OT]
   exact hk.aK ((Below.refl _ _).alloc (Nat.le_refl _) _) (by simp) (by simp)
  unfold vm at OT
  rw[←OT]
  clear OT PE eo
  obtain⟨q1,q2,q3,q4⟩:=H1.out
  have cM:Below w.heap.size w w2:=q1.trans (VG.mono q1.size)
  have J8:Below w2.heap.size w2 (w2.alloc (.cells (bH D.pl (.slice rd rn rc) gm hm hd (.slice none 0 0)) 109)):=(Below.refl _ _).alloc (Nat.le_refl _) _
  have HM:Hid (tC (w2.alloc (.cells (bH D.pl (.slice rd rn rc) gm hm hd (.slice none 0 0)) 109)) w2.heap.size D hd∧Gs.body D++hd=s):=⟨⟨⟨rd,rn,rc,gm,hm,heap_alloc_new _ _,(q3.below VG).below J8⟩,cN,q2⟩,q4⟩
  have Hg:Hid (Below w.heap.size w w2):=cM
  clear q1 q2 q3 q4 H1 VG cM ET J8
  go_wp2_with (refine wpList_load_row rfl _ _ rfl w1.heap.size rfl _ _ _ _ hx Tryz.underlying107 rfl (by rw[cr];kernel_rfl) ?_)
  rw[Jk _ _ cr rfl]
  have e9:((aI D.pl (.slice rd rn rc) gm hm hd).toList++[Value.slice none 0 0]).toArray=bH D.pl (.slice rd rn rc) gm hm hd (.slice none 0 0):=uL _ _ _ _ _
  go_ret2
  exact⟨Hg.out.alloc Hg.out.size _,.inr ⟨w2.heap.size,D,hd,rfl,rfl,HM.out.1,HM.out.2⟩⟩
theorem xo(w:World)(s:List UInt8)(hs:s.length≤100000000)(hU:fw w)(Sq:Bool)(hm:Sq=true→Rd.state s≠none):
 Calls Tryz.prog 28 #[.string ⟨s.toArray⟩,.bool Sq] w fun e w'=>e=.returned (.bool true)∧Below w.heap.size w w':=by
 have h0:=nJ w s hs hU
 cases mX:Rd.state s with
 | none=>
  have hmf:Sq=false:=by
   cases Sq with
   | false=>rfl
   | true=>exact absurd mX (hm rfl)
  subst hmf
  have HI:Hid (Calls Tryz.prog 24 #[.string ⟨s.toArray⟩] w fun e w1=>e=.returned (.tuple #[.pointer none,.int .i64 8])∧Hid (Below w.heap.size w w1)):=by
   refine h0.mono ?_
   rintro e w1 ⟨hb,hh⟩
   rcases hh with⟨rfl,_⟩ | ⟨eg,D,hd,_,h9,_⟩
   · exact⟨rfl,hb⟩
   · rw[mX]at h9
     cases h9
  generalize (⟨s.toArray⟩:ByteArray)=S at*
  clear h0 mX hs hU hm
  go_enter Tryz.func28,Tryz.ntmps28
  go_wp2_with (go_at_call 24;refine HI.out.mono ?_;rintro e w1 ⟨rfl,H1⟩)
  go_ret
  exact⟨rfl,H1.out⟩
 | some x=>
  obtain⟨D,hd⟩:=x
  obtain⟨S,hS⟩:∃S:ByteArray,S=⟨s.toArray⟩:=⟨_,rfl⟩
  rw[←hS]at h0 ⊢
  have HI:Hid (Calls Tryz.prog 24 #[.string S] w fun e w1=>∃eg,e=.returned (.tuple #[.pointer (some ⟨eg,0,none⟩),.int .i64 0])∧Hid (Below w.heap.size w w1∧tC w1 eg D hd∧Gs.body D++hd=s)):=by
   refine h0.mono ?_
   rintro e w1 ⟨hb,hh⟩
   rcases hh with⟨_,h9⟩ | ⟨eg,D',AY,rfl,h9,k1,k2⟩
   · rw[mX]at h9
     cases h9
   · rw[mX]at h9
     simp only[Option.some.injEq,Prod.mk.injEq]at h9
     obtain⟨rfl,rfl⟩:=h9
     exact⟨eg,rfl,hb,k1,k2⟩
  have HX:Hid (∀w1 eg,Below w.heap.size w w1∧tC w1 eg D hd∧Gs.body D++hd=s→Calls Tryz.prog 23 #[.pointer (some ⟨eg,0,none⟩)] w1 fun e w2=>e=.returned (.string S)∧Hid (Below w.heap.size w w2∧tC w2 eg D hd)):=by
   intro w1 eg ⟨hb,h1,h2⟩
   rw[hS,←h2]
   refine h1.expo.mono ?_
   rintro e w2 ⟨rfl,cM⟩
   exact⟨rfl,hb.trans (cM.mono hb.size),h1.below cM⟩
  have HL:Hid (∀w2 eg,tC w2 eg D hd→Calls Tryz.prog 29 #[.pointer (some ⟨eg,0,none⟩)] w2 fun e w3=>e=.returned (.string ⟨#[]⟩)∧w2=w3):=fun w2 eg h=>h.log.mono (fun e w' ⟨a,b⟩=>⟨a,b.symm⟩)
  clear h0 mX hs hU hm hS
  go_enter Tryz.func28,Tryz.ntmps28
  go_wp2_with (first | (go_at_call 24;refine HI.out.mono ?_;rintro e w1 ⟨eg,rfl,H1⟩) | (go_at_call 23;refine(HX.out w1 eg H1.out).mono ?_;rintro e w2 ⟨rfl,H2⟩) | (go_at_call 29;refine(HL.out w2 eg H2.out.2).mono ?_;rintro e w3 ⟨rfl,rfl⟩))
  go_ret
  exact⟨rfl,H2.out.1⟩
end
/- An engine of axiomkeep's rules as a state in general; its Export. -/
section
open Go.RowKit Go.Maps
theorem Ax.dV.er{rs Xf:List Ax.aP}(h:rs.map Ax.ke=Xf.map Ax.ke)(hk:Ax.dV Xf):Ax.dV rs:=by
 have fk:∀r,r∈rs→∃r',r'∈Xf∧Ax.ke r=Ax.ke r':=by
  intro r hr
  have h1:Ax.ke r∈Xf.map Ax.ke:=by rw[←h];exact List.mem_map_of_mem hr
  obtain⟨r',h2,h3⟩:=List.mem_map.1 h1
  exact⟨r',h2,h3.symm⟩
 have sJ:∀r,r∈rs→∀a,a∈r.atoms→∃r',r'∈Xf∧∃a',a'∈r'.atoms∧a.pred=a'.pred∧a.ag=a'.ag:=by
  intro r hr a ha
  obtain⟨r',h1,h2⟩:=fk r hr
  unfold Ax.ke at h2
  simp only[Prod.mk.injEq]at h2
  rcases List.mem_cons.1 ha with rfl | ha
  · have h3:=h2.1
    unfold Ax.yR at h3
    simp only[Prod.mk.injEq]at h3
    exact⟨r',h1,r'.head,by simp[Ax.aP.atoms],h3.1,h3.2⟩
  · have h4:Ax.yR a∈r'.body.map Ax.yR:=by rw[←h2.2];exact List.mem_map_of_mem ha
    obtain⟨a',h5,h6⟩:=List.mem_map.1 h4
    unfold Ax.yR at h6
    simp only[Prod.mk.injEq]at h6
    exact⟨r',h1,a',by simp[Ax.aP.atoms,h5],h6.1.symm,h6.2.symm⟩
 have KX:∀p,p∈aS rs→p∈aS Xf:=by
  intro p hp
  obtain⟨a,ha,rfl⟩:=List.mem_map.1 hp
  obtain⟨r,hr,ha⟩:=List.mem_flatMap.1 ha
  obtain⟨r',h1,a',h2,h3,h4⟩:=sJ r hr a ha
  exact List.mem_map.2 ⟨a',List.mem_flatMap.2 ⟨r',h1,h2⟩,by unfold oc;rw[h3,h4]⟩
 refine⟨?_, ?_, ?_, ?_, ?_⟩
 · have:=congrArg List.length h
   simp only[List.length_map]at this
   rw[this]
   exact hk.oo
 · intro r hr
   obtain⟨r',h1,h2⟩:=fk r hr
   have h3:=congrArg (fun x=>x.2.length) h2
   unfold Ax.ke at h3
   simp only[List.length_map]at h3
   rw[h3]
   exact hk.two r' h1
 · intro r hr a ha
   obtain⟨r',h1,a',h2,h3,h4⟩:=sJ r hr a ha
   obtain⟨k1,k2⟩:=hk.atoms r' h1 a' h2
   unfold Ax.nS at k1 ⊢
   rw[h3,h4]
   exact⟨k1,k2⟩
 · intro x hx y hy e
   exact hk.one x (KX x hx) y (KX y hy) e
 · obtain⟨all,h1,h2⟩:=hk.cD
   exact⟨all,h1,fun p hp=>h2 p (KX p hp)⟩
theorem eI(kl:List Ax.aM):(Ax.bw (Ax.aH kl)).map Ax.ke=Ax.gR kl∧Ax.dV (Ax.bw (Ax.aH kl))∧Ax.read (Ax.aH kl)=(Ax.aH kl,0,0):=by
 obtain⟨rs,j,h1,h2,h3,h4,h5,h6⟩:=Ax.zY kl
 have e:Ax.bw (Ax.aH kl)=rs:=by unfold Ax.bw;rw[h1];rfl
 rw[e]
 exact⟨h2,Ax.yK (Ax.kz kl) h1 h3 h4,h6⟩
theorem DR{rs:List Ax.aP}{kl:List Ax.aM}(he:rs.map Ax.ke=Ax.gR kl):Ax.dV rs:=Ax.dV.er (he.trans (eI kl).1.symm) (eI kl).2.1
theorem O3{kl:List Ax.aM}{gv:Nat→Bool}{s:En.cU En.bE}(hI:En.Inv (En.sR (En.cF kl)) (En.gF gv) s s.found.length):Gs.FQ gQ s:=by
 have PD:=En.qn (eI kl).1
 have cB:=(eI kl).2.1
 have F5:=uR hI
 refine⟨dS tG,by unfold gQ;decide,by omega,hI.nodup,fun f=> ?_,fun f hf=> ?_⟩
 · rw[hI.counts,List.take_length,←PD]
   have hR:∀r,r∈(Ax.bw (Ax.aH kl)).map En.cp→r.k≤2:=by
    intro r hr
    obtain⟨q,hq,rfl⟩:=List.mem_map.1 hr
    exact cB.two q hq
   have h3:=En.xX (R:=(Ax.bw (Ax.aH kl)).map En.cp) hR (L:=s.found) (by omega) f
   rw[List.length_map]at h3
   have:=cB.oo
   omega
 · obtain⟨j,hj,rfl⟩:=En.tm (En.iU (En.mi kl) hI f hf)
   rw[tR]
   exact⟨(cP j).2,(nz _).2 (te hj),rfl,fun x hx=>Nat.le_trans (ks j x hx).2 (by decide)⟩
theorem Cj{w:World}{gm:Nat}{G:List GT}{gv:Nat→Bool}(hG:jY w gm G)(hR:jh G gv):GQ G gQ (rowsOf G):=by
 refine⟨fun t ht=>⟨?_,(gB hG.names ht).symm⟩,fun p hp=> ?_⟩
 · exact(nz _).2 ((hR.mS _).1 (List.mem_map.2 ⟨t,ht,rfl⟩))
 · obtain⟨t,ht,h1,h2⟩:=hR.has (p:=p.1) (n:=p.2) ((nz p).1 hp)
   exact⟨t,ht,h1,h2⟩
structure CB(kl:List Ax.aM)(gv:Nat→Bool)(D:Gs.St):Prop where
 ok:Gs.Ok D
 at_:∃(w:World) (gm:Nat) (G:List GT) (s:En.cU En.bE),jY w gm G∧jh G gv∧En.Inv (En.sR (En.cF kl)) (En.gF gv) s s.found.length∧D=Gs.cP (Ax.aH kl) gQ (rowsOf G) s
theorem JY{w:World}{B eg:Nat}{kl:List Ax.aM}{gv:Nat→Bool}{n:Nat}(hE:yU w B eg kl gv n):∃D hd,CB kl gv D∧hd.length=32∧Calls Tryz.prog 23 #[.pointer (some ⟨eg,0,none⟩)] w fun e w'=>e=.returned (.string ⟨(Gs.body D++hd).toArray⟩)∧Below w.heap.size w w':=by
 obtain⟨pl,rd,rc,l,gm,G,hm,T,s,hd,lv,ln,lx,eb,dQ,he,hG,hR,hH,hI,hT,cN,va,Dc,rfl⟩:=hE.at_
 obtain⟨D,PL⟩:∃D,D=Gs.cP (Ax.aH kl) gQ (rowsOf G) s:=⟨_,rfl⟩
 have To:=O3 hI
 have TO:Gs.Ok D:=by
  rw[PL]
  exact Gs.MO (Ax.kz kl) (by decide) _ To
 refine⟨D,hd,⟨TO,w,gm,G,s,hG,hR,hI,PL⟩,cN, ?_⟩
 have hS:Gs.zW w D (.slice rd l.length rc) gm hm:=by
  rw[PL]
  exact Gs.B0 dQ (DR he) tG (fun p=>(nz p).trans (fu he p).symm) hG (Cj hG hR) (fun t ht=>Nat.le_trans (Nat.le_trans (rL ht) (hR.sum hG.names (fun t ht=>cl.ord (hG.bX t ht)))) (by decide)) hH (fun p hp=>(hT p).2 ((nz p).1 hp)) To
 have P0:D.pl=Ax.aH kl:=by rw[PL];rfl
 rw[←P0]at eb
 exact Gs.yD cN TO eb hS
end
/- What a state is written as is read again. -/
section
open Go.RowKit Go.Maps
structure Gs.Rt(Q:List Pd.Pr)(R:Rd.dz)(s:En.cU En.bE)(D:Gs.St):Prop where
 fq:Gs.FQ Q s
 ok:Gs.Ok D
 eq:D.Q=Q∧D.hold=(fun p=>(Gs.fV s p).map fun r=>(r.take (Gs.ar Q p),s.count (p,r)))∧D.rA=fun p names=>Tb.lO (R p) (Tb.dh names)
 jG:∀f,s.count f≤320000
 oo:(Gs.iJ D).length≤600
 WT:∀p,p∈Q→∀j,j∈D.hold p.1→j.1.all Ax.cf=true
 ord:∀p,p∈Q→Tb.Ord (R p.1)
 sub:∀p r,r∈R p→(p,r)∈s.found
 out:∀p,¬p∈Q.map Prod.fst→R p=[]
theorem Gs.KI{D:Gs.St}{p:Pd.Pr}(hp:p∈D.Q){j:List ByteArray×Nat}(hj:j∈D.hold p.1)(hl:j.1.length=p.2)(hc:j.2≤320000)(hn:(Gs.iJ D).length≤600)(t:List UInt8):Rd.iL (Gs.iJ D) p.2 (Gs.fact D p.1 j++t) false=(D.rA p.1 j.1,j.1,t,false):=by
 have e:Gs.fact D p.1 j++t=Rc.aV (if D.rA p.1 j.1=true then 1 else 0)++(Rc.aV j.2++(j.1.flatMap (fun x=>Rc.aV (Gs.place D x))++t)):=by
  unfold Gs.fact
  simp only[List.append_assoc]
 have h1:=Rd.iW (n:=if D.rA p.1 j.1=true then 1 else 0) (by split<;>omega) (most:=1) (by split<;>omega) (Rc.aV j.2++(j.1.flatMap (fun x=>Rc.aV (Gs.place D x))++t))
 have h2:=Rd.iW (n:=j.2) (by omega) (most:=320000) (by omega) (j.1.flatMap (fun x=>Rc.aV (Gs.place D x))++t)
 have h3:=Rd.xQ (Gs.iJ D) (Gs.place D) j.1.length j.1 t (fun x hx=>Gs.Fh D hp hj hx) (by omega) (Nat.le_refl _)
 rw[List.take_length,List.drop_length,List.flatMap_nil,List.nil_append]at h3
 rw[e]
 unfold Rd.iL
 simp only
 rw[h1]
 simp only
 rw[h2]
 simp only
 rw[←hl,h3]
 simp only[Prod.mk.injEq,and_true]
 cases D.rA p.1 j.1<;>rfl
def Gs.EB(D:Gs.St)(p:ByteArray)(L:List (List ByteArray))(l:List (List ByteArray×Nat)):List (List ByteArray):=Gs.o5 L ((l.filter fun j=>D.rA p j.1).map fun j=>Tb.dh j.1)
theorem Rd.P8(R:Rd.dz)(p:ByteArray)(A B:List (List ByteArray)):Rd.lk (Rd.lk R p A) p B=Rd.lk R p B:=by
 funext q
 unfold Rd.lk
 split<;>rfl
theorem Rd.Pk(R:Rd.dz)(p:ByteArray):Rd.lk R p (R p)=R:=by
 funext q
 unfold Rd.lk
 split
 · rename_i h
   rw[h]
 · rfl
theorem Gs.xZ{D:Gs.St}{p:Pd.Pr}(hp:p∈D.Q)(hn:(Gs.iJ D).length≤600):∀(l:List (List ByteArray×Nat)) (R:Rd.dz) (t:List UInt8),(∀j,j∈l→j∈D.hold p.1∧j.1.length=p.2∧j.2≤320000∧j.1.all Ax.cf=true)→Rd.fl (Gs.iJ D) p.1 p.2 l.length (l.flatMap (Gs.fact D p.1)++t) false R=some (Rd.lk R p.1 (Gs.EB D p.1 (R p.1) l),t,false)
 | [],R,t,_=>by
  simp[Rd.fl,Gs.EB,Gs.o5,Rd.Pk]
 | j::l,R,t,h=>by
  obtain⟨h1,h2,h3,h4⟩:=h j (by simp)
  have e1:=Gs.KI hp h1 h2 h3 hn (l.flatMap (Gs.fact D p.1)++t)
  rw[List.flatMap_cons,List.append_assoc,List.length_cons]
  unfold Rd.fl
  rw[e1]
  simp only
  rw[if_pos h4]
  rw[Gs.xZ hp hn l _ t (fun x hx=>h x (by simp[hx]))]
  simp only[Option.some.injEq,Prod.mk.injEq,and_true]
  unfold Gs.EB
  cases hg:D.rA p.1 j.1 with
  | true=>
   rw[if_pos rfl,Rd.P8,Rd.se,List.filter_cons,hg]
   rfl
  | false=>
   rw[if_neg (by decide),List.filter_cons,hg]
   rfl
theorem Gs.yQ{D:Gs.St}(hn:(Gs.iJ D).length≤600)(h2:∀p,p∈D.Q→(D.hold p.1).length≤200)(cB:∀p,p∈D.Q→∀j,j∈D.hold p.1→j.1.length=p.2∧j.2≤320000∧j.1.all Ax.cf=true):∀(Q:List Pd.Pr) (R:Rd.dz) (t:List UInt8),(∀p,p∈Q→p∈D.Q)→(Q.map Prod.fst).Nodup→Rd.eQ (Gs.iJ D) Q ((Q.flatMap fun p=>Gs.facts D p.1)++t) false R=some (fun q=>if Ax.has (Q.map Prod.fst) q=true then Gs.EB D q (R q) (D.hold q)else R q,t,false)
 | [],R,t,_,_=>by simp[Rd.eQ,Ax.has]
 | p::Q,R,t,hQ,vz=>by
  have hp:=hQ p (by simp)
  rw[List.map_cons,List.nodup_cons]at vz
  have e:((p::Q).flatMap fun p=>Gs.facts D p.1)++t=Rc.aV (D.hold p.1).length++((D.hold p.1).flatMap (Gs.fact D p.1)++((Q.flatMap fun p=>Gs.facts D p.1)++t)):=by
   rw[List.flatMap_cons]
   unfold Gs.facts
   simp only[List.append_assoc]
  have h3:=h2 p hp
  have h1:=Rd.iW (n:=(D.hold p.1).length) (by omega) (most:=200) (by omega) ((D.hold p.1).flatMap (Gs.fact D p.1)++((Q.flatMap fun p=>Gs.facts D p.1)++t))
  rw[e]
  unfold Rd.eQ
  rw[h1]
  simp only
  rw[Gs.xZ hp hn (D.hold p.1) R _ (fun j hj=>⟨hj,cB p hp j hj⟩)]
  simp only[Option.bind_some]
  rw[Gs.yQ hn h2 cB Q _ t (fun q hq=>hQ q (by simp[hq])) vz.2]
  simp only[Option.some.injEq,Prod.mk.injEq,and_true]
  funext q
  by_cases hq:q=p.1
  · subst hq
    rw[if_neg (fun h9=>vz.1 ((Ax.nM _ _).1 h9)),if_pos ((Ax.nM _ _).2 (by simp)),Rd.se]
  · have h8:Ax.has ((p::Q).map Prod.fst) q=Ax.has (Q.map Prod.fst) q:=by simp[Ax.has,hq]
    rw[Rd.pM _ hq,h8]
theorem Gs.Rt.given{Q:List Pd.Pr}{R:Rd.dz}{s:En.cU En.bE}{D:Gs.St}(h:Gs.Rt Q R s D)(t:List UInt8):Rd.dJ Q (Rc.aV (Gs.iJ D).length++((Gs.iJ D).flatMap Rc.aL++((Q.flatMap fun p=>Gs.facts D p.1)++t))) false=some (R,t,false):=by
 obtain⟨e1,e2,e3⟩:=h.eq
 unfold Rd.dJ
 rw[Rd.Ea (fun x hx=>Nat.lt_of_le_of_lt (Gs.tw h.ok hx) (by decide)) h.oo]
 simp only
 have hh:∀p,p∈D.Q→∀j,j∈D.hold p.1→j.1.length=p.2∧j.2≤320000∧j.1.all Ax.cf=true:=by
  intro p hp j hj
  refine⟨h.ok.len p hp j hj, ?_,h.WT p (by rw[←e1];exact hp) j hj⟩
  rw[e2]at hj
  obtain⟨r,_,rfl⟩:=List.mem_map.1 hj
  exact h.jG _
 have h9:=Gs.yQ (D:=D) h.oo h.ok.oo hh Q (fun _=>[]) t (fun p hp=>by rw[e1];exact hp) h.fq.nodup
 rw[h9]
 simp only[Option.some.injEq,Prod.mk.injEq,and_true]
 funext q
 by_cases hq:q∈Q.map Prod.fst
 · rw[if_pos ((Ax.nM _ _).2 hq)]
   obtain⟨p,hp,rfl⟩:=List.mem_map.1 hq
   obtain⟨k1,k2⟩:=Gs.tu (((D.hold p.1).filter fun j=>D.rA p.1 j.1).map fun j=>Tb.dh j.1) [] List.Pairwise.nil
   refine Gs.Ce k1 (h.ord p hp) (fun r=> ?_)
   unfold Gs.EB
   rw[k2]
   constructor
   · rintro(h5 | h5)
     · cases h5
     · obtain⟨j,hj,rfl⟩:=List.mem_map.1 h5
       rw[List.mem_filter]at hj
       have h6:=hj.2
       rw[e3]at h6
       exact Tb.dM.1 h6
   · intro hr
     have h6:=(Gs.fe s p.1).2 r |>.2 (h.sub p.1 r hr)
     have h7:=(h.fq.row hp h6).2.1
     refine .inr (List.mem_map.2 ⟨(r.take (Gs.ar Q p.1),s.count (p.1,r)),List.mem_filter.2 ⟨?_, ?_⟩,h7.symm⟩)
     · rw[e2]
       exact List.mem_map.2 ⟨r,h6,rfl⟩
     · rw[e3]
       simp only
       rw[←h7]
       exact Tb.dM.2 hr
 · rw[if_neg (fun h9=>hq ((Ax.nM _ _).1 h9))]
   exact(h.out q hq).symm
end
/- An engine's export is taken, with any head; with a byte more it is refused. -/
section
open Go.RowKit Go.Maps
theorem uq{G:List GT}{p:ByteArray}(h:¬p∈G.map GT.nm):rowsOf G p=[]:=by
 unfold rowsOf
 have h1:G.find? (fun t=>decide (t.nm=p))=none:=by
  rw[List.find?_eq_none]
  intro t ht e
  exact h (List.mem_map.2 ⟨t,ht,of_decide_eq_true e⟩)
 rw[h1]
theorem Px(s:En.cU En.bE)(p:ByteArray):(Gs.fV s p).length≤s.found.length:=by
 obtain⟨h1,h2⟩:=Gs.fe s p
 have vz:((Gs.fV s p).map fun r=>(p,r)).Nodup:=by
  refine List.Pairwise.map _ ?_ h1
  intro a b pS e
  simp only[Prod.mk.injEq,true_and]at e
  subst e
  rw[Tb.ky]at pS
  omega
 have h3:=List.Nodup.length_le_of_subset vz (l₂:=s.found) (fun f hf=>by
  obtain⟨r,hr,rfl⟩:=List.mem_map.1 hf
  exact(h2 r).1 hr)
 rw[List.length_map]at h3
 exact h3
theorem Mp{kl:List Ax.aM}{gv:Nat→Bool}{w:World}{gm:Nat}{G:List GT}{s:En.cU En.bE}(hG:jY w gm G)(hR:jh G gv)(hI:En.Inv (En.sR (En.cF kl)) (En.gF gv) s s.found.length)(cB:Gs.Ok (Gs.cP (Ax.aH kl) gQ (rowsOf G) s)):Gs.Rt gQ (rowsOf G) s (Gs.cP (Ax.aH kl) gQ (rowsOf G) s):=by
 have hfq:=O3 hI
 have F5:=uR hI
 have hgq:=Cj hG hR
 have iG:∀p,p∈gQ.map Prod.fst↔p∈G.map GT.nm:=by
  intro p
  constructor
  · intro hp
    obtain⟨q,hq,rfl⟩:=List.mem_map.1 hp
    obtain⟨t,ht,e,_⟩:=hgq.has q hq
    exact List.mem_map.2 ⟨t,ht,e⟩
  · intro hp
    obtain⟨t,ht,rfl⟩:=List.mem_map.1 hp
    exact List.mem_map.2 ⟨_,(hgq.sub t ht).1,rfl⟩
 refine⟨hfq,cB,⟨rfl,rfl,rfl⟩,fun f=> ?_, ?_, ?_, ?_, ?_, ?_⟩
 · have PD:=En.qn (eI kl).1
   have hrk:=(eI kl).2.1
   rw[hI.counts,List.take_length,←PD]
   have hR2:∀r,r∈(Ax.bw (Ax.aH kl)).map En.cp→r.k≤2:=by
    intro r hr
    obtain⟨q,hq,rfl⟩:=List.mem_map.1 hr
    exact hrk.two q hq
   have h3:=En.xX (R:=(Ax.bw (Ax.aH kl)).map En.cp) hR2 (L:=s.found) (by omega) f
   rw[List.length_map]at h3
   have:=hrk.oo
   omega
 · have h1:∀Q:List Pd.Pr,(∀p,p∈Q→p∈gQ)→(Gs.iK (Gs.cP (Ax.aH kl) gQ (rowsOf G) s) Q).length≤108*Q.length:=by
    intro Q
    induction Q with
    | nil=>intro _;simp[Gs.iK]
    | cons p Q ih=>
     intro hQ
     have e:Gs.iK (Gs.cP (Ax.aH kl) gQ (rowsOf G) s) (p::Q)=(((Gs.cP (Ax.aH kl) gQ (rowsOf G) s).hold p.1).flatMap fun j=>j.1)++Gs.iK (Gs.cP (Ax.aH kl) gQ (rowsOf G) s) Q:=by simp[Gs.iK]
     rw[e,List.length_append,List.length_cons]
     have h2:=Gs.N7 cB (p:=p) (hQ p (by simp)) ((Gs.cP (Ax.aH kl) gQ (rowsOf G) s).hold p.1) (fun j hj=>hj)
     have h3:((Gs.cP (Ax.aH kl) gQ (rowsOf G) s).hold p.1).length≤36:=by
      show((Gs.fV s p.1).map _).length≤36
      rw[List.length_map]
      exact Nat.le_trans (Px s p.1) F5
     have h4:=ih (fun q hq=>hQ q (by simp[hq]))
     omega
   have h2:=h1 gQ (fun p hp=>hp)
   have h3:gQ.length=3:=rfl
   have h4:(Gs.iJ (Gs.cP (Ax.aH kl) gQ (rowsOf G) s)).length≤(Gs.iK (Gs.cP (Ax.aH kl) gQ (rowsOf G) s) gQ).length:=by
    unfold Gs.iJ Ex.ME
    rw[List.length_map]
    refine Nat.le_trans (nT _) ?_
    rw[List.length_mergeSort,List.length_map]
    exact Nat.le_refl _
   omega
 · intro p hp j hj
   obtain⟨r,hr,rfl⟩:=List.mem_map.1 hj
   have hf:=((Gs.fe s p.1).2 r).1 hr
   obtain⟨i,hi,e⟩:=En.tm (En.iU (En.mi kl) hI _ hf)
   rw[tR]at e
   simp only[Prod.mk.injEq]at e
   have hq:((cP i).1,(cP i).2.length)∈gQ:=(nz _).2 (te hi)
   have e2:Gs.ar gQ p.1=(cP i).2.length:=by
    rw[e.1]
    exact Gs.Ow (dS tG) hq
   simp only
   rw[e.2,e2,Gs.tW (by have:=CN i;omega),List.all_eq_true]
   exact fun x hx=>(ks i x hx).1
 · intro p hp
   obtain⟨t,ht,e,_⟩:=hgq.has p hp
   rw[←e,gB hG.names ht]
   exact cl.ord (hG.bX t ht)
 · intro p r hr
   by_cases hp:p∈G.map GT.nm
   · obtain⟨t,ht,rfl⟩:=List.mem_map.1 hp
     rw[gB hG.names ht]at hr
     obtain⟨i,hi,RH,e⟩:=(hR.rows t ht r).1 hr
     rw[←e]
     exact hI.given _ ⟨i,hi,RH,rfl⟩
   · rw[uq hp]at hr
     cases hr
 · intro p hp
   exact uq (fun h=>hp ((iG p).2 h))
theorem Md{kl:List Ax.aM}{gv:Nat→Bool}(hg:nu gv){s s':En.cU En.bE}(hI:En.Inv (En.sR (En.cF kl)) (En.gF gv) s s.found.length)(Qe:En.Inv (En.sR (En.cF kl)) (En.gF gv) s' s'.found.length)(pl:ByteArray)(Q:List Pd.Pr)(R:Rd.dz):Gs.cP pl Q R s'=Gs.cP pl Q R s:=by
 have cB:=En.mi kl
 have hm:∀f,f∈s'.found↔f∈s.found:=by
  intro f
  constructor
  · intro hf
    obtain⟨i,hi,rfl⟩:=En.tm (En.iU cB Qe f hf)
    exact(En.mB cB hg hI hi).2 ((En.mB cB hg Qe hi).1 hf)
  · intro hf
    obtain⟨i,hi,rfl⟩:=En.tm (En.iU cB hI f hf)
    exact(En.mB cB hg Qe hi).2 ((En.mB cB hg hI hi).1 hf)
 have hh:∀p,(Gs.fV s' p).map (fun r=>(r.take (Gs.ar Q p),s'.count (p,r)))=(Gs.fV s p).map (fun r=>(r.take (Gs.ar Q p),s.count (p,r))):=by
  intro p
  have e1:Gs.fV s' p=Gs.fV s p:=Gs.Ce (Gs.fe s' p).1 (Gs.fe s p).1 (fun r=>by rw[(Gs.fe s' p).2,(Gs.fe s p).2,hm])
  rw[e1]
  refine List.map_congr_left (fun r hr=> ?_)
  have hf:=((Gs.fe s p).2 r).1 hr
  obtain⟨i,hi,e⟩:=En.tm (En.iU cB hI _ hf)
  rw[e,En.sG cB hg hI hi,En.sG cB hg Qe hi]
 unfold Gs.cP
 have h2:(fun p=>(Gs.fV s' p).map (fun r=>(r.take (Gs.ar Q p),s'.count (p,r))))=(fun p=>(Gs.fV s p).map (fun r=>(r.take (Gs.ar Q p),s.count (p,r)))):=funext hh
 rw[h2]
theorem CB.read{kl:List Ax.aM}{gv:Nat→Bool}{D:Gs.St}(h:CB kl gv D)(hg:nu gv)(t hd:List UInt8)(hh:hd.length=32):(Gs.body D++hd=Gs.body D++t++hd→Rd.state (Gs.body D++t++hd)=some (D,hd))∧(¬Gs.body D++hd=Gs.body D++t++hd→Rd.state (Gs.body D++t++hd)=none):=by
 obtain⟨w,gm,G,s,hG,hR,hI,hD⟩:=h.at_
 obtain⟨he,hrk,og⟩:=eI kl
 have cB:=h.ok
 have hrt:Gs.Rt gQ (rowsOf G) s D:=by
  rw[hD]at cB ⊢
  exact Mp hG hR hI cB
 have P0:D.pl=Ax.aH kl:=by rw[hD];rfl
 have hDQ:D.Q=gQ:=by rw[hD];rfl
 have vh:Rd.text (Gs.body D++t) false=((Ax.aH kl).data.toList,Rc.aV (Gs.iJ D).length++((Gs.iJ D).flatMap Rc.aL++((gQ.flatMap fun p=>Gs.facts D p.1)++t)),false):=by
  have e:Gs.body D++t=Rc.aL (Ax.aH kl)++(Rc.aV (Gs.iJ D).length++((Gs.iJ D).flatMap Rc.aL++((gQ.flatMap fun p=>Gs.facts D p.1)++t))):=by
   unfold Gs.body
   rw[P0,hDQ]
   simp only[List.append_assoc]
  rw[e]
  exact Rd.sY (Nat.lt_of_le_of_lt (Ax.kz kl) (by decide)) _
 have W7:Ax.aH kl=⟨(Rd.text (Gs.body D++t) false).1.toArray⟩:=by rw[vh]
 have l6:Rd.cD (Ax.bw (Ax.aH kl))=gQ:=Rd.xw tG (fun p=>(nz p).trans (fu he p).symm)
 have UM:Rd.dJ (Rd.cD (Ax.bw (Ax.aH kl))) (Rd.text (Gs.body D++t) false).2.1 (Rd.text (Gs.body D++t) false).2.2=some (rowsOf G,t,false):=by
  rw[l6,vh]
  exact hrt.given t
 have xE:Rd.xj (Rd.cD (Ax.bw (Ax.aH kl))) (rowsOf G)≤40:=by
  rw[l6,←Rd.Af (Cj hG hR) hG.names (dS tG)]
  exact Nat.le_trans (hR.sum hG.names (fun t ht=>cl.ord (hG.bX t ht))) (by decide)
 obtain⟨s',UF,Qe⟩:=oX he hR hG.names (Q:=gQ) (fun p=>(nz p).trans (fu he p).symm)
 rw[Rd.AD (Cj hG hR) hG.names]at UF
 have h9:=Rd.wL (s:=Gs.body D++t++hd) rfl hh W7 (by rw[og]) UM xE (sea:=s') (by rw[l6];exact UF)
 rw[l6,og,Md hg hI Qe,←hD]at h9
 exact h9
theorem CB.taken{kl:List Ax.aM}{gv:Nat→Bool}{D:Gs.St}(h:CB kl gv D)(hg:nu gv)(hd:List UInt8)(hh:hd.length=32):Rd.state (Gs.body D++hd)=some (D,hd):=by
 have:=(h.read hg [] hd hh).1 (by simp)
 simpa using this
theorem CB.more{kl:List Ax.aM}{gv:Nat→Bool}{D:Gs.St}(h:CB kl gv D)(hg:nu gv)(hd:List UInt8)(hh:hd.length=32)(x:UInt8):Rd.state (Gs.body D++hd++[x])=none:=by
 match hd,hh with
 | a::r,hh=>
  have hr:(r++[x]).length=32:=by simpa using hh
  have e:Gs.body D++a::r++[x]=Gs.body D++[a]++(r++[x]):=by simp
  rw[e]
  refine(h.read hg [a] (r++[x]) hr).2 ?_
  intro h9
  have:=congrArg List.length h9
  simp at this
end
end Go.Proofs.YtdmicblafmhflaaGreatDoor
