/- axiomkeep.facts. -/
import Derived.Test.YtdmicblafmhflaaGreatDoorC37
import Derived.Test.YtdmicblafmhflaaGreatDoorC36
import Derived.Deep.RegionHeld3
import Derived.BigQuiet
set_option linter.unusedSimpArgs false
set_option linter.unusedVariables false
set_option maxHeartbeats 4000000
set_option maxRecDepth 100000
namespace Go.Proofs.YtdmicblafmhflaaGreatDoor
section
open Go.RowKit
structure fI(w:World)(ad:Option Addr)(n c:Nat)(l:List Int):Prop where
 len:l.length=n
 cap:n≤c
 max:c≤maxLen
 at_:∀k (h:k<l.length),∃g o,ad=some ⟨g,o,none⟩∧w.cell? ⟨g,o+k,none⟩=some (.int .i64 l[k])∧cn l[k]
theorem fI.below{w w':World}{ad:Option Addr}{n c:Nat}{l:List Int}(h:fI w ad n c l)(hb:Below w.heap.size w w'):fI w' ad n c l:=
 ⟨h.len,h.cap,h.max,fun k hk=>let ⟨g,o,e,c1,f⟩:=h.at_ k hk;⟨g,o,e,bl hb c1,f⟩⟩
structure oC(w wr:World)(a:Value)(l:List FI)(D:List (ByteArray×List ByteArray)):Prop where
 row:wr.ownsRow w.heap.size 48 2 a l.length (fP l)
 each:∀f,f∈l→wr.ownsRow w.heap.size 9 1 f.av f.args.length (strCells f.args)
 data:l.map (fun f=>(f.pred,f.args))=D
 aQ:Below w.heap.size w wr
theorem oC.nil(w:World):oC w w (.slice none 0 0) [] []:=⟨World.ownsRow_nil _ _ _ _,by simp,rfl,Below.refl _ _⟩
theorem oC.below{w wr w':World}{a:Value}{l:List FI}{D:List (ByteArray×List ByteArray)}(h:oC w wr a l D)(hb:Below wr.heap.size wr w'):oC w w' a l D:=
 ⟨ah h.row hb,fun f hf=>ah (h.each f hf) hb,h.data,h.aQ.trans (hb.mono h.aQ.size)⟩
theorem oC.step{w wr w2:World}{a v2:Value}{l:List FI}{D:List (ByteArray×List ByteArray)}(h:oC w wr a l D)(f:FI)(Z1:wr.ownsRow w.heap.size 9 1 f.av f.args.length (strCells f.args))
 (au:w2.ownsRow w.heap.size 48 2 v2 (l.length+1) (fP l++[.string f.pred,f.av])){o:Obj}(hg:(wr.alloc o).grownBy w2 a.ownBlock):oC w w2 v2 (l++[f]) (D++[(f.pred,f.args)]):=by
 have hs:=h.aQ.size
 have cw:Below wr.heap.size wr (wr.alloc o):=(Below.refl _ _).alloc (Nat.le_refl _) _
 have hk:=Kb.dV hg
 have aG:∀q,a.ownBlock=some q→w.heap.size≤q∧q<wr.heap.size:=fun q hq=>h.row.lt q hq
 have RR:∀u:FI,wr.ownsRow w.heap.size 9 1 u.av u.args.length (strCells u.args)→w2.ownsRow w.heap.size 9 1 u.av u.args.length (strCells u.args):=fun u hu=>by
  refine hk.row (ah hu cw) (fun b hb hc=> ?_)
  rw[Option.mem_toList]at hc
  obtain⟨c1,e1⟩:=aI hu hb
  obtain⟨c2,e2⟩:=aI h.row hc
  rw[e1]at e2
  simp at e2
 refine⟨?_, ?_, ?_, ?_⟩
 · rw[rj,List.length_append]
   exact au
 · intro u hu
   rcases List.mem_append.1 hu with hu | hu
   · exact RR u (h.each u hu)
   · simp only[List.mem_singleton]at hu
     subst hu
     exact RR _ Z1
 · rw[List.map_append,h.data]
   simp
 · exact hk.aU (h.aQ.trans (cw.mono hs)) (by simp;omega) (fun q hq=>by rw[Option.mem_toList]at hq;exact(aG q hq).1)
def Ek(l:List Int):List (ByteArray×List ByteArray):=(l.take 30).map fun c=>bk (Ax.aT c 36)
theorem E7(w:World)(ad:Option Addr)(n c:Nat)(L:List Int)(hL:fI w ad n c L):Calls Tryz.prog 39 #[.slice ad n c] w fun e w'=>∃v l,e=.returned v∧oC w w' v l (Ek L):=by
 obtain⟨i0,hi,ew,ev,dY⟩:=info_parts Tryz.uC
 have xM:=hL.len
 subst xM
 have HL:Hid (fI w ad L.length c L):=hL
 have ll:=hL.cap
 have Y6:=hL.max
 have hm:maxLen=9223372036854775807:=rfl
 clear hL
 go_enter Tryz.func39,Tryz.ntmps39
 go_wp2_with fail
 go_loopw [3,4] (fun a i wr=>∃(k:Nat) (l:List FI),k≤L.length∧k≤30∧i=.int .i64 k∧oC w wr a l ((L.take k).map fun c=>bk (Ax.aT c 36))) (fun _ i _=>30-(intOf i).toNat)
 case atStart=>exact⟨0,[],by omega,by omega,rfl,oC.nil w⟩
 case round=>
  obtain⟨k,l,hk,Te,rfl,hF⟩:=hrel
  obtain⟨bd,bc,rfl⟩:=aj hF.row
  have HF:Hid (oC w wr (.slice bd l.length bc) l ((L.take k).map fun c=>bk (Ax.aT c 36))):=hF
  have G2:l.length≤30:=by
   have:=congrArg List.length hF.data
   simp at this
   omega
  clear hF
  by_cases aG:k<L.length
  · by_cases Pg:k<30
    · obtain⟨g,o,rfl,ca,kg⟩:=(HL.out.below HF.out.aQ).at_ k aG
      have eX:Hid ((L.take (k+1)).map (fun c=>bk (Ax.aT c 36))=(L.take k).map (fun c=>bk (Ax.aT c 36))++[bk (Ax.aT L[k] 36)]):=by
       have e0:L.take (k+1)=L.take k++[L[k]]:=by rw[List.take_add_one,List.getElem?_eq_getElem aG];rfl
       have e1:(L.take (k+1)).map (fun c=>bk (Ax.aT c 36))=(L.take k).map (fun c=>bk (Ax.aT c 36))++[bk (Ax.aT L[k] 36)]:=by rw[e0,List.map_append];rfl
       exact e1
      have My:=JR wr L[k] kg
      generalize L[k]=x at ca My eX
      have Ey:Hid (Calls Tryz.prog 72 #[.int .i64 x] wr fun e w'=>∃f:FI,e=.returned (.agg #[.string f.pred,f.av])∧Hid ((f.pred,f.args)=bk (Ax.aT x 36)∧w'.ownsRow w.heap.size 9 1 f.av f.args.length (strCells f.args)∧oC w w' (.slice bd l.length bc) l ((L.take k).map fun c=>bk (Ax.aT c 36)))):=by
       refine My.mono ?_
       rintro e w' ⟨f,rfl,q1,q2,q3⟩
       exact⟨f,rfl,q1,aE q2 HF.out.aQ.size,HF.out.below q3⟩
      clear My kg
      go_wp2_with (first | (go_at_call 72;refine Ey.out.mono ?_;rintro e w3 ⟨f,rfl,HQ⟩;obtain⟨fp,fa,fv⟩:=f;simp only at HQ ⊢;obtain⟨xd,xc,hfv⟩:=aj HQ.out.2.1;subst hfv) | (at_builtin;refine wpList_append_own _ rfl (.tmp 15) (.tmp 21) 37 rfl w.heap.size 48 i0 _ 2 40 Tryz.underlying37 hi ew ev dY rfl (by decide) _ _ _ rfl (HQ.out.2.2.row.alloc _) ⟨w3.heap.size,0,none⟩ 1 1 [.string fp,.slice xd fa.length xc] rfl rfl (fR _ _ _) (by simp[Value.oneCell']) (by unfold maxLen;omega) (by omega) (by have:=HQ.out.2.2.aQ.size;simp;omega) ?_;intro v2 w2 aP bx _))
      have HX:Hid (oC w w2 v2 (l++[⟨fp,fa,.slice xd fa.length xc⟩]) ((L.take (k+1)).map fun c=>bk (Ax.aT c 36))):=by
       rw[eX.out,←HQ.out.1]
       exact HQ.out.2.2.step ⟨fp,fa,.slice xd fa.length xc⟩ HQ.out.2.1 aP bx
      go_roundw
      case rel=>exact⟨k+1,_,aG,Pg,by go_num,HX.out⟩
      case measure=>simp[intOf];omega
    · have HE:Hid (oC w wr (.slice bd l.length bc) l (Ek L)):=by
       have e:k=30:=by omega
       have h9:=HF.out
       rw[e]at h9
       exact h9
      go_wp2_with fail
      go_ret
      exact⟨_,l,rfl,HE.out⟩
  · have HE:Hid (oC w wr (.slice bd l.length bc) l (Ek L)):=by
     have h9:=HF.out
     have e1:L.take k=L.take 30:=by rw[List.take_of_length_le (by omega),List.take_of_length_le (by omega)]
     rw[e1]at h9
     exact h9
    go_wp2_with fail
    go_ret
    exact⟨_,l,rfl,HE.out⟩
end
/- axiomkeep.Shop.truths. -/
section
open Go.RowKit Go.Maps
theorem Tryz.Kr:(Tryz.prog.info? 52).map (fun i=>(i.zero,i.size,i.bytes))=some (some (.agg #[.bool false,.bool false,.int .i64 0]),3,16):=by kernel_rfl
structure TI(wr:World)(b:Option Nat)(W:World):Prop where
 aQ:Below wr.heap.size wr W
 cP:∀x,b=some x→wr.heap.size≤x∧W.heap[x]?=some (.cells #[.bool false,.bool false,.int .i64 0] 52 (0,0))
theorem TI.below{wr W w':World}{b:Option Nat}(h:TI wr b W)(hb:Below W.heap.size W w'):TI wr b w':=by
 refine⟨h.aQ.trans (hb.mono h.aQ.size), ?_⟩
 intro x hx
 obtain⟨h1,h2⟩:=h.cP x hx
 exact⟨h1,by rw[hb.block _ (lt_of_heap h2)];exact h2⟩
theorem TI.drew{wr W:World}{b:Option Nat}(h:TI wr b W):TI wr b W.drew:=h.below (Below.refl _ _).drew
theorem TI.alloc{wr W:World}(h:TI wr none W):TI wr (some W.heap.size) (W.alloc (.cells #[.bool false,.bool false,.int .i64 0] 52)):=by
 refine⟨h.aQ.alloc h.aQ.size _, ?_⟩
 intro x hx
 simp only[Option.some.injEq]at hx
 subst hx
 exact⟨h.aQ.size,heap_alloc_new _ _⟩
theorem TI.cells{wr W:World}{x:Nat}(h:TI wr (some x) W):W.cell? ⟨x,0,none⟩=some (.bool false)∧W.cell? ⟨x,1,none⟩=some (.bool false)∧W.cell? ⟨x,2,none⟩=some (.int .i64 0)∧W.frozen? ⟨x,0,none⟩=false∧W.frozen? ⟨x,1,none⟩=false∧W.frozen? ⟨x,2,none⟩=false∧x<W.heap.size:=by
 obtain⟨h1,h2⟩:=h.cP x rfl
 exact⟨by rw[cell_of_row _ _ _ _ _ _ h2];rfl,by rw[cell_of_row _ _ _ _ _ _ h2];rfl,by rw[cell_of_row _ _ _ _ _ _ h2];rfl,by simp[World.frozen?,h2],by simp[World.frozen?,h2],by simp[World.frozen?,h2],lt_of_heap h2⟩
structure Vb(wr:World)(g h:Bool)(c:Nat)(v7 v8:Value)(wx:World):Prop where
 v8:v8=.int .i64 0
 out:∃tb,v7=.pointer (some ⟨tb,0,none⟩)∧wx.heap[tb]?=some (.cells #[.bool g,.bool h,.int .i64 (c:Nat)] 52 (0,0))∧Below wr.heap.size wr wx
theorem TI.Ec{wr W:World}{x:Nat}(h:TI wr (some x) W)(g k:Bool)(c:Nat):Vb wr g k c (.pointer (some ⟨x,0,none⟩)) (.int .i64 0) (((W.setCell ⟨x,0,none⟩ (.bool g)).setCell ⟨x,1,none⟩ (.bool k)).setCell ⟨x,2,none⟩ (.int .i64 (c:Nat))):=by
 obtain⟨h1,h2⟩:=h.cP x rfl
 exact⟨rfl,x,rfl,re h2 _ _ _,((h.aQ.setCell (p:=⟨x,0,none⟩) h1 _).setCell (p:=⟨x,1,none⟩) h1 _).setCell (p:=⟨x,2,none⟩) h1 _⟩
theorem TI.C6{wr W:World}(h:TI wr none W)(g k:Bool)(c:Nat):Vb wr g k c (.pointer (some ⟨W.heap.size,0,none⟩)) (.int .i64 0) (W.alloc (.cells #[.bool g,.bool k,.int .i64 (c:Nat)] 52)):=
 ⟨rfl,W.heap.size,rfl,heap_alloc_new _ _,h.aQ.alloc h.aQ.size _⟩
structure YK(w wr:World)(out:Value)(k:Nat)(xs:List Value):Prop where
 row:wr.ownsRow w.heap.size 52 3 out k xs
 aQ:Below w.heap.size w wr
theorem qf(w:World)(B sb eg:Nat)(rv:Value)(kl:List Ax.aA)(gv:Nat→Bool)(n:Nat)(hS:dv w sb eg rv gv)(hE:nG w B eg kl gv n)(hg:fX gv)(hU:eM w):
 Calls Tryz.prog 36 #[.pointer (some ⟨sb,0,none⟩)] w fun e w'=>∃od oc,e=.returned (.tuple #[.slice od 36 oc,.bool true])∧w'.ownsRow w.heap.size 52 3 (.slice od 36 oc) 36 (cA kl gv 36)∧Below w.heap.size w w':=by
 obtain⟨i0,hi,ew,ev,dY⟩:=info_parts Tryz.Kr
 have EL:Hid (∀W,Below w.heap.size w W→W.cell? ⟨sb,0,none⟩=some (.pointer (some ⟨eg,0,none⟩))∧∀i,i<36→W.cell? ⟨sb,2+i,none⟩=some (.bool (gv i))):=fun W hW=>⟨(hS.below hW).cells.1,(hS.below hW).cells.2.2⟩
 have Wz:Hid (∀wr i av b W,Below w.heap.size w wr→i<36→wr.ownsRow 0 9 1 av (bk i).2.length (strCells (bk i).2)→TI wr b W→Calls Tryz.prog 21 #[.pointer (some ⟨eg,0,none⟩),.agg #[.string (bk i).1,av]] W fun e w'=>e=.returned (.tuple #[.agg #[.bool (gv i),.bool (En.al (En.af kl) gv i),.int .i64 (lq kl gv i:Nat)],.int .i64 0])∧TI wr b w'):=by
  intro wr i av b W Ja hi pJ hW
  have hb:=Ja.trans (hW.aQ.mono Ja.size)
  refine(Rs (hE.below hb) hg (Utf8Tabs_below hU hb) hi (ah pJ hW.aQ)).mono ?_
  rintro e w' ⟨rfl,jR⟩
  exact⟨rfl,hW.below jR⟩
 have VD:=lt_of_heap hS
 clear hS hE hg hU
 go_enter Tryz.func36,Tryz.ntmps36
 go_wp2_with (go_at_call 65;refine(Hv _).mono ?_;rintro e w1 ⟨v,l,rfl,hA⟩;obtain⟨ad,ac,hv⟩:=aj hA.row;subst hv)
 have HA:Hid (iL w w1 (.slice ad l.length ac) 36 l):=hA
 have HL:Hid (l.length=36):=hA.len
 have G2:l.length≤36:=by rw[HL.out];exact Nat.le_refl _
 clear hA
 go_loopw [5,6] (fun o i wr=>∃(k:Nat),k≤l.length∧i=.int .i64 k∧YK w1 wr o k (cA kl gv k)) (fun _ i _=>l.length-(intOf i).toNat)
 case atStart=>exact⟨0,Nat.zero_le _,rfl,⟨World.ownsRow_nil _ _ _ _,Below.refl _ _⟩⟩
 case round=>
  obtain⟨k,hk,rfl,hT⟩:=hrel
  have bq:=hT.aQ
  have kE:Below w.heap.size w wr:=HA.out.aQ.trans (bq.mono HA.out.aQ.size)
  obtain⟨od,oc,rfl⟩:=aj hT.row
  by_cases aG:k<l.length
  · have NZ:k<36:=by omega
    have hAr:=HA.out.below bq
    obtain⟨g,rfl,mO,JF,br⟩:=aD hAr.row (by omega)
    have c0:=br _ _ (dN l k aG).1
    have c1:=br _ _ (dN l k aG).2
    have hd:=congrArg (fun x=>x[k]?) hAr.data
    simp only[List.getElem?_map,List.getElem?_eq_getElem aG,Option.map_some,List.getElem?_range NZ,Option.some.injEq]at hd
    have pJ:=hAr.each _ (List.getElem_mem aG)
    have e1:(l[k]).pred=(bk k).1:=congrArg Prod.fst hd
    have e2:(l[k]).args=(bk k).2:=congrArg Prod.snd hd
    rw[e2]at pJ
    rw[e1]at c0
    obtain⟨xd,xc,hxv⟩:=aj pJ
    rw[hxv]at c1 pJ
    have LQ:Hid (∀b W,TI wr b W→Calls Tryz.prog 21 #[.pointer (some ⟨eg,0,none⟩),.agg #[.string (bk k).1,.slice xd (bk k).2.length xc]] W fun e w'=>e=.returned (.tuple #[.agg #[.bool (gv k),.bool (En.al (En.af kl) gv k),.int .i64 (lq kl gv k:Nat)],.int .i64 0])∧TI wr b w'):=fun b W hW=>Wz.out wr k _ b W kE NZ (aE pJ (Nat.zero_le _)) hW
    have eX:Hid (cA kl gv (k+1)=cA kl gv k++[.bool (gv k),.bool (En.al (En.af kl) gv k),.int .i64 (lq kl gv k:Nat)]):=iE kl gv k
    have xS:Hid (Below w.heap.size w wr):=kE
    have DV:=(EL.out wr kE).1
    have hI1:TI wr none wr:=⟨Below.refl _ _,fun x h=>by cases h⟩
    have lA:Hid (∀W,Below wr.heap.size wr W→W.cell? ⟨sb,0,none⟩=some (.pointer (some ⟨eg,0,none⟩))∧W.cell? ⟨g,k*2,none⟩=some (.string (bk k).1)∧W.cell? ⟨g,k*2+1,none⟩=some (.slice xd (bk k).2.length xc)):=fun W hW=>⟨by rw[hW.cell (block_lt_of_cell DV)];exact DV,by rw[hW.cell (block_lt_of_cell c0)];exact c0,by rw[hW.cell (block_lt_of_cell c1)];exact c1⟩
    have O9:Hid (YK w1 wr (.slice od k oc) k (cA kl gv k)):=hT
    have HSG:Hid (∀W,Below wr.heap.size wr W→W.cell? ⟨sb,2+k,none⟩=some (.bool (gv k))):=fun W hW=>(EL.out W (xS.out.trans (hW.mono xS.out.size))).2 k NZ
    clear hT hAr br hd pJ e1 e2 hxv Wz EL bq kE
    generalize cA kl gv k=X0 at*
    generalize En.al (En.af kl) gv k=nV at*
    generalize lq kl gv k=Sq at*
    generalize gv k=U6 at*
    generalize (bk k).1=pk1 at*
    generalize (bk k).2.length=nk1 at*
    go_upto_region 6 with fail
    go_cut [7,8]from 10 to 44 (fun v7 v8 wx=>Hid (Vb wr U6 nV Sq v7 v8 wx))
    case first=>
     go_region_held3 (fun W=>W.cell? ⟨sb,0,none⟩=some (.pointer (some ⟨eg,0,none⟩))∧W.cell? ⟨g,k*2,none⟩=some (.string pk1)∧W.cell? ⟨g,k*2+1,none⟩=some (.slice xd nk1 xc)) (first | (exact lA.out _ (TI.aQ (by assumption))) | (exact lA.out _ (TI.aQ (TI.drew (by assumption)))) | (exact lA.out _ (TI.aQ (TI.alloc (by assumption)))) | (exact lA.out _ (TI.aQ (TI.alloc (TI.drew (by assumption))))) | (exact lA.out _ (by obtain⟨_,_,_,_,sM⟩:=TI.Ec (by assumption) U6 nV Sq;exact sM)) | (exact lA.out _ (by obtain⟨_,_,_,_,sM⟩:=TI.C6 (by assumption) U6 nV Sq;exact sM))) ((go_at_call 21;refine(LQ.out _ _ (by first | assumption | exact TI.drew (by assumption) | exact TI.alloc (by assumption) | exact TI.alloc (TI.drew (by assumption)))).mono ?_;rintro e wn ⟨rfl,hTn⟩;(try (obtain⟨z0,z1,z2,f0,f1,f2,zl⟩:=TI.cells hTn;(try simp only[World.size_drew]at z0 z1 z2 f0 f1 f2 zl)))))
     all_goals
      (go_wp2_with fail
       go_meet
       first
       | exact TI.Ec (by assumption) _ _ _
       | exact TI.C6 (by assumption) _ _ _)
    case rest=>
     obtain⟨Zo,tb,hv7,Ln,lC⟩:=hcut.out
     subst Zo
     subst hv7
     have d0:wc.cell? ⟨tb,0,none⟩=some (.bool U6):=by rw[cell_of_row _ _ _ _ _ _ Ln];rfl
     have d1:wc.cell? ⟨tb,1,none⟩=some (.bool nV):=by rw[cell_of_row _ _ _ _ _ _ Ln];rfl
     have d2:wc.cell? ⟨tb,2,none⟩=some (.int .i64 (Sq:Nat)):=by rw[cell_of_row _ _ _ _ _ _ Ln];rfl
     have sg:=HSG.out wc lC
     have TK:Hid (YK w1 wc (.slice od k oc) k X0):=⟨ah O9.out.row lC,O9.out.aQ.trans (lC.mono O9.out.aQ.size)⟩
     clear hcut Ln lC HSG lA LQ O9 xS hI1 DV c0 c1
     go_upto_region 7 with fail
     go_quiet (fail)
     obtain⟨w9,O8⟩:∃w9,w9=wc.drewN nq:=⟨_,rfl⟩
     have b9:Below wc.heap.size wc w9:=by rw[O8];exact⟨rfl,rfl,rfl,Nat.le_refl _,fun _ _=>rfl⟩
     have g0:w9.cell? ⟨tb,0,none⟩=some (.bool U6):=by rw[b9.cell (block_lt_of_cell d0)];exact d0
     have g1:w9.cell? ⟨tb,1,none⟩=some (.bool nV):=by rw[b9.cell (block_lt_of_cell d1)];exact d1
     have g2:w9.cell? ⟨tb,2,none⟩=some (.int .i64 (Sq:Nat)):=by rw[b9.cell (block_lt_of_cell d2)];exact d2
     have VT:Hid (YK w1 w9 (.slice od k oc) k X0):=⟨ah TK.out.row b9,TK.out.aQ.trans (b9.mono TK.out.aQ.size)⟩
     rw[←O8]
     clear O8 b9 d0 d1 d2 sg TK
     go_wp2_with (at_builtin;refine wpList_append_own _ rfl (.tmp 41) (.tmp 43) 85 rfl w1.heap.size 52 i0 _ 3 16 Tryz.underlying85 hi ew ev dY rfl (by decide) _ _ _ rfl (VT.out.row.alloc _) ⟨w9.heap.size,0,none⟩ 1 1 [.bool U6,.bool nV,.int .i64 (Sq:Nat)] rfl rfl (fR _ _ _) (by simp[Value.oneCell']) (by unfold maxLen;omega) (by omega) (by have:=VT.out.aQ.size;simp;omega) ?_;intro v2 w2 aP bx _)
     have HX:Hid (YK w1 w2 v2 (k+1) (cA kl gv (k+1))):=by
      refine⟨?_,(VT.out.aQ.alloc VT.out.aQ.size _).grown bx (by have:=VT.out.aQ.size;simp;omega) (fun q hq=>(VT.out.row.lt q hq).1)⟩
      rw[eX.out]
      exact aP
     go_roundw
     case rel=>exact⟨k+1,aG,by go_num,HX.out⟩
     case measure=>simp[intOf];omega
  · have qH:k=l.length:=by omega
    have HE9:Hid (wr.ownsRow w.heap.size 52 3 (.slice od 36 oc) 36 (cA kl gv 36)∧Below w.heap.size w wr):=by
     have e:k=36:=by rw[qH];exact HL.out
     rw[e]at hT
     exact⟨aE hT.row HA.out.aQ.size,kE⟩
    have NZ:Hid (k=36):=by
     have e:k=36:=by rw[qH];exact HL.out
     exact e
    clear hT qH bq kE
    go_wp2_with fail
    go_ret2
    exact⟨od,oc,by rw[NZ.out];rfl,HE9.out⟩
end
/- axiomkeep.Shop.right: what its loops work out. -/
section
open Go.RowKit
def jL(C:Nat→Nat):List Value:=(List.range 36).map fun i=>.int .i64 (C i:Nat)
theorem pA(C:Nat→Nat){i:Nat}(h:i<36):(jL C)[i]?=some (.int .i64 (C i:Nat)):=by simp[jL,h]
theorem nz(C:Nat→Nat):(jL C).length=36:=by simp[jL]
theorem Gi{H K:Nat→Nat}(h:∀i,i<36→H i=K i):jL H=jL K:=by
 unfold jL
 refine List.map_congr_left ?_
 intro i hi
 rw[h i (by simpa using hi)]
def iU(C:Nat→Nat)(x n:Nat):Nat→Nat:=fun j=>if j=x then n else C j
theorem Fb(H:Nat→Nat)(x n:Nat):(jL H).toArray.setIfInBounds x (.int .i64 (n:Nat))=(jL (iU H x n)).toArray:=by
 rw[List.setIfInBounds_toArray]
 congr 1
 apply List.ext_getElem?
 intro i
 rw[List.getElem?_set]
 by_cases hi:i<36
 · by_cases e:x=i
   · subst e
     rw[if_pos rfl,if_pos (by rw[nz];exact hi),pA _ hi]
     simp[iU]
   · rw[if_neg e,pA _ hi,pA _ hi]
     simp[iU,Ne.symm e]
 · have h1:(jL H)[i]?=none:=List.getElem?_eq_none (by rw[nz];omega)
   have h2:(jL (iU H x n))[i]?=none:=List.getElem?_eq_none (by rw[nz];omega)
   rw[h1,h2]
   by_cases e:x=i
   · subst e
     rw[if_pos rfl,if_neg (by rw[nz];omega)]
   · rw[if_neg e]
def Aw(w:World)(cb:Nat)(C:Nat→Nat):Prop:=w.heap[cb]?=some (.cells (jL C).toArray 88 (0,0))
structure o6(w2 wr:World)(C:Nat→Nat):Prop where
 jX:Aw wr w2.heap.size C
 aQ:Below w2.heap.size w2 wr
theorem o6.below{w2 wr w':World}{C:Nat→Nat}(h:o6 w2 wr C)(hb:Below wr.heap.size wr w'):o6 w2 w' C:=by
 refine⟨?_,h.aQ.trans (hb.mono h.aQ.size)⟩
 have:=h.jX
 unfold Aw at this ⊢
 rw[hb.block _ (lt_of_heap this)]
 exact this
theorem o6.set{w2 wr:World}{C:Nat→Nat}(h:o6 w2 wr C)(x n:Nat):o6 w2 (wr.setCell ⟨w2.heap.size,x,none⟩ (.int .i64 (n:Nat))) (iU C x n):=by
 refine⟨?_,h.aQ.setCell (p:=⟨w2.heap.size,x,none⟩) (Nat.le_refl _) _⟩
 unfold Aw
 rw[aw wr h.jX x,Fb]
theorem o6.ext{w2 wr:World}{C D:Nat→Nat}(h:o6 w2 wr C)(e:∀i,i<36→C i=D i):o6 w2 wr D:=by
 refine⟨?_,h.aQ⟩
 have:=h.jX
 unfold Aw at this ⊢
 rw[←Gi e]
 exact this
theorem o6.cell{w2 wr:World}{C:Nat→Nat}(h:o6 w2 wr C){i:Nat}(hi:i<36):wr.cell? ⟨w2.heap.size,i,none⟩=some (.int .i64 (C i:Nat))∧wr.frozen? ⟨w2.heap.size,i,none⟩=false∧w2.heap.size<wr.heap.size:=by
 have h2:=h.jX
 unfold Aw at h2
 refine⟨?_,by simp[World.frozen?,h2],lt_of_heap h2⟩
 rw[cell_of_row _ _ _ _ _ _ h2]
 simpa using pA C hi
def jF(R:List En.bC)(H:Nat→Bool)(i:Nat):Nat→Nat:=fun x=>((R.take i).map fun r=>En.eA (En.cB r H) x).sum
theorem AH{R:List En.bC}{H:Nat→Bool}{i:Nat}(hi:i<R.length)(x:Nat):jF R H (i+1) x=jF R H i x+En.eA (En.cB R[i] H) x:=by
 unfold jF
 rw[List.take_add_one,List.getElem?_eq_getElem hi,List.map_append,List.sum_append]
 simp
theorem zP(r:En.bC)(H:Nat→Bool):(En.cB r H).length≤64:=by
 unfold En.cB En.BX En.vs
 rw[List.length_map]
 refine Nat.le_trans (List.length_filter_le _ _) (Nat.le_trans (List.length_filter_le _ _) (by simp))
theorem vu(R:List En.bC)(H:Nat→Bool)(x:Nat):∀i,jF R H i x≤64*i
 | 0=>Nat.le_refl _
 | i+1=>by
  by_cases hi:i<R.length
  · rw[AH hi]
    have h1:=vu R H x i
    have h2:En.eA (En.cB R[i] H) x≤64:=Nat.le_trans List.count_le_length (zP _ _)
    omega
  · have:jF R H (i+1) x=jF R H i x:=by
     unfold jF
     rw[List.take_of_length_le (by omega),List.take_of_length_le (by omega)]
    rw[this]
    have h1:=vu R H x i
    omega
def pH(C:Nat→Nat)(L:List Nat)(k:Nat):Nat→Nat:=fun x=>C x+En.eA (L.take k) x
theorem Kk{C:Nat→Nat}{L:List Nat}{k:Nat}(hk:k<L.length):iU (pH C L k) L[k] (pH C L k L[k]+1)=pH C L (k+1):=by
 funext x
 unfold iU pH En.eA
 rw[List.take_add_one,List.getElem?_eq_getElem hk,List.count_append]
 by_cases e:x=L[k]
 · subst e
   rw[if_pos rfl]
   simp
   omega
 · rw[if_neg e]
   simp[Ne.symm e]
def b3(H:Nat→Bool)(C:Nat→Nat)(i:Nat):Nat→Nat:=fun x=>(if x<i∧(H x&&H (4+5*x))=true then 1 else 0)+((if x<i∧(H x&&H (20+5*x))=true then 1 else 0)+C x)
theorem aaH(H:Nat→Bool)(C:Nat→Nat):b3 H C 0=C:=by
 funext x
 simp[b3]
def OR(H:Nat→Bool)(C:Nat→Nat)(i:Nat):Nat→Nat:=iU (b3 H C i) i (b3 H C i i+(if (H i&&H (4+5*i))=true then 1 else 0))
theorem RE(H:Nat→Bool)(C:Nat→Nat)(i:Nat):b3 H C i i=C i:=by simp[b3]
theorem QU(H:Nat→Bool)(C:Nat→Nat)(i:Nat):iU (OR H C i) i (OR H C i i+(if (H i&&H (20+5*i))=true then 1 else 0))=b3 H C (i+1):=by
 funext x
 unfold iU
 by_cases e:x=i
 · subst e
   rw[if_pos rfl]
   have:OR H C x x=C x+(if (H x&&H (4+5*x))=true then 1 else 0):=by simp[OR,iU,RE]
   rw[this]
   unfold b3
   have h1:x<x+1:=by omega
   simp only[h1,true_and]
   omega
 · rw[if_neg e]
   have h1:(x<i+1)=(x<i):=by
    rw[eq_iff_iff]
    omega
   unfold OR iU
   rw[if_neg e]
   unfold b3
   simp only[h1]
theorem o8(C:Nat→Nat)(i:Nat):iU C i (C i+0)=C:=by
 funext x
 unfold iU
 by_cases e:x=i
 · subst e;simp
 · rw[if_neg e]
theorem abZ(kl:List Ax.aA)(gv:Nat→Bool)(x:Nat):b3 (En.al (En.af kl) gv) (jF (En.af kl) (En.al (En.af kl) gv) (En.af kl).length) 4 x=lq kl gv x:=by
 unfold b3 lq jF
 rw[List.take_length]
theorem Nl{kl:List Ax.aA}{gv:Nat→Bool}(hg:fX gv){i:Nat}(h:En.al (En.af kl) gv i=false):lq kl gv i=0:=by
 unfold lq
 rw[h]
 simp only[Bool.false_and,Bool.false_eq_true,and_false,if_false,Nat.zero_add]
 have hc:=En.ru (En.mn kl) hg
 rw[List.sum_eq_zero_iff_forall_eq_nat]
 intro y hy
 obtain⟨r,hr,rfl⟩:=List.mem_map.1 hy
 unfold En.eA
 rw[List.count_eq_zero]
 intro hi
 obtain⟨n,hn,rfl⟩:=List.mem_map.1 hi
 unfold En.BX at hn
 rw[List.mem_filter,List.all_eq_true]at hn
 have h9:En.al (En.af kl) gv (En.qM (En.gZ n) r.head)=true:=hc r hr n hn.1 (fun b hb=>hn.2 b hb)
 rw[h]at h9
 cases h9
theorem uJ(kl:List Ax.aA)(gv:Nat→Bool):∀n,(cA kl gv n).length=n*3
 | 0=>rfl
 | n+1=>by
  rw[iE,List.length_append,uJ kl gv n]
  simp
  omega
theorem D1(kl:List Ax.aA)(gv:Nat→Bool):∀(k:Nat),k<36→(cA kl gv 36)[k*3+1]?=some (.bool (En.al (En.af kl) gv k))∧(cA kl gv 36)[k*3+2]?=some (.int .i64 (lq kl gv k:Nat)):=by
 have key:∀n k,k<n→(cA kl gv n)[k*3+1]?=some (.bool (En.al (En.af kl) gv k))∧(cA kl gv n)[k*3+2]?=some (.int .i64 (lq kl gv k:Nat)):=by
  intro n
  induction n with
  | zero=>intro k hk;omega
  | succ n ih=>
   intro k hk
   have hl:=uJ kl gv n
   rw[iE]
   by_cases e:k<n
   · rw[List.getElem?_append_left (by omega),List.getElem?_append_left (by omega)]
     exact ih k e
   · have:k=n:=by omega
     subst this
     rw[List.getElem?_append_right (by omega),List.getElem?_append_right (by omega),hl]
     have e1:k*3+1-k*3=1:=by omega
     have e2:k*3+2-k*3=2:=by omega
     rw[e1,e2]
     exact⟨rfl,rfl⟩
 exact key 36
end
end Go.Proofs.YtdmicblafmhflaaGreatDoor
