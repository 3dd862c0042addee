/- Engine.changed: the tables as facts come and go. -/
import Derived.Test.YtdmicblafmhflaaGreatDoorC34
set_option linter.unusedSimpArgs false
set_option linter.unusedVariables false
set_option maxHeartbeats 4000000
set_option maxRecDepth 100000
namespace Go.Proofs.YtdmicblafmhflaaGreatDoor
section
open Go.RowKit Go.Maps
theorem kY.update{w w':World}{gm:Nat}{A B:List GT}{t t':GT}(h:kY w gm (A++t::B))(hk:Kb t.bY w w')(ht:t'.ok w')(hn:t'.nm=t.nm)(hg:t'.g=t.g)(hf:∀b,b∈t'.bY→b∈t.bY∨w.heap.size≤b):kY w' gm (A++t'::B):=by
 have Wp:t∈A++t::B:=by simp
 have my:(A++t'::B).map GT.key=(A++t::B).map GT.key:=by simp[GT.key,hn,hg]
 have iJ:(A++t'::B).map GT.nm=(A++t::B).map GT.nm:=by simp[hn]
 have Cd:=h.apart
 rw[List.pairwise_append,List.pairwise_cons]at Cd
 obtain⟨p1,⟨p2,p3⟩,p4⟩:=Cd
 have aG:∀u,u∈A++t::B→∀b,b∈u.bY→b<w.heap.size:=fun u hu b hb=>(h.bR u hu).lt hb
 have hA:∀a,a∈A→∀x,x∈a.bY→¬x∈t.bY:=fun a ha=>p4 a ha t (by simp)
 have hB:∀a,a∈B→∀x,x∈a.bY→¬x∈t.bY:=fun a ha x hx h2=>p2 a ha x h2 hx
 refine⟨?_, ?_, ?_,by rw[iJ];exact h.names, ?_⟩
 · rw[my]
   refine h.map.kept hk ?_
   intro hb
   obtain⟨cur,T,e,_⟩:=(h.bR t Wp).types hb
   obtain⟨es,ck,e2⟩:=h.map.block
   rw[e2]at e
   cases e
 · intro u hu
   rcases List.mem_append.1 hu with hu | hu
   · exact(h.bR u (by simp[hu])).kept hk (hA u hu)
   · rcases List.mem_cons.1 hu with rfl | hu
     · exact ht
     · exact(h.bR u (by simp[hu])).kept hk (hB u hu)
 · rw[List.pairwise_append,List.pairwise_cons]
   refine⟨p1,⟨?_,p3⟩, ?_⟩
   · intro a ha x hx h2
     rcases hf x hx with h3 | h3
     · exact p2 a ha x h3 h2
     · have:=aG a (by simp[ha]) x h2;omega
   · intro a ha b hb x hx h2
     rcases List.mem_cons.1 hb with rfl | hb
     · rcases hf x h2 with h3 | h3
       · exact hA a ha x hx h3
       · have:=aG a (by simp[ha]) x hx;omega
     · exact p4 a ha b (by simp[hb]) x hx h2
 · intro u hu
   rcases List.mem_append.1 hu with hu | hu
   · exact h.short u (by simp[hu])
   · rcases List.mem_cons.1 hu with rfl | hu
     · rw[hn];exact h.short t Wp
     · exact h.short u (by simp[hu])
theorem gh.update{A B:List GT}{t t':GT}{gv:Nat→Bool}(h:gh (A++t::B) gv)(DE:((A++t::B).map GT.nm).Nodup)(hn:t'.nm=t.nm)(hp:t'.pl=t.pl){i:Nat}(hi:i<36){r0:List ByteArray}(hu:En.uF i=(t.nm,r0))(b:Bool)(hr:∀r,r∈t'.L↔if r=r0 then b=true else r∈t.L):gh (A++t'::B) (fm gv i b):=by
 have pa:(A++t'::B).map sW=(A++t::B).map sW:=by simp[sW,hn,hp]
 refine⟨by rw[pa];exact h.nf, ?_⟩
 have hu0:=hu
 have tw:∀u,u∈A++t::B→u.nm≠t.nm→∀r,r∈u.L↔∃j,j<36∧fm gv i b j=true∧En.uF j=(u.nm,r):=by
  intro u hu cE r
  rw[h.rows u hu r]
  constructor
  · rintro⟨j,hj,hg,e⟩
    refine⟨j,hj, ?_,e⟩
    unfold fm
    rw[if_neg ?_]
    · exact hg
    · rintro rfl
      rw[hu0]at e
      exact cE (congrArg Prod.fst e).symm
  · rintro⟨j,hj,hg,e⟩
    refine⟨j,hj, ?_,e⟩
    unfold fm at hg
    rw[if_neg ?_]at hg
    · exact hg
    · rintro rfl
      rw[hu0]at e
      exact cE (congrArg Prod.fst e).symm
 rw[List.map_append,List.map_cons,List.nodup_append,List.nodup_cons]at DE
 intro u nR r
 rcases List.mem_append.1 nR with nR | nR
 · refine tw u (by simp[nR]) ?_ r
   intro e
   exact DE.2.2 u.nm (List.mem_map_of_mem nR) t.nm (by simp) e
 · rcases List.mem_cons.1 nR with rfl | nR
   · rw[hr r,hn]
     by_cases hrr:r=r0
     · rw[if_pos hrr]
       subst hrr
       constructor
       · intro hb
         exact⟨i,hi,by simp[fm,hb],hu⟩
       · rintro⟨j,hj,hg,e⟩
         rw[←hu]at e
         have:=En.qq hj hi e
         subst this
         simpa [fm]using hg
     · rw[if_neg hrr,h.rows t (by simp) r]
       have VL:∀j,En.uF j=(t.nm,r)→¬j=i:=by
        rintro j e rfl
        rw[hu]at e
        exact hrr (congrArg Prod.snd e).symm
       constructor
       · rintro⟨j,hj,hg,e⟩
         exact⟨j,hj,by unfold fm;rw[if_neg (VL j e)];exact hg,e⟩
       · rintro⟨j,hj,hg,e⟩
         unfold fm at hg
         rw[if_neg (VL j e)]at hg
         exact⟨j,hj,hg,e⟩
   · refine tw u (by simp[nR]) ?_ r
     intro e
     exact DE.2.1.1 (by rw[←e];exact List.mem_map_of_mem nR)
structure uy(w wr:World)(gm:Nat)(gv:Nat→Bool):Prop where
 at_:∃N,kY wr gm N∧gh N gv∧∀b,b∈eO gm N→w.heap.size≤b
 aQ:Below w.heap.size w wr
theorem uy.below{w wr w':World}{gm:Nat}{gv:Nat→Bool}(h:uy w wr gm gv)(hb:Below wr.heap.size wr w'):uy w w' gm gv:=by
 obtain⟨N,h1,h2,h3⟩:=h.at_
 exact⟨⟨N,h1.below hb,h2,h3⟩,h.aQ.trans (hb.mono h.aQ.size)⟩
theorem uy.set{w wr w':World}{gm:Nat}{gv:Nat→Bool}{A B:List GT}{t t':GT}(hb:Below w.heap.size w wr)(h1:kY wr gm (A++t::B))(h2:gh (A++t::B) gv)(h3:∀b,b∈eO gm (A++t::B)→w.heap.size≤b)
 (hk:Kb t.bY wr w')(ht:t'.ok w')(hn:t'.nm=t.nm)(hg:t'.g=t.g)(hp:t'.pl=t.pl)(hf:∀b,b∈t'.bY→b∈t.bY∨wr.heap.size≤b){i:Nat}(hi:i<36){r0:List ByteArray}(hu:En.uF i=(t.nm,r0))(b:Bool)(hr:∀r,r∈t'.L↔if r=r0 then b=true else r∈t.L):uy w w' gm (fm gv i b):=by
 have yZ:∀x,x∈t.bY→w.heap.size≤x:=fun x hx=>h3 x (by unfold eO;simp[hx])
 refine⟨⟨A++t'::B,h1.update hk ht hn hg hf,h2.update h1.names hn hp hi hu b hr, ?_⟩,hk.aU hb hb.size yZ⟩
 intro x hx
 unfold eO at hx
 rw[List.mem_cons,List.mem_flatMap]at hx
 rcases hx with rfl | ⟨u,nR,hx⟩
 · exact h3 x (by simp[eO])
 · rcases List.mem_append.1 nR with nR | nR
   · exact h3 x (by unfold eO;rw[List.mem_cons,List.mem_flatMap];exact .inr ⟨u,by simp[nR],hx⟩)
   · rcases List.mem_cons.1 nR with rfl | nR
     · rcases hf x hx with h4 | h4
       · exact yZ x h4
       · have:=hb.size;omega
     · exact h3 x (by unfold eO;rw[List.mem_cons,List.mem_flatMap];exact .inr ⟨u,by simp[nR],hx⟩)
def aB(gv:Nat→Bool)(is:List Nat)(b:Bool):Nat→Bool:=is.foldl (fun g i=>fm g i b) gv
theorem iD(gv:Nat→Bool)(is:List Nat)(i:Nat)(b:Bool):aB gv (is++[i]) b=fm (aB gv is b) i b:=by simp[aB]
end
/- Engine.changed, walked. -/
section
open Go.RowKit Go.Maps
theorem BO(rd:Option Addr)(n m rc:Nat):(Value.slice rd n rc).ownBlock=(Value.slice rd m rc).ownBlock:=by cases rd<;>rfl
def mq(l:List FI)(is:List Nat):Prop:=l.map (fun f=>(f.pred,f.args))=is.map bk∧∀i,i∈is→i<36
theorem mq.len{l:List FI}{is:List Nat}(h:mq l is):is.length=l.length:=by
 have:=congrArg List.length h.1
 simpa using this.symm
theorem mq.at_{l:List FI}{is:List Nat}(h:mq l is){k:Nat}(hk:k<l.length):∃i,is.take (k+1)=is.take k++[i]∧i<36∧(l[k]).pred=(bk i).1∧(l[k]).args=(bk i).2:=by
 have Zu:k<is.length:=by rw[h.len];exact hk
 refine⟨is[k],by rw[List.take_add_one,List.getElem?_eq_getElem Zu];rfl,h.2 _ (List.getElem_mem Zu), ?_⟩
 have e:=congrArg (fun x=>x[k]?) h.1
 simp only[List.getElem?_map,List.getElem?_eq_getElem hk,List.getElem?_eq_getElem Zu,Option.map_some,Option.some.injEq]at e
 exact⟨congrArg Prod.fst e,congrArg Prod.snd e⟩
theorem xQ{p:ByteArray}{a b:Nat}(h1:(p,a)∈jW)(h2:(p,b)∈jW):a=b:=congrArg Prod.snd (IB _ h1 _ h2 rfl)
structure ChR(w wr:World)(eg gm:Nat)(gv:Nat→Bool)(p:ByteArray)(av:Value)(names:List ByteArray)(i tg:Nat):Prop where
 row:∀W,Below wr.heap.size wr W→Calls Tryz.prog 41 #[.pointer (some ⟨eg,0,none⟩),.agg #[.string p,av]] W fun e w'=>e=.returned (.tuple #[.agg (Tb.fJ names),.bool true])∧Below W.heap.size W w'
 look:∀W,Below wr.heap.size wr W→(Instr.lookup 102 (.map (some gm)) (.string p) false).run Tryz.prog W=.ok (.pointer (some ⟨tg,0,none⟩)) W
 dX:∀W,Below wr.heap.size wr W→Calls Tryz.prog 127 #[.pointer (some ⟨tg,0,none⟩),.agg (Tb.fJ names)] W fun e w'=>e=.returned (.tuple #[])∧uy w w' gm (fm gv i true)
 leave:∀W,Below wr.heap.size wr W→Calls Tryz.prog 128 #[.pointer (some ⟨tg,0,none⟩),.agg (Tb.fJ names)] W fun e w'=>e=.returned (.tuple #[])∧uy w w' gm (fm gv i false)
theorem Ua{w wr:World}{eg gm hm:Nat}{gv:Nat→Bool}{T:List HT}{s:En.dH En.b7}(qo:w.cell? ⟨eg,3,none⟩=some (.map (some hm)))(hH:pe w hm T s)(hT:∀p,p∈T.map gX↔p∈jW)(hU:eM w)(h:uy w wr gm gv){i:Nat}(hi:i<36){av:Value}(pJ:wr.ownsRow 0 9 1 av (bk i).2.length (strCells (bk i).2)):
 ∃tg,ChR w wr eg gm gv (bk i).1 av (bk i).2 i tg:=by
 obtain⟨N,hG,hR,hf⟩:=h.at_
 have pa:=kp hi
 obtain⟨t,ht,iJ,la⟩:=hR.has pa
 obtain⟨u,hu,nR⟩:=List.mem_map.1 ((hT _).2 pa)
 simp only[gX,Prod.mk.injEq]at nR
 have sI:(bk i).1.size≤1000000:=Nat.le_trans (dO _ pa) (by decide)
 have hlL:t.L.length≤36:=Nat.le_trans (mI ht) (hR.sum hG.names (fun t ht=>bW.ord (hG.bR t ht)))
 obtain⟨A,B,hAB⟩:=List.append_of_mem ht
 subst hAB
 refine⟨t.g,⟨?_, ?_, ?_, ?_⟩⟩
 · intro W hW
   have sJ:Below w.heap.size w W:=h.aQ.trans (hW.mono h.aQ.size)
   have h3:(bk i).2.length≤3:=by
    have:∀p,p∈jW→p.2≤3:=by unfold jW;decide
    exact this _ pa
   refine Dh W eg hm u.g (bk i).2.length (T.map HT.pk) (bk i).1 (bk i).2 av (by rw[sJ.cell (block_lt_of_cell qo)];exact qo) (hH.map.below sJ) (by rw[←nR.1];exact oG hH.names hu) sI ?_ (ah pJ hW) rfl h3 (fun a ha=>(fQ i a ha).1) (fun a ha=>Nat.le_trans (fQ i a ha).2 (by decide)) (Utf8Tabs_below hU sJ)
   have:=(((hH.bR u hu).below sJ).nW).kz.2.2.1
   rw[nR.2]at this
   exact this
 · intro W hW
   exact(hG.below hW).map.look (by rw[←iJ];exact gM hG.names (by simp)) sI Tryz.underlying102 (Tryz.zeroValue122 W)
 · intro W hW
   refine(Da W t.g t.nm t.pl t.rd t.rc t.L _ _ _ ((hG.below hW).bR t (by simp)) (by omega)).mono ?_
   rintro e w' ⟨rd',rc',rfl,q1,q2,q3⟩
   refine⟨rfl, ?_⟩
   refine uy.set (t':=⟨t.nm,t.pl,t.g,rd',rc',Tb.put t.L (Tb.dw (bk i).2)⟩) (h.aQ.trans (hW.mono h.aQ.size)) (hG.below hW) hR hf q2 q1 rfl rfl rfl ?_ hi (r0:=Tb.dw (bk i).2) (by rw[iN,iJ]) true ?_
   · intro b hb
     unfold GT.bY at hb
     rcases List.mem_cons.1 hb with rfl | hb
     · exact .inl (by simp[GT.bY])
     · rw[Option.mem_toList]at hb
       rcases q3 b hb with h5 | h5
       · exact .inl (by unfold GT.bY;rw[List.mem_cons,Option.mem_toList];exact .inr h5)
       · exact .inr h5
   · intro r
     show r∈Tb.put t.L (Tb.dw (bk i).2)↔_
     rw[Tb.vj]
     by_cases e:r=Tb.dw (bk i).2
     · simp[e]
     · simp[e]
 · intro W hW
   refine(Lk W t.g t.nm t.pl t.rd t.rc t.L _ _ _ ((hG.below hW).bR t (by simp)) (by omega)).mono ?_
   rintro e w' ⟨rfl,q1,q2⟩
   refine⟨rfl, ?_⟩
   have Gh:Tb.Ord t.L:=bW.ord (hG.bR t (by simp))
   refine uy.set (t':=⟨t.nm,t.pl,t.g,t.rd,t.rc,Tb.leave t.L (Tb.dw (bk i).2)⟩) (h.aQ.trans (hW.mono h.aQ.size)) (hG.below hW) hR hf q2 q1 rfl rfl rfl ?_ hi (r0:=Tb.dw (bk i).2) (by rw[iN,iJ]) false ?_
   · intro b hb
     refine .inl ?_
     unfold GT.bY at hb ⊢
     rcases List.mem_cons.1 hb with rfl | hb
     · simp
     · rw[Option.mem_toList]at hb
       rw[List.mem_cons,Option.mem_toList]
       exact .inr ((BO _ _ _ _).trans hb)
   · intro r
     show r∈Tb.leave t.L (Tb.dw (bk i).2)↔_
     rw[Tb.IV Gh]
     by_cases e:r=Tb.dw (bk i).2
     · simp[e]
     · simp[e]
end
/- Engine.changed, its loops. -/
section
open Go.RowKit Go.Maps
theorem D5(w:World)(eg gm hm:Nat)(G:List GT)(gv:Nat→Bool)(T:List HT)(s:En.dH En.b7)(qD:w.cell? ⟨eg,2,none⟩=some (.map (some gm)))(qo:w.cell? ⟨eg,3,none⟩=some (.map (some hm)))(hG:kY w gm G)(hR:gh G gv)(hH:pe w hm T s)(hT:∀p,p∈T.map gX↔p∈jW)(hU:eM w)
 (cd:Option Addr)(cc:Nat)(dX:List FI)(gd:Option Addr)(gc:Nat)(gone:List FI)(Pk:dW w cd cc dX)(Po:dW w gd gc gone)(ci gi:List Nat)(Uw:mq dX ci)(Tz:mq gone gi)(xI:dX.length≤1000)(mO:gone.length≤1000):
 Calls Tryz.prog 68 #[.pointer (some ⟨eg,0,none⟩),.slice cd dX.length cc,.slice gd gone.length gc] w fun e w'=>∃gm',e=.returned (.tuple #[.map (some gm'),.bool true])∧uy w w' gm' (aB (aB gv ci true) gi false):=by
 have hG3:=hR.len hG.names
 have hGs:=hR.sum hG.names (fun t ht=>bW.ord (hG.bR t ht))
 have HCG:Hid (Calls Tryz.prog 126 #[.map (some gm)] w fun e w'=>e=.returned (.map (some w.heap.size))∧Hid (uy w w' w.heap.size gv)):=by
  refine(yw w gm G hG (fun t ht=>by have:=mI ht;omega) (by omega)).mono ?_
  rintro e w' ⟨N,rfl,hN⟩
  obtain⟨g1,g2⟩:=hN.toG hG.short hG.names (by omega)
  refine⟨rfl,⟨⟨N,g1,hR.perm g2, ?_⟩,hN.aQ⟩⟩
  intro b hb
  unfold eO at hb
  rw[List.mem_cons,List.mem_flatMap]at hb
  rcases hb with rfl | ⟨t,ht,hb⟩
  · exact Nat.le_refl _
  · have:=(hN.bR t ht).2 b hb
    omega
 have TX:Hid (∀wr RH i av,uy w wr w.heap.size RH→i<36→wr.ownsRow 0 9 1 av (bk i).2.length (strCells (bk i).2)→∃tg,ChR w wr eg w.heap.size RH (bk i).1 av (bk i).2 i tg):=fun wr RH i av h hi pJ=>Ua qo hH hT hU h hi pJ
 have HCF:Hid (dW w cd cc dX):=Pk
 have HGF:Hid (dW w gd gc gone):=Po
 have HCI:Hid (mq dX ci):=Uw
 have HGI:Hid (mq gone gi):=Tz
 have St:=be Pk.row
 have R6:=be Po.row
 have I4:=block_lt_of_cell qD
 clear hG hR hH hT hU Pk Po Uw Tz qo hG3 hGs
 go_enter Tryz.func68,Tryz.ntmps68
 go_wp2_with (go_at_call 126;refine HCG.out.mono ?_;rintro e w0 ⟨rfl,VK⟩)
 go_loopw [25] (fun i wr=>∃k:Nat,k≤dX.length∧i=.int .i64 k∧uy w wr w.heap.size (aB gv (ci.take k) true)) (fun i _=>dX.length-(intOf i).toNat)
 case atStart=>exact⟨0,Nat.zero_le _,rfl,VK.out⟩
 case round=>
  obtain⟨k,hk,rfl,hW⟩:=hrel
  have HW:Hid (uy w wr w.heap.size (aB gv (ci.take k) true)):=hW
  clear VK hW
  by_cases aG:k<dX.length
  · skip
    have bF:=(HCF.out.below HW.out.aQ).row
    obtain⟨g,rfl,hg,JF,br⟩:=aD bF (by omega)
    have c0:=br _ _ (dN dX k aG).1
    have c1:=br _ _ (dN dX k aG).2
    obtain⟨i,e1,hi,e2,e3⟩:=HCI.out.at_ aG
    have pJ:wr.ownsRow 0 9 1 (dX[k]).av (bk i).2.length (strCells (bk i).2):=by
     have h9:=(HCF.out.below HW.out.aQ).each _ (List.getElem_mem aG)
     unfold FI.ok at h9
     rw[e3]at h9
     exact h9
    obtain⟨ad,ac,Ov⟩:=aj pJ
    obtain⟨tg,Px⟩:=TX.out wr _ i _ HW.out hi pJ
    rw[e2]at c0
    rw[Ov]at c1 Px
    obtain⟨hr,hl,VV,hle⟩:=Px
    rw[vT]at hr VV hle
    have Gj:Hid _:=hr
    have Wf:Hid _:=hl
    have Hj:Hid _:=VV
    have eX:Hid (aB gv (ci.take (k+1)) true=fm (aB gv (ci.take k) true) i true):=by
     rw[e1,iD]
     exact rfl
    clear hr hl VV hle pJ Ov br bF e1 e2 e3 TX
    generalize Tb.dZ (bk i).2 0=x0 at*
    generalize Tb.dZ (bk i).2 1=x1 at*
    generalize Tb.dZ (bk i).2 2=x2 at*
    generalize (bk i).2.length=nl at*
    generalize (bk i).1=p at*
    go_wp2_with (first | (go_at_call 41;refine(Gj.out _ (by exact(Below.refl _ _).alloc (Nat.le_refl _) _)).mono ?_;rintro e w5 ⟨rfl,mN⟩;obtain⟨YG,Bu,YW⟩:=tJ mN;have t5:w5.cell? ⟨wr.heap.size,0,none⟩=some (.string p):=(by rw[cell_of_row _ _ 0 _ _ _ YG];rfl);have l5:=Wf.out (w5.alloc (.cells #[.string x0,.string x1,.string x2] 119)) (Bu.alloc Bu.size _);have aaZ:wr.heap.size<w5.heap.size:=(by omega);have Ir:Hid (Below wr.heap.size wr w5):=Bu;clear mN YG Bu YW) | (go_at_call 127;refine(Hj.out _ (by exact Ir.out.alloc Ir.out.size _)).mono ?_;rintro e w7 ⟨rfl,Zm⟩;have HW7:Hid _:=Zm;clear Zm))
    go_roundw
    case rel=>exact⟨k+1,aG,by go_num,by rw[eX.out];exact HW7.out⟩
    case measure=>simp[intOf];omega
  · have Ix:Hid (uy w wr w.heap.size (aB gv ci true)):=by
     have h9:=HW.out
     rw[List.take_of_length_le (by rw[HCI.out.len];omega)]at h9
     exact h9
    clear HW
    go_wp2_with fail
    go_loopw [46] (fun i wr=>∃k:Nat,k≤gone.length∧i=.int .i64 k∧uy w wr w.heap.size (aB (aB gv ci true) (gi.take k) false)) (fun i _=>gone.length-(intOf i).toNat)
    case atStart=>exact⟨0,Nat.zero_le _,rfl,Ix.out⟩
    case round=>
     obtain⟨k,hk,rfl,hW⟩:=hrel
     have HW:Hid (uy w wr w.heap.size (aB (aB gv ci true) (gi.take k) false)):=hW
     clear Ix hW
     by_cases aG:k<gone.length
     · skip
       have bF:=(HGF.out.below HW.out.aQ).row
       obtain⟨g,rfl,hg,JF,br⟩:=aD bF (by omega)
       have c0:=br _ _ (dN gone k aG).1
       have c1:=br _ _ (dN gone k aG).2
       obtain⟨i,e1,hi,e2,e3⟩:=HGI.out.at_ aG
       have pJ:wr.ownsRow 0 9 1 (gone[k]).av (bk i).2.length (strCells (bk i).2):=by
        have h9:=(HGF.out.below HW.out.aQ).each _ (List.getElem_mem aG)
        unfold FI.ok at h9
        rw[e3]at h9
        exact h9
       obtain⟨ad,ac,Ov⟩:=aj pJ
       obtain⟨tg,Px⟩:=TX.out wr _ i _ HW.out hi pJ
       rw[e2]at c0
       rw[Ov]at c1 Px
       obtain⟨hr,hl,VV,hle⟩:=Px
       rw[vT]at hr VV hle
       have Gj:Hid _:=hr
       have Wf:Hid _:=hl
       have Hj:Hid _:=hle
       have eX:Hid (aB (aB gv ci true) (gi.take (k+1)) false=fm (aB (aB gv ci true) (gi.take k) false) i false):=by
        rw[e1,iD]
        exact rfl
       clear hr hl VV hle pJ Ov br bF e1 e2 e3 TX
       generalize Tb.dZ (bk i).2 0=x0 at*
       generalize Tb.dZ (bk i).2 1=x1 at*
       generalize Tb.dZ (bk i).2 2=x2 at*
       generalize (bk i).2.length=nl at*
       generalize (bk i).1=p at*
       go_wp2_with (first | (go_at_call 41;refine(Gj.out _ (by exact(Below.refl _ _).alloc (Nat.le_refl _) _)).mono ?_;rintro e w5 ⟨rfl,mN⟩;obtain⟨YG,Bu,YW⟩:=tJ mN;have t5:w5.cell? ⟨wr.heap.size,0,none⟩=some (.string p):=(by rw[cell_of_row _ _ 0 _ _ _ YG];rfl);have l5:=Wf.out (w5.alloc (.cells #[.string x0,.string x1,.string x2] 119)) (Bu.alloc Bu.size _);have aaZ:wr.heap.size<w5.heap.size:=(by omega);have Ir:Hid (Below wr.heap.size wr w5):=Bu;clear mN YG Bu YW) | (go_at_call 128;refine(Hj.out _ (by exact Ir.out.alloc Ir.out.size _)).mono ?_;rintro e w7 ⟨rfl,Zm⟩;have HW7:Hid _:=Zm;clear Zm))
       go_roundw
       case rel=>exact⟨k+1,aG,by go_num,by rw[eX.out];exact HW7.out⟩
       case measure=>simp[intOf];omega
     · have Wj:Hid (uy w wr w.heap.size (aB (aB gv ci true) gi false)):=by
        have h9:=HW.out
        rw[List.take_of_length_le (by rw[HGI.out.len];omega)]at h9
        exact h9
       clear HW
       go_wp2_with fail
       go_ret2
       exact⟨_,rfl,Wj.out⟩
end
/- Engine.Apply: what it keeps, how long its log grows. -/
section
open Go.RowKit Go.Maps
def Uc(o:Obj):Prop:=∀c t f,o=.cells c t f→t≠109∧t≠5
structure qx(w w':World):Prop where
 kb:∃S,Kb S w w'∧∀b,b∈S→b<w.heap.size→∃cur t fz,w.heap[b]?=some (.cells cur t fz)∧(t=109∨t=5)
theorem qx.bM{w w':World}(h:Below w.heap.size w w'):qx w w':=⟨[],Kb.bM h [],by simp⟩
theorem qx.rU{w w':World}{x:Nat}(h:Kb [x] w w'){cur:Array Value}{fz:Nat×Nat}(hx:w.heap[x]?=some (.cells cur 109 fz)):qx w w':=⟨[x],h,fun b hb _=>by
 simp only[List.mem_cons,List.not_mem_nil,or_false]at hb
 subst hb
 exact⟨cur,_,fz,hx,.inl rfl⟩⟩
theorem qx.Lb{w w':World}{B:Nat}(h:Lib.OthersKept 5 none w w')(hb:Below B w w'):qx w w':=by
 refine⟨(List.range w.heap.size).filter fun k=>match w.heap[k]? with | some (.cells _ t _)=>decide (t=5) | _=>false,⟨hb.os,hb.tape,hb.output,hb.size, ?_⟩, ?_⟩
 · intro k hk hn
   rw[Array.getElem?_eq_getElem hk]
   refine h k _ (Array.getElem?_eq_getElem hk) (by simp) ?_
   intro c fz e
   refine hn (List.mem_filter.2 ⟨List.mem_range.2 hk, ?_⟩)
   rw[Array.getElem?_eq_getElem hk,e]
   simp
 · intro b jR hl
   have h2:=(List.mem_filter.1 jR).2
   rw[Array.getElem?_eq_getElem hl]at h2 ⊢
   cases ho:w.heap[b]with
   | cells c t f=>
    rw[ho]at h2
    exact⟨c,t,f,rfl,.inr (by simpa using h2)⟩
   | _=>rw[ho]at h2;simp at h2
theorem qx.heap{w w':World}(h:qx w w'){k:Nat}{o:Obj}(hk:w.heap[k]?=some o)(ho:Uc o):w'.heap[k]?=some o:=by
 obtain⟨S,h1,h2⟩:=h.kb
 refine h1.heap hk ?_
 intro hS
 obtain⟨cur,t,fz,e,ht⟩:=h2 k hS (lt_of_heap hk)
 rw[hk]at e
 obtain⟨a,b⟩:=ho cur t fz (Option.some.inj e)
 rcases ht with rfl | rfl
 · exact a rfl
 · exact b rfl
theorem qx.trans{w w1 w2:World}(h:qx w w1)(k:qx w1 w2):qx w w2:=by
 obtain⟨S1,a1,a2⟩:=h.kb
 obtain⟨S2,b1,b2⟩:=k.kb
 refine⟨S1++S2,(a1.mono (fun i hi _=>by simp[hi])).trans (b1.mono (fun i hi _=>by simp[hi])), ?_⟩
 intro b hb hl
 by_cases bq:b∈S1
 · exact a2 b bq hl
 · have cw:b∈S2:=by simpa [bq]using hb
   obtain⟨cur,t,fz,e,ht⟩:=b2 b cw (Nat.lt_of_lt_of_le hl a1.size)
   rw[a1.block b hl bq]at e
   exact⟨cur,t,fz,e,ht⟩
theorem qx.Sj{w w':World}(h:qx w w'):∃S,Kb S w w'∧∀b o,w.heap[b]?=some o→Uc o→¬b∈S:=by
 obtain⟨S,h1,h2⟩:=h.kb
 refine⟨S,h1,fun b o hb ho hS=> ?_⟩
 obtain⟨cur,t,fz,e,ht⟩:=h2 b hS (lt_of_heap hb)
 rw[hb]at e
 obtain⟨x,y⟩:=ho cur t fz (Option.some.inj e)
 rcases ht with rfl | rfl
 · exact x rfl
 · exact y rfl
theorem iX{c:Array Value}{t:TypeId}{f:Nat×Nat}(h1:t≠109)(h2:t≠5):Uc (.cells c t f):=fun c' t' f' e=>by
 cases e
 exact⟨h1,h2⟩
theorem kY.Un{w w':World}{gm:Nat}{G:List GT}(h:kY w gm G)(hk:qx w w'):kY w' gm G:=by
 obtain⟨S,h1,h2⟩:=hk.Sj
 refine h.kept h1 ?_
 intro b hb
 unfold eO at hb
 rcases List.mem_cons.1 hb with rfl | hb
 · obtain⟨es,ck,e⟩:=h.map.block
   exact h2 b _ e (fun _ _ _ e=>by cases e)
 · obtain⟨u,hu,hb⟩:=List.mem_flatMap.1 hb
   obtain⟨cur,T,e,hT⟩:=(h.bR u hu).types hb
   refine h2 b _ e (iX ?_ ?_)
   · rcases hT with rfl | rfl<;>decide
   · rcases hT with rfl | rfl<;>decide
theorem pe.Un{w w':World}{hm:Nat}{T:List HT}{s:En.dH En.b7}(h:pe w hm T s)(hk:qx w w'):pe w' hm T s:=by
 obtain⟨S,h1,h2⟩:=hk.Sj
 refine h.kept h1 ?_
 intro b hb
 unfold cG at hb
 rcases List.mem_cons.1 hb with rfl | hb
 · obtain⟨es,ck,e⟩:=h.map.block
   exact h2 b _ e (fun _ _ _ e=>by cases e)
 · obtain⟨u,hu,hb⟩:=List.mem_flatMap.1 hb
   obtain⟨cur,T,e,hT⟩:=(h.bR u hu).types hb
   refine h2 b _ e (iX ?_ ?_)
   · rcases hT with rfl | rfl | rfl<;>decide
   · rcases hT with rfl | rfl | rfl<;>decide
theorem aX.Un{w w':World}{rd:Option Addr}{rc:Nat}{l:List MR}(h:aX w rd rc l)(hk:qx w w'):aX w' rd rc l:=by
 obtain⟨S,h1,h2⟩:=hk.kb
 refine h.kept h1 ?_
 intro b cur U hb e
 obtain⟨lN,t,fz,e2,ht⟩:=h2 b hb (lt_of_heap e)
 rw[e]at e2
 simp at e2
 rw[e2.2.1]
 rcases ht with rfl | rfl<;>decide
theorem Ms{n:Nat}(h:n≤127):(Rc.aZ n).length=1:=by
 unfold Rc.aZ
 rw[if_pos h]
 rfl
theorem DQ{t:ByteArray}(h:t.size≤127):(Rc.aS t).length=1+t.size:=by
 unfold Rc.aS
 rw[List.length_append,Ms h]
 rfl
theorem lD(i:Nat):(bk i).2.length≤2:=by
 have key:∀p x y,(pC p x y).2.length≤2:=by
  intro p x y
  unfold pC
  split<;>simp
 unfold bk
 split
 · exact key _ _ _
 · split<;>exact key _ _ _
theorem M9{f:FI}{i:Nat}(hi:i<36)(h1:f.pred=(bk i).1)(h2:f.args=(bk i).2):(Rc.fE f).length≤10:=by
 have a1:f.pred.size≤3:=by rw[h1];exact dO _ (kp hi)
 have a2:=Rc.jq Rc.aS 3 f.args (fun a ha=>by
  rw[h2]at ha
  have:=(fQ i a ha).2
  rw[DQ (by omega)]
  omega)
 have a3:f.args.length≤2:=by rw[h2];exact lD i
 unfold Rc.fE
 rw[List.length_append,DQ (by omega)]
 omega
theorem mq.mem{l:List FI}{is:List Nat}(h:mq l is){f:FI}(hf:f∈l):∃i,i<36∧f.pred=(bk i).1∧f.args=(bk i).2:=by
 have:(f.pred,f.args)∈is.map bk:=by rw[←h.1];exact List.mem_map.2 ⟨f,hf,rfl⟩
 obtain⟨i,hi,e⟩:=List.mem_map.1 this
 exact⟨i,h.2 i hi,by rw[e],by rw[e]⟩
theorem mq.small{l:List FI}{is:List Nat}(h:mq l is)(hl:l.length≤30):mU l where
 Cf:=by omega
 nI:=fun f hf=>by
  obtain⟨i,hi,e,_⟩:=h.mem hf
  rw[e]
  exact Nat.le_trans (dO _ (kp hi)) (by decide)
 args:=fun f hf=>by
  obtain⟨i,hi,_,e⟩:=h.mem hf
  rw[e]
  have:=lD i
  omega
 names:=fun f hf a ha=>by
  obtain⟨i,hi,_,e⟩:=h.mem hf
  rw[e]at ha
  have:=(fQ i a ha).2
  omega
theorem zF{l:List FI}{is:List Nat}(h:mq l is)(hl:l.length≤30):(Rc.kF l).length≤301:=by
 have:=Rc.jq Rc.fE 10 l (fun f hf=>by
  obtain⟨i,hi,e1,e2⟩:=h.mem hf
  exact M9 hi e1 e2)
 unfold Rc.kF
 rw[List.length_append,Ms (by omega)]
 omega
theorem Dd{c g:List FI}{ci gi:List Nat}(h1:mq c ci)(h2:mq g gi)(hc:c.length≤30)(hg:g.length≤30):(Rc.fL c g).length≤602:=by
 have:=zF h1 hc
 have:=zF h2 hg
 unfold Rc.fL
 rw[List.length_append]
 omega
theorem I5{ct:ByteArray}(h:ct.size≤602){hd:List UInt8}(hh:hd.length=32):(Rc.aS ct++hd).length≤1000:=by
 have:=Rc.ry ct.size (by omega)
 unfold Rc.aS
 have e:ct.data.toList.length=ct.size:=by simp
 rw[List.length_append,List.length_append,e]
 omega
end
/- Engine.Apply: its regions' blocks. -/
section
open Go.RowKit Go.Maps
structure AI(w1:World)(b:Option Nat)(W:World):Prop where
 aQ:Below w1.heap.size w1 W
 cP:∀x,b=some x→w1.heap.size≤x∧∃Z,W.heap[x]?=some (.cells Z 107 (0,0))∧Z.size=36
theorem AI.below{w1 W w':World}{b:Option Nat}(h:AI w1 b W)(hb:Below W.heap.size W w'):AI w1 b w':=by
 refine⟨h.aQ.trans (hb.mono h.aQ.size), ?_⟩
 intro x hx
 obtain⟨h1,Z,h2,h3⟩:=h.cP x hx
 exact⟨h1,Z,by rw[hb.block _ (lt_of_heap h2)];exact h2,h3⟩
theorem AI.drew{w1 W:World}{b:Option Nat}(h:AI w1 b W):AI w1 b W.drew:=h.below (Below.refl _ _).drew
theorem AI.alloc{w1 W:World}{Z:Array Value}(h:AI w1 none W)(hz:Z.size=36):AI w1 (some W.heap.size) (W.alloc (.cells Z 107)):=by
 have h2:=h.below (w':=W.alloc (.cells Z 107)) ((Below.refl _ _).alloc (Nat.le_refl _) _)
 refine⟨h2.aQ, ?_⟩
 intro x hx
 simp only[Option.some.injEq]at hx
 subst hx
 exact⟨h.aQ.size,Z,heap_alloc_new _ _,hz⟩
theorem AI.stored{w1 W:World}{x:Nat}{cs:Array Value}(h:AI w1 (some x) W)(hc:cs.size=36):Below w1.heap.size w1 (W.setCells x 0 cs.toList):=by
 obtain⟨h1,Z,h2,h3⟩:=h.cP x rfl
 obtain⟨hh,hk⟩:=cD x cs.toList 0 Z W h2 (by simp;omega)
 exact hk.aU h.aQ h.aQ.size (by simpa using h1)
theorem Mx{w1 W:World}{b:Option Nat}{cs:Array Value}(h:AI w1 b W)(hc:cs.size=36)(h1:∀v,v∈cs.toList→v.oneCell'=true):uN cs b W:=by
 cases b with
 | some x=>
  obtain⟨_,Z,h2,h3⟩:=h.cP x rfl
  exact da h2 h3 hc h1
 | none=>
  intro Z hZ
  exact da (heap_alloc_new _ _) hZ hc h1
structure AE(w1:World)(kl:List Ax.aA)(gv:Nat→Bool)(hm:Nat)(b:Option Nat)(W:World):Prop where
 ai:AI w1 b W
 out:∃T s,pe W hm T s∧En.Inv (En.sR (En.af kl)) (En.gF gv) s s.found.length∧(∀p,p∈T.map gX↔p∈jW)∧(∀x,b=some x→∀y,y∈cG hm T→y≠x)∧∀y,y∈cG hm T→w1.heap.size≤y
theorem AE.alloc{w1 W:World}{kl:List Ax.aA}{gv:Nat→Bool}{hm:Nat}{Z:Array Value}(h:AE w1 kl gv hm none W)(hz:Z.size=36):AE w1 kl gv hm (some W.heap.size) (W.alloc (.cells Z 107)):=by
 obtain⟨T,s,e1,e2,e3,e4,e5⟩:=h.out
 refine⟨h.ai.alloc hz,T,s,e1.below ((Below.refl _ _).alloc (Nat.le_refl _) _),e2,e3, ?_,e5⟩
 intro x hx y hy e
 simp only[Option.some.injEq]at hx
 have:=e1.lt hy
 omega
structure Xu(w1:World)(kl:List Ax.aA)(gv:Nat→Bool)(pl:ByteArray)(rv:Value)(gm:Nat)(hd:List UInt8)(v8 v10:Value)(wx:World):Prop where
 v8:v8=.bool true
 out:∃x hm T s,v10=.pointer (some ⟨x,0,none⟩)∧w1.heap.size≤x∧wx.heap[x]?=some (.cells (aL pl rv gm hm hd) 107 (0,0))∧pe wx hm T s∧En.Inv (En.sR (En.af kl)) (En.gF gv) s s.found.length∧(∀p,p∈T.map gX↔p∈jW)∧Below w1.heap.size w1 wx∧∀y,y∈cG hm T→w1.heap.size≤y
theorem AE.cut{w1 W:World}{kl:List Ax.aA}{gv:Nat→Bool}{pl:ByteArray}{rv:Value}{gm hm x:Nat}{hd:List UInt8}(h:AE w1 kl gv hm (some x) W)(hh:hd.length=32):Xu w1 kl gv pl rv gm hd (.bool true) (.pointer (some ⟨x,0,none⟩)) (W.setCells x 0 (aL pl rv gm hm hd).toList):=by
 obtain⟨lS,Z,h2,h3⟩:=h.ai.cP x rfl
 obtain⟨T,s,e1,e2,e3,e4,e5⟩:=h.out
 obtain⟨Yy,hk⟩:=cD x (aL pl rv gm hm hd).toList 0 Z W h2 (by simp[aJ _ _ _ _ hh,h3])
 exact⟨rfl,x,hm,T,s,rfl,lS,ir h2 h3 (aJ _ _ _ _ hh),e1.kept hk (fun b hb=>by simpa using e4 x rfl b hb),e2,e3,h.ai.stored (aJ _ _ _ _ hh),e5⟩
theorem n9{w:World}{eg:Nat}{pl:ByteArray}{rv:Value}{gm hm:Nat}{hd:List UInt8}{lv:Value}{fr:Nat×Nat}(h:w.heap[eg]?=some (.cells (bE pl rv gm hm hd lv) 109 fr))(hh:hd.length=32):
 w.cell? ⟨eg,0,none⟩=some (.string pl)∧w.cell? ⟨eg,1,none⟩=some rv∧w.cell? ⟨eg,2,none⟩=some (.map (some gm))∧w.cell? ⟨eg,3,none⟩=some (.map (some hm))∧w.rangeAt eg 4 (Rc.bP hd)∧w.cell? ⟨eg,36,none⟩=some lv:=by
 have hu:(Rc.bP hd).length=32:=by rw[Rc.bN,hh]
 refine⟨?_, ?_, ?_, ?_, ?_, ?_⟩
 · rw[cell_of_row _ _ _ _ _ _ h];rfl
 · rw[cell_of_row _ _ _ _ _ _ h];rfl
 · rw[cell_of_row _ _ _ _ _ _ h];rfl
 · rw[cell_of_row _ _ _ _ _ _ h];rfl
 · intro j v hv
   have hj:j<32:=by rw[←hu];exact(List.getElem?_eq_some_iff.1 hv).1
   rw[cell_of_row _ _ _ _ _ _ h]
   unfold bE
   rw[List.getElem?_toArray,List.append_assoc,List.getElem?_append_right (by simp),List.getElem?_append_left (by simp[hu];omega)]
   simpa using hv
 · rw[cell_of_row _ _ _ _ _ _ h]
   unfold bE
   rw[List.getElem?_toArray,List.getElem?_append_right (by simp[hu])]
   simp[hu]
theorem rF(pl:ByteArray)(rv:Value)(gm hm:Nat){hd:List UInt8}(lv:Value)(h:hd.length=32):(bE pl rv gm hm hd lv).size=37:=by simp[bE,Rc.bN,h]
theorem KS{w:World}{eg:Nat}{pl pl':ByteArray}{rv rv':Value}{gm hm gm' hm':Nat}{hd kJ:List UInt8}{lv:Value}(h:w.heap[eg]?=some (.cells (bE pl rv gm hm hd lv) 109 (0,0)))(hh:hd.length=32)(Yy:kJ.length=32):
 (w.setCells eg 0 (aL pl' rv' gm' hm' kJ).toList).heap[eg]?=some (.cells (bE pl' rv' gm' hm' kJ lv) 109 (0,0))∧Kb [eg] w (w.setCells eg 0 (aL pl' rv' gm' hm' kJ).toList):=by
 obtain⟨h1,h2⟩:=cD eg (aL pl' rv' gm' hm' kJ).toList 0 _ w h (by simp[aJ _ _ _ _ Yy,rF _ _ _ _ _ hh])
 refine⟨?_,h2⟩
 rw[h1]
 have e:(bE pl rv gm hm hd lv).toList.drop (0+(aL pl' rv' gm' hm' kJ).toList.length)=[lv]:=by
  rw[Array.length_toList,aJ _ _ _ _ Yy]
  unfold bE
  have hu:(Rc.bP hd).length=32:=by rw[Rc.bN,hh]
  rw[List.toList_toArray,List.drop_append_of_le_length (by simp[hu])]
  rw[List.drop_eq_nil_of_le (by simp[hu])]
  rfl
 rw[e]
 congr 2
theorem Uq{w:World}{eg:Nat}{pl:ByteArray}{rv:Value}{gm hm:Nat}{hd:List UInt8}{lv:Value}(h:w.heap[eg]?=some (.cells (bE pl rv gm hm hd lv) 109 (0,0)))(hh:hd.length=32)(v:Value):
 (w.setCell ⟨eg,36,none⟩ v).heap[eg]?=some (.cells (bE pl rv gm hm hd v) 109 (0,0)):=by
 rw[aw w h 36 v]
 have hu:(Rc.bP hd).length=32:=by rw[Rc.bN,hh]
 have e:(bE pl rv gm hm hd lv).setIfInBounds 36 v=bE pl rv gm hm hd v:=by
  unfold bE
  rw[List.setIfInBounds_toArray,List.set_append_right _ _ (by simp[hu])]
  simp[hu]
 rw[e]
theorem DO{W:World}{x o eg:Nat}{cs:List Value}(h:W.rangeAt x o cs)(cE:x≠eg)(k:Nat)(v:Value):(W.setCell ⟨eg,k,none⟩ v).rangeAt x o cs:=World.rangeAt_setCells_apart h eg k [v] (.inl cE)
theorem JO(K:Nat→Int)(a:List UInt8)(c:ByteArray):(iA K a c).length=32:=Dg.wu _ _
end
end Go.Proofs.YtdmicblafmhflaaGreatDoor
