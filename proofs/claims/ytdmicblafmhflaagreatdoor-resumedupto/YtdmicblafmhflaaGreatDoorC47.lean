/- state.readGiven, walked. -/
import Derived.Test.YtdmicblafmhflaaGreatDoorC46
set_option linter.unusedSimpArgs false
set_option linter.unusedVariables false
namespace Go.Proofs.YtdmicblafmhflaaGreatDoor
section
open Go.RowKit Go.Maps
def jO(gv:Nat→Bool)(S:List Nat):Nat→Bool:=fun i=>gv i&&decide (i∈S)
theorem K5(gv:Nat→Bool)(S:List Nat)(j:Nat):jO gv (S++[j])=if gv j=true then fm (jO gv S) j true else jO gv S:=by
 funext i
 by_cases hj:gv j=true
 · rw[if_pos hj]
   unfold fm jO
   by_cases e:i=j
   · subst e
     simp[hj]
   · simp[e]
 · rw[if_neg hj]
   unfold jO
   by_cases e:i=j
   · subst e
     simp at hj
     simp[hj]
   · simp[e]
theorem Lj{R:List En.bC}{G:Nat→Bool}{i:Nat}(h:G i=true):En.al R G i=true:=En.tH _ _ _ h
def qn(H:Nat→Bool)(Q:List Pd.Pr):List Nat:=Q.flatMap fun p=>cW H p.1
theorem NN{kl:List Ax.aA}{gv:Nat→Bool}(hg:fX gv):jO gv (qn (En.al (En.af kl) gv) gQ)=gv:=by
 funext i
 unfold jO
 cases h:gv i
 · rfl
 · have hi:i<36:=by
    rcases Nat.lt_or_ge i 36 with h1 | h1
    · exact h1
    · rw[hg i h1]at h
      cases h
   have hp:((bk i).1,(bk i).2.length)∈gQ:=by
    have h1:=kp hi
    unfold jW at h1
    unfold gQ
    simp only[List.mem_cons,List.not_mem_nil,or_false]at h1 ⊢
    rcases h1 with h1 | h1 | h1<;>simp[h1]
   have hm:i∈qn (En.al (En.af kl) gv) gQ:=List.mem_flatMap.2 ⟨_,hp,gS.2 ⟨hi,Lj h,rfl⟩⟩
   simp[hm]
structure U9(wS wr:World)(rb gm:Nat)(l:List UInt8)(gv:Nat→Bool):Prop where
 rd:cN wr rb l false
 ge:wS.heap.size≤rb
 ch:uy wS wr gm gv
structure tS(wS wr:World)(rb gm:Nat)(l:List UInt8)(gv:Nat→Bool)(p:ByteArray)(pp tg:Nat):Prop where
 rd:cN wr rb l false
 ge:wS.heap.size≤rb
 aQ:Below wS.heap.size wS wr
 nW:∃N,kY wr gm N∧gh N gv∧(∀b,b∈eO gm N→wS.heap.size≤b)∧∃t,t∈N∧t.nm=p∧t.g=tg∧t.pl=pp
theorem tS.toW{wS wr:World}{rb gm:Nat}{l:List UInt8}{gv:Nat→Bool}{p:ByteArray}{pp tg:Nat}(h:tS wS wr rb gm l gv p pp tg):U9 wS wr rb gm l gv:=by
 obtain⟨N,h1,h2,h3,_⟩:=h.nW
 exact⟨h.rd,h.ge,⟨N,h1,h2,h3⟩,h.aQ⟩
theorem U9.toP{wS wr:World}{rb gm:Nat}{l:List UInt8}{gv:Nat→Bool}{p:ByteArray}{pp:Nat}(h:U9 wS wr rb gm l gv)(hp:(p,pp)∈jW):∃tg,tS wS wr rb gm l gv p pp tg∧∀W,Below wr.heap.size wr W→(Instr.lookup 102 (.map (some gm)) (.string p) false).run Tryz.prog W=.ok (.pointer (some ⟨tg,0,none⟩)) W:=by
 obtain⟨N,h1,h2,h3⟩:=h.ch.at_
 obtain⟨t,ht,iJ,la⟩:=h2.has hp
 have sI:p.size≤1000000:=Nat.le_trans (dO _ hp) (by decide)
 refine⟨t.g,⟨h.rd,h.ge,h.ch.aQ,N,h1,h2,h3,t,ht,iJ,rfl,la⟩,fun W hW=> ?_⟩
 exact(h1.below hW).map.look (by rw[←iJ];exact gM h1.names ht) sI Tryz.underlying102 (Tryz.zeroValue122 W)
theorem tS.below{wS wr w':World}{rb gm:Nat}{l:List UInt8}{gv:Nat→Bool}{p:ByteArray}{pp tg:Nat}(h:tS wS wr rb gm l gv p pp tg)(hb:Below wr.heap.size wr w'):tS wS w' rb gm l gv p pp tg:=by
 obtain⟨N,h1,h2,h3,h4⟩:=h.nW
 refine⟨?_,h.ge,h.aQ.trans (hb.mono h.aQ.size),N,h1.below hb,h2,h3,h4⟩
 have:=h.rd
 unfold cN at this ⊢
 rw[hb.block _ (lt_of_heap this)]
 exact this
theorem tS.read{wS wr w':World}{rb gm:Nat}{l l':List UInt8}{gv:Nat→Bool}{p:ByteArray}{pp tg:Nat}(h:tS wS wr rb gm l gv p pp tg)(hk:Kb [rb] wr w')(hr:cN w' rb l' false):tS wS w' rb gm l' gv p pp tg∧kW [251,125,119] wr w':=by
 obtain⟨N,h1,h2,h3,h4⟩:=h.nW
 have rZ:=h.rd
 unfold cN at rZ
 exact⟨⟨hr,h.ge,hk.aU h.aQ h.aQ.size (by simpa using h.ge),N,h1.kept hk (h1.kr rZ (by decide) (by decide)),h2,h3,h4⟩,kW.rU hk rZ (by simp)⟩
theorem tS.row{wS wr:World}{rb gm:Nat}{l:List UInt8}{gv:Nat→Bool}{p:ByteArray}{pp tg:Nat}(h:tS wS wr rb gm l gv p pp tg)(hU:eM wS){W:World}(hW:Below wr.heap.size wr W){i:Nat}(hi:i<36)(hp:(bk i).1=p){av:Value}(pJ:W.ownsRow 0 9 1 av (bk i).2.length (strCells (bk i).2)):
 Calls Tryz.prog 74 #[.pointer (some ⟨tg,0,none⟩),av] W fun e w'=>e=.returned (.tuple #[.agg (Tb.fJ (bk i).2),.bool true])∧Below W.heap.size W w':=by
 obtain⟨N,h1,h2,h3,t,ht,iJ,lX,la⟩:=h.nW
 have pa:=kp hi
 have hm:(t.nm,t.pl)∈jW:=(h2.nf _).1 (List.mem_map.2 ⟨t,ht,rfl⟩)
 rw[hp,←iJ]at pa
 have Gf:(bk i).2.length=t.pl:=xQ pa hm
 have hc:=(bW.below (h1.bR t ht) hW).kz.2.2.1
 rw[lX]at hc
 have h3':(bk i).2.length≤3:=by have:=lD i;omega
 exact Iy W tg t.pl (bk i).2 av hc pJ Gf h3' (fun a ha=>(fQ i a ha).1) (fun a ha=>Nat.le_trans (fQ i a ha).2 (by decide)) (Utf8Tabs_below hU (h.aQ.trans (hW.mono h.aQ.size)))
theorem tS.dX{wS wr:World}{rb gm:Nat}{l:List UInt8}{gv:Nat→Bool}{p:ByteArray}{pp tg:Nat}(h:tS wS wr rb gm l gv p pp tg){W:World}(hW:Below wr.heap.size wr W){i:Nat}(hi:i<36)(hp:(bk i).1=p):
 Calls Tryz.prog 127 #[.pointer (some ⟨tg,0,none⟩),.agg (Tb.fJ (bk i).2)] W fun e w'=>e=.returned (.tuple #[])∧tS wS w' rb gm l (fm gv i true) p pp tg∧kW [251,125,119] W w':=by
 have h':=h.below hW
 obtain⟨N,hG,hR,hf,t,ht,iJ,lX,la⟩:=h'.nW
 have hlL:t.L.length≤36:=Nat.le_trans (mI ht) (hR.sum hG.names (fun t ht=>bW.ord (hG.bR t ht)))
 obtain⟨A,B,hAB⟩:=List.append_of_mem ht
 subst hAB
 have Fc:=hG.bR t ht
 rw[←lX]
 refine(Da W t.g t.nm t.pl t.rd t.rc t.L _ _ _ Fc (by omega)).mono ?_
 rintro e w' ⟨rd',rc',rfl,q1,q2,q3⟩
 have O7:∀b,b∈(⟨t.nm,t.pl,t.g,rd',rc',Tb.put t.L (Tb.dw (bk i).2)⟩:GT).bY→b∈t.bY∨W.heap.size≤b:=by
  intro b hb
  unfold GT.bY at hb
  rcases List.mem_cons.1 hb with rfl | hb
  · exact .inl (by simp[GT.bY])
  · rw[Option.mem_toList]at hb
    rcases q3 b hb with h5 | h5
    · exact .inl (by unfold GT.bY;rw[List.mem_cons,Option.mem_toList];exact .inr h5)
    · exact .inr h5
 have bF:∀r,r∈Tb.put t.L (Tb.dw (bk i).2)↔if r=Tb.dw (bk i).2 then true=true else r∈t.L:=by
  intro r
  rw[Tb.vj]
  by_cases e:r=Tb.dw (bk i).2
  · simp[e]
  · simp[e]
 have ZZ:Kb t.bY W w':=q2
 have P7:En.uF i=(t.nm,Tb.dw (bk i).2):=by rw[iN,iJ,hp]
 have Px:=uy.set (w:=wS) (t':=⟨t.nm,t.pl,t.g,rd',rc',Tb.put t.L (Tb.dw (bk i).2)⟩) h'.aQ hG hR hf ZZ q1 rfl rfl rfl O7 hi P7 true bF
 have sN:kW [251,125,119] W w':=⟨t.bY,ZZ,fun b hb _=>by
  obtain⟨cur,U,e,hU⟩:=GT.ok.types Fc hb
  exact⟨cur,U,_,e,by rcases hU with rfl | rfl<;>simp⟩⟩
 have rZ:cN w' rb l false:=by
  have h9:=h'.rd
  unfold cN at h9 ⊢
  refine ZZ.heap h9 (fun hm=> ?_)
  obtain⟨cur,U,e,hU⟩:=GT.ok.types Fc hm
  rw[h9]at e
  simp at e
  rcases hU with rfl | rfl
  · exact absurd e.2 (by decide)
  · exact absurd e.2 (by decide)
 refine⟨rfl,⟨rZ,h.ge,Px.aQ, ?_⟩,sN⟩
 refine⟨A++⟨t.nm,t.pl,t.g,rd',rc',Tb.put t.L (Tb.dw (bk i).2)⟩::B,kY.update (t':=⟨t.nm,t.pl,t.g,rd',rc',Tb.put t.L (Tb.dw (bk i).2)⟩) hG ZZ q1 rfl rfl O7,gh.update (t':=⟨t.nm,t.pl,t.g,rd',rc',Tb.put t.L (Tb.dw (bk i).2)⟩) hR hG.names rfl rfl hi P7 true bF, ?_,⟨t.nm,t.pl,t.g,rd',rc',Tb.put t.L (Tb.dw (bk i).2)⟩,by simp,iJ,rfl,la⟩
 intro x hx
 unfold eO at hx
 rw[List.mem_cons,List.mem_flatMap]at hx
 rcases hx with rfl | ⟨u,nR,hx⟩
 · exact hf x (by simp[eO])
 · rcases List.mem_append.1 nR with nR | nR
   · exact hf x (by unfold eO;rw[List.mem_cons,List.mem_flatMap];exact .inr ⟨u,by simp[nR],hx⟩)
   · rcases List.mem_cons.1 nR with rfl | nR
     · rcases O7 x hx with h4 | h4
       · exact hf x (by unfold eO;simp[h4])
       · have:=h'.aQ.size;omega
     · exact hf x (by unfold eO;rw[List.mem_cons,List.mem_flatMap];exact .inr ⟨u,by simp[nR],hx⟩)
end
end Go.Proofs.YtdmicblafmhflaaGreatDoor
