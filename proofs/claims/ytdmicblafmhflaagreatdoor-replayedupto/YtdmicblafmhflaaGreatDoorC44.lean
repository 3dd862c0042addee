/- state.readGiven, walked. -/
import Derived.Test.YtdmicblafmhflaaGreatDoorC43
set_option linter.unusedSimpArgs false
set_option linter.unusedVariables false
namespace Go.Proofs.YtdmicblafmhflaaGreatDoor
section
open Go.RowKit Go.Maps
def jJ(gv:Nat→Bool)(S:List Nat):Nat→Bool:=fun i=>gv i&&decide (i∈S)
theorem KO(gv:Nat→Bool)(S:List Nat)(j:Nat):jJ gv (S++[j])=if gv j=true then gA (jJ gv S) j true else jJ gv S:=by
 funext i
 by_cases hj:gv j=true
 · rw[if_pos hj]
   unfold gA jJ
   by_cases e:i=j
   · subst e
     simp[hj]
   · simp[e]
 · rw[if_neg hj]
   unfold jJ
   by_cases e:i=j
   · subst e
     simp at hj
     simp[hj]
   · simp[e]
theorem Kk{R:List En.bO}{G:Nat→Bool}{i:Nat}(h:G i=true):En.ak R G i=true:=En.tq _ _ _ h
def qq(H:Nat→Bool)(Q:List Pd.Pr):List Nat:=Q.flatMap fun p=>cW H p.1
theorem OQ{kl:List Ax.ay}{gv:Nat→Bool}(hg:ji gv):jJ gv (qq (En.ak (En.aj kl) gv) gQ)=gv:=by
 funext i
 unfold jJ
 cases h:gv i
 · rfl
 · have hi:i<36:=by
    rcases Nat.lt_or_ge i 36 with h1 | h1
    · exact h1
    · rw[hg i h1]at h
      cases h
   have hp:((be i).1,(be i).2.length)∈gQ:=by
    have h1:=kO hi
    unfold jL at h1
    unfold gQ
    simp only[List.mem_cons,List.not_mem_nil,or_false]at h1 ⊢
    rcases h1 with h1 | h1 | h1<;>simp[h1]
   have hm:i∈qq (En.ak (En.aj kl) gv) gQ:=List.mem_flatMap.2 ⟨_,hp,gE.2 ⟨hi,Kk h,rfl⟩⟩
   simp[hm]
structure Vv(wS wr:World)(rb gm:Nat)(l:List UInt8)(gv:Nat→Bool):Prop where
 rd:bC wr rb l false
 ge:wS.heap.size≤rb
 ch:uA wS wr gm gv
structure te(wS wr:World)(rb gm:Nat)(l:List UInt8)(gv:Nat→Bool)(p:ByteArray)(pp tg:Nat):Prop where
 rd:bC wr rb l false
 ge:wS.heap.size≤rb
 aZ:Below wS.heap.size wS wr
 o7:∃N,lB wr gm N∧fV N gv∧(∀b,b∈eV gm N→wS.heap.size≤b)∧∃t,t∈N∧t.nm=p∧t.g=tg∧t.pl=pp
theorem te.toW{wS wr:World}{rb gm:Nat}{l:List UInt8}{gv:Nat→Bool}{p:ByteArray}{pp tg:Nat}(h:te wS wr rb gm l gv p pp tg):Vv wS wr rb gm l gv:=by
 obtain⟨N,h1,h2,h3,_⟩:=h.o7
 exact⟨h.rd,h.ge,⟨N,h1,h2,h3⟩,h.aZ⟩
theorem Vv.toP{wS wr:World}{rb gm:Nat}{l:List UInt8}{gv:Nat→Bool}{p:ByteArray}{pp:Nat}(h:Vv wS wr rb gm l gv)(hp:(p,pp)∈jL):∃tg,te wS wr rb gm l gv p pp tg∧∀W,Below wr.heap.size wr W→(Instr.lookup 102 (.map (some gm)) (.string p) false).run Tryz.prog W=.ok (.pointer (some ⟨tg,0,none⟩)) W:=by
 obtain⟨N,h1,h2,h3⟩:=h.ch.at_
 obtain⟨t,ht,ga,kY⟩:=h2.has hp
 have ux:p.size≤1000000:=Nat.le_trans (dP _ hp) (by decide)
 refine⟨t.g,⟨h.rd,h.ge,h.ch.aZ,N,h1,h2,h3,t,ht,ga,rfl,kY⟩,fun W hW=> ?_⟩
 exact(h1.below hW).map.look (by rw[←ga];exact iW h1.names ht) ux Tryz.underlying102 (Tryz.zeroValue122 W)
theorem te.below{wS wr w':World}{rb gm:Nat}{l:List UInt8}{gv:Nat→Bool}{p:ByteArray}{pp tg:Nat}(h:te wS wr rb gm l gv p pp tg)(hb:Below wr.heap.size wr w'):te wS w' rb gm l gv p pp tg:=by
 obtain⟨N,h1,h2,h3,h4⟩:=h.o7
 refine⟨?_,h.ge,h.aZ.trans (hb.mono h.aZ.size),N,h1.below hb,h2,h3,h4⟩
 have:=h.rd
 unfold bC at this ⊢
 rw[hb.block _ (lt_of_heap this)]
 exact this
theorem te.read{wS wr w':World}{rb gm:Nat}{l l':List UInt8}{gv:Nat→Bool}{p:ByteArray}{pp tg:Nat}(h:te wS wr rb gm l gv p pp tg)(hk:Kb [rb] wr w')(hr:bC w' rb l' false):te wS w' rb gm l' gv p pp tg∧kT [251,125,119] wr w':=by
 obtain⟨N,h1,h2,h3,h4⟩:=h.o7
 have qV:=h.rd
 unfold bC at qV
 exact⟨⟨hr,h.ge,hk.aK h.aZ h.aZ.size (by simpa using h.ge),N,h1.kept hk (h1.kU qV (by decide) (by decide)),h2,h3,h4⟩,kT.pU hk qV (by simp)⟩
theorem te.row{wS wr:World}{rb gm:Nat}{l:List UInt8}{gv:Nat→Bool}{p:ByteArray}{pp tg:Nat}(h:te wS wr rb gm l gv p pp tg)(hU:eW wS){W:World}(hW:Below wr.heap.size wr W){i:Nat}(hi:i<36)(hp:(be i).1=p){av:Value}(zv:W.ownsRow 0 9 1 av (be i).2.length (strCells (be i).2)):
 Calls Tryz.prog 74 #[.pointer (some ⟨tg,0,none⟩),av] W fun e w'=>e=.returned (.tuple #[.agg (Tb.fA (be i).2),.bool true])∧Below W.heap.size W w':=by
 obtain⟨N,h1,h2,h3,t,ht,ga,lX,kY⟩:=h.o7
 have nK:=kO hi
 have hm:(t.nm,t.pl)∈jL:=(h2.ny _).1 (List.mem_map.2 ⟨t,ht,rfl⟩)
 rw[hp,←ga]at nK
 have FP:(be i).2.length=t.pl:=s7 nK hm
 have hc:=(cp.below (h1.b7 t ht) hW).lE.2.2.1
 rw[lX]at hc
 have h3':(be i).2.length≤3:=by have:=mW i;omega
 exact IJ W tg t.pl (be i).2 av hc zv FP h3' (fun a ha=>(iD i a ha).1) (fun a ha=>Nat.le_trans (iD i a ha).2 (by decide)) (Utf8Tabs_below hU (h.aZ.trans (hW.mono h.aZ.size)))
theorem te.cm{wS wr:World}{rb gm:Nat}{l:List UInt8}{gv:Nat→Bool}{p:ByteArray}{pp tg:Nat}(h:te wS wr rb gm l gv p pp tg){W:World}(hW:Below wr.heap.size wr W){i:Nat}(hi:i<36)(hp:(be i).1=p):
 Calls Tryz.prog 127 #[.pointer (some ⟨tg,0,none⟩),.agg (Tb.fA (be i).2)] W fun e w'=>e=.returned (.tuple #[])∧te wS w' rb gm l (gA gv i true) p pp tg∧kT [251,125,119] W w':=by
 have h':=h.below hW
 obtain⟨N,hG,hR,hf,t,ht,ga,lX,kY⟩:=h'.o7
 have hlL:t.L.length≤36:=Nat.le_trans (oe ht) (hR.sum hG.names (fun t ht=>cp.ord (hG.b7 t ht)))
 obtain⟨A,B,hAB⟩:=List.append_of_mem ht
 subst hAB
 have Gd:=hG.b7 t ht
 rw[←lX]
 refine(Dx W t.g t.nm t.pl t.rd t.rc t.L _ _ _ Gd (by omega)).mono ?_
 rintro e w' ⟨rd',rc',rfl,q1,q2,q3⟩
 have PA:∀b,b∈(⟨t.nm,t.pl,t.g,rd',rc',Tb.put t.L (Tb.eu (be i).2)⟩:GT).bZ→b∈t.bZ∨W.heap.size≤b:=by
  intro b hb
  unfold GT.bZ at hb
  rcases List.mem_cons.1 hb with rfl | hb
  · exact .inl (by simp[GT.bZ])
  · rw[Option.mem_toList]at hb
    rcases q3 b hb with h5 | h5
    · exact .inl (by unfold GT.bZ;rw[List.mem_cons,Option.mem_toList];exact .inr h5)
    · exact .inr h5
 have bQ:∀r,r∈Tb.put t.L (Tb.eu (be i).2)↔if r=Tb.eu (be i).2 then true=true else r∈t.L:=by
  intro r
  rw[Tb.vS]
  by_cases e:r=Tb.eu (be i).2
  · simp[e]
  · simp[e]
 have ZT:Kb t.bZ W w':=q2
 have Yg:En.uF i=(t.nm,Tb.eu (be i).2):=by rw[kS,ga,hp]
 have PM:=uA.set (w:=wS) (t':=⟨t.nm,t.pl,t.g,rd',rc',Tb.put t.L (Tb.eu (be i).2)⟩) h'.aZ hG hR hf ZT q1 rfl rfl rfl PA hi Yg true bQ
 have sK:kT [251,125,119] W w':=⟨t.bZ,ZT,fun b hb _=>by
  obtain⟨cur,U,e,hU⟩:=GT.ok.types Gd hb
  exact⟨cur,U,_,e,by rcases hU with rfl | rfl<;>simp⟩⟩
 have qV:bC w' rb l false:=by
  have h9:=h'.rd
  unfold bC at h9 ⊢
  refine ZT.heap h9 (fun hm=> ?_)
  obtain⟨cur,U,e,hU⟩:=GT.ok.types Gd hm
  rw[h9]at e
  simp at e
  rcases hU with rfl | rfl
  · exact absurd e.2 (by decide)
  · exact absurd e.2 (by decide)
 refine⟨rfl,⟨qV,h.ge,PM.aZ, ?_⟩,sK⟩
 refine⟨A++⟨t.nm,t.pl,t.g,rd',rc',Tb.put t.L (Tb.eu (be i).2)⟩::B,lB.update (t':=⟨t.nm,t.pl,t.g,rd',rc',Tb.put t.L (Tb.eu (be i).2)⟩) hG ZT q1 rfl rfl PA,fV.update (t':=⟨t.nm,t.pl,t.g,rd',rc',Tb.put t.L (Tb.eu (be i).2)⟩) hR hG.names rfl rfl hi Yg true bQ, ?_,⟨t.nm,t.pl,t.g,rd',rc',Tb.put t.L (Tb.eu (be i).2)⟩,by simp,ga,rfl,kY⟩
 intro x hx
 unfold eV at hx
 rw[List.mem_cons,List.mem_flatMap]at hx
 rcases hx with rfl | ⟨u,pN,hx⟩
 · exact hf x (by simp[eV])
 · rcases List.mem_append.1 pN with pN | pN
   · exact hf x (by unfold eV;rw[List.mem_cons,List.mem_flatMap];exact .inr ⟨u,by simp[pN],hx⟩)
   · rcases List.mem_cons.1 pN with rfl | pN
     · rcases PA x hx with h4 | h4
       · exact hf x (by unfold eV;simp[h4])
       · have:=h'.aZ.size;omega
     · exact hf x (by unfold eV;rw[List.mem_cons,List.mem_flatMap];exact .inr ⟨u,by simp[pN],hx⟩)
end
end Go.Proofs.YtdmicblafmhflaaGreatDoor
