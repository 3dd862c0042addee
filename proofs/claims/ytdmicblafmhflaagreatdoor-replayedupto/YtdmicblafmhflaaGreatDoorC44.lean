/- state.readGiven, walked. -/
import Derived.Test.YtdmicblafmhflaaGreatDoorC43
set_option linter.unusedSimpArgs false
set_option linter.unusedVariables false
namespace Go.Proofs.YtdmicblafmhflaaGreatDoor
section
open Go.RowKit Go.Maps
def jM(gv:Nat→Bool)(S:List Nat):Nat→Bool:=fun i=>gv i&&decide (i∈S)
theorem Lj(gv:Nat→Bool)(S:List Nat)(j:Nat):jM gv (S++[j])=if gv j=true then gp (jM gv S) j true else jM gv S:=by
 funext i
 by_cases hj:gv j=true
 · rw[if_pos hj]
   unfold gp jM
   by_cases e:i=j
   · subst e
     simp[hj]
   · simp[e]
 · rw[if_neg hj]
   unfold jM
   by_cases e:i=j
   · subst e
     simp at hj
     simp[hj]
   · simp[e]
theorem K5{R:List En.bO}{G:Nat→Bool}{i:Nat}(h:G i=true):En.ak R G i=true:=En.ua _ _ _ h
def qe(H:Nat→Bool)(Q:List Pd.Pr):List Nat:=Q.flatMap fun p=>cW H p.1
theorem NB{kl:List Ax.ay}{gv:Nat→Bool}(hg:jk gv):jM gv (qe (En.ak (En.aj kl) gv) gQ)=gv:=by
 funext i
 unfold jM
 cases h:gv i
 · rfl
 · have hi:i<36:=by
    rcases Nat.lt_or_ge i 36 with h1 | h1
    · exact h1
    · rw[hg i h1]at h
      cases h
   have hp:((be i).1,(be i).2.length)∈gQ:=by
    have h1:=kL hi
    unfold jI at h1
    unfold gQ
    simp only[List.mem_cons,List.not_mem_nil,or_false]at h1 ⊢
    rcases h1 with h1 | h1 | h1<;>simp[h1]
   have hm:i∈qe (En.ak (En.aj kl) gv) gQ:=List.mem_flatMap.2 ⟨_,hp,gJ.2 ⟨hi,K5 h,rfl⟩⟩
   simp[hm]
structure VE(wS wr:World)(rb gm:Nat)(l:List UInt8)(gv:Nat→Bool):Prop where
 rd:bC wr rb l false
 ge:wS.heap.size≤rb
 ch:uW wS wr gm gv
structure tX(wS wr:World)(rb gm:Nat)(l:List UInt8)(gv:Nat→Bool)(p:ByteArray)(pp tg:Nat):Prop where
 rd:bC wr rb l false
 ge:wS.heap.size≤rb
 aZ:Below wS.heap.size wS wr
 ph:∃N,lJ wr gm N∧fU N gv∧(∀b,b∈eW gm N→wS.heap.size≤b)∧∃t,t∈N∧t.nm=p∧t.g=tg∧t.pl=pp
theorem tX.toW{wS wr:World}{rb gm:Nat}{l:List UInt8}{gv:Nat→Bool}{p:ByteArray}{pp tg:Nat}(h:tX wS wr rb gm l gv p pp tg):VE wS wr rb gm l gv:=by
 obtain⟨N,h1,h2,h3,_⟩:=h.ph
 exact⟨h.rd,h.ge,⟨N,h1,h2,h3⟩,h.aZ⟩
theorem VE.toP{wS wr:World}{rb gm:Nat}{l:List UInt8}{gv:Nat→Bool}{p:ByteArray}{pp:Nat}(h:VE wS wr rb gm l gv)(hp:(p,pp)∈jI):∃tg,tX wS wr rb gm l gv p pp tg∧∀W,Below wr.heap.size wr W→(Instr.lookup 102 (.map (some gm)) (.string p) false).run Tryz.prog W=.ok (.pointer (some ⟨tg,0,none⟩)) W:=by
 obtain⟨N,h1,h2,h3⟩:=h.ch.at_
 obtain⟨t,ht,gh,lj⟩:=h2.has hp
 have uH:p.size≤1000000:=Nat.le_trans (dP _ hp) (by decide)
 refine⟨t.g,⟨h.rd,h.ge,h.ch.aZ,N,h1,h2,h3,t,ht,gh,rfl,lj⟩,fun W hW=> ?_⟩
 exact(h1.below hW).map.look (by rw[←gh];exact iH h1.names ht) uH Tryz.underlying102 (Tryz.zeroValue122 W)
theorem tX.below{wS wr w':World}{rb gm:Nat}{l:List UInt8}{gv:Nat→Bool}{p:ByteArray}{pp tg:Nat}(h:tX wS wr rb gm l gv p pp tg)(hb:Below wr.heap.size wr w'):tX wS w' rb gm l gv p pp tg:=by
 obtain⟨N,h1,h2,h3,h4⟩:=h.ph
 refine⟨?_,h.ge,h.aZ.trans (hb.mono h.aZ.size),N,h1.below hb,h2,h3,h4⟩
 have:=h.rd
 unfold bC at this ⊢
 rw[hb.block _ (lt_of_heap this)]
 exact this
theorem tX.read{wS wr w':World}{rb gm:Nat}{l l':List UInt8}{gv:Nat→Bool}{p:ByteArray}{pp tg:Nat}(h:tX wS wr rb gm l gv p pp tg)(hk:Kb [rb] wr w')(hr:bC w' rb l' false):tX wS w' rb gm l' gv p pp tg∧kp [251,125,119] wr w':=by
 obtain⟨N,h1,h2,h3,h4⟩:=h.ph
 have rA:=h.rd
 unfold bC at rA
 exact⟨⟨hr,h.ge,hk.aJ h.aZ h.aZ.size (by simpa using h.ge),N,h1.kept hk (h1.kx rA (by decide) (by decide)),h2,h3,h4⟩,kp.pW hk rA (by simp)⟩
theorem tX.row{wS wr:World}{rb gm:Nat}{l:List UInt8}{gv:Nat→Bool}{p:ByteArray}{pp tg:Nat}(h:tX wS wr rb gm l gv p pp tg)(hU:eY wS){W:World}(hW:Below wr.heap.size wr W){i:Nat}(hi:i<36)(hp:(be i).1=p){av:Value}(yS:W.ownsRow 0 9 1 av (be i).2.length (strCells (be i).2)):
 Calls Tryz.prog 74 #[.pointer (some ⟨tg,0,none⟩),av] W fun e w'=>e=.returned (.tuple #[.agg (Tb.fB (be i).2),.bool true])∧Below W.heap.size W w':=by
 obtain⟨N,h1,h2,h3,t,ht,gh,lY,lj⟩:=h.ph
 have nO:=kL hi
 have hm:(t.nm,t.pl)∈jI:=(h2.nJ _).1 (List.mem_map.2 ⟨t,ht,rfl⟩)
 rw[hp,←gh]at nO
 have FU:(be i).2.length=t.pl:=tZ nO hm
 have hc:=(cp.below (h1.b8 t ht) hW).lH.2.2.1
 rw[lY]at hc
 have h3':(be i).2.length≤3:=by have:=na i;omega
 exact IP W tg t.pl (be i).2 av hc yS FU h3' (fun a ha=>(iU i a ha).1) (fun a ha=>Nat.le_trans (iU i a ha).2 (by decide)) (Utf8Tabs_below hU (h.aZ.trans (hW.mono h.aZ.size)))
theorem tX.cm{wS wr:World}{rb gm:Nat}{l:List UInt8}{gv:Nat→Bool}{p:ByteArray}{pp tg:Nat}(h:tX wS wr rb gm l gv p pp tg){W:World}(hW:Below wr.heap.size wr W){i:Nat}(hi:i<36)(hp:(be i).1=p):
 Calls Tryz.prog 127 #[.pointer (some ⟨tg,0,none⟩),.agg (Tb.fB (be i).2)] W fun e w'=>e=.returned (.tuple #[])∧tX wS w' rb gm l (gp gv i true) p pp tg∧kp [251,125,119] W w':=by
 have h':=h.below hW
 obtain⟨N,hG,hR,hf,t,ht,gh,lY,lj⟩:=h'.ph
 have hlL:t.L.length≤36:=Nat.le_trans (ot ht) (hR.sum hG.names (fun t ht=>cp.ord (hG.b8 t ht)))
 obtain⟨A,B,hAB⟩:=List.append_of_mem ht
 subst hAB
 have F8:=hG.b8 t ht
 rw[←lY]
 refine(DD W t.g t.nm t.pl t.rd t.rc t.L _ _ _ F8 (by omega)).mono ?_
 rintro e w' ⟨rd',rc',rfl,q1,q2,q3⟩
 have PR:∀b,b∈(⟨t.nm,t.pl,t.g,rd',rc',Tb.put t.L (Tb.ev (be i).2)⟩:GT).bY→b∈t.bY∨W.heap.size≤b:=by
  intro b hb
  unfold GT.bY at hb
  rcases List.mem_cons.1 hb with rfl | hb
  · exact .inl (by simp[GT.bY])
  · rw[Option.mem_toList]at hb
    rcases q3 b hb with h5 | h5
    · exact .inl (by unfold GT.bY;rw[List.mem_cons,Option.mem_toList];exact .inr h5)
    · exact .inr h5
 have bQ:∀r,r∈Tb.put t.L (Tb.ev (be i).2)↔if r=Tb.ev (be i).2 then true=true else r∈t.L:=by
  intro r
  rw[Tb.vL]
  by_cases e:r=Tb.ev (be i).2
  · simp[e]
  · simp[e]
 have hkf:Kb t.bY W w':=q2
 have Yv:En.uF i=(t.nm,Tb.ev (be i).2):=by rw[kI,gh,hp]
 have PC:=uW.set (w:=wS) (t':=⟨t.nm,t.pl,t.g,rd',rc',Tb.put t.L (Tb.ev (be i).2)⟩) h'.aZ hG hR hf hkf q1 rfl rfl rfl PR hi Yv true bQ
 have sK:kp [251,125,119] W w':=⟨t.bY,hkf,fun b hb _=>by
  obtain⟨cur,U,e,hU⟩:=GT.ok.types F8 hb
  exact⟨cur,U,_,e,by rcases hU with rfl | rfl<;>simp⟩⟩
 have rA:bC w' rb l false:=by
  have h9:=h'.rd
  unfold bC at h9 ⊢
  refine hkf.heap h9 (fun hm=> ?_)
  obtain⟨cur,U,e,hU⟩:=GT.ok.types F8 hm
  rw[h9]at e
  simp at e
  rcases hU with rfl | rfl
  · exact absurd e.2 (by decide)
  · exact absurd e.2 (by decide)
 refine⟨rfl,⟨rA,h.ge,PC.aZ, ?_⟩,sK⟩
 refine⟨A++⟨t.nm,t.pl,t.g,rd',rc',Tb.put t.L (Tb.ev (be i).2)⟩::B,lJ.update (t':=⟨t.nm,t.pl,t.g,rd',rc',Tb.put t.L (Tb.ev (be i).2)⟩) hG hkf q1 rfl rfl PR,fU.update (t':=⟨t.nm,t.pl,t.g,rd',rc',Tb.put t.L (Tb.ev (be i).2)⟩) hR hG.names rfl rfl hi Yv true bQ, ?_,⟨t.nm,t.pl,t.g,rd',rc',Tb.put t.L (Tb.ev (be i).2)⟩,by simp,gh,rfl,lj⟩
 intro x hx
 unfold eW at hx
 rw[List.mem_cons,List.mem_flatMap]at hx
 rcases hx with rfl | ⟨u,p9,hx⟩
 · exact hf x (by simp[eW])
 · rcases List.mem_append.1 p9 with p9 | p9
   · exact hf x (by unfold eW;rw[List.mem_cons,List.mem_flatMap];exact .inr ⟨u,by simp[p9],hx⟩)
   · rcases List.mem_cons.1 p9 with rfl | p9
     · rcases PR x hx with h4 | h4
       · exact hf x (by unfold eW;simp[h4])
       · have:=h'.aZ.size;omega
     · exact hf x (by unfold eW;rw[List.mem_cons,List.mem_flatMap];exact .inr ⟨u,by simp[p9],hx⟩)
end
end Go.Proofs.YtdmicblafmhflaaGreatDoor
