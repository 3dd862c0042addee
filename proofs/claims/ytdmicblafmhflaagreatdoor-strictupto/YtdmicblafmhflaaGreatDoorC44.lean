/- state.readGiven, walked. -/
import Derived.Test.YtdmicblafmhflaaGreatDoorC43
import Derived.Test.YtdmicblafmhflaaGreatDoorC42
set_option linter.unusedSimpArgs false
set_option linter.unusedVariables false
namespace Go.Proofs.YtdmicblafmhflaaGreatDoor
section
open Go.RowKit Go.Maps
theorem nz(p:Pd.Pr):p∈gQ↔p∈oj:=by
 refine⟨Vr,fun h=> ?_⟩
 unfold oj at h
 unfold gQ
 simp only[List.mem_cons,List.not_mem_nil,or_false]at h ⊢
 rcases h with h | h | h<;>simp[h]
theorem tG:Pd.lX gQ:=by unfold Pd.lX gQ;decide+kernel
abbrev xI:List TypeId:=[251,125,119]
end
/- state.readGiven of any bytes: what is read, as plain functions; the tables as they lie. -/
section
open Go.RowKit Go.Maps
namespace Rd
def iL(N:List ByteArray)(pp:Nat)(l:List UInt8)(f:Bool):Bool×List ByteArray×List UInt8×Bool:=
 let a:=number l f 1
 let b:=number a.2.1 a.2.2 320000
 let c:=bz N pp b.2.1 b.2.2
 (decide (a.1=1),c.1,c.2.1,c.2.2)
abbrev dz:=ByteArray→List (List ByteArray)
def lk(R:dz)(p:ByteArray)(L:List (List ByteArray)):dz:=fun q=>if q=p then L else R q
def fl(N:List ByteArray)(pn:ByteArray)(pp:Nat):Nat→List UInt8→Bool→dz→Option (dz×List UInt8×Bool)
 | 0,l,f,R=>some (R,l,f)
 | k+1,l,f,R=>if (iL N pp l f).2.1.all Ax.cf=true then fl N pn pp k (iL N pp l f).2.2.1 (iL N pp l f).2.2.2 (if (iL N pp l f).1=true then lk R pn (Tb.put (R pn) (Tb.dh (iL N pp l f).2.1))else R)else none
def eQ(N:List ByteArray):List Pd.Pr→List UInt8→Bool→dz→Option (dz×List UInt8×Bool)
 | [],l,f,R=>some (R,l,f)
 | p::Q,l,f,R=>(fl N p.1 p.2 (number l f 200).1 (number l f 200).2.1 (number l f 200).2.2 R).bind fun x=>eQ N Q x.2.1 x.2.2 x.1
def dJ(Q:List Pd.Pr)(l:List UInt8)(f:Bool):Option (dz×List UInt8×Bool):=eQ (names l f).1 Q (names l f).2.1 (names l f).2.2 (fun _=>[])
theorem se(R:dz)(p:ByteArray)(L:List (List ByteArray)):lk R p L p=L:=by simp[lk]
theorem pM{R:dz}{p q:ByteArray}(L:List (List ByteArray))(h:q≠p):lk R p L q=R q:=by simp[lk,h]
theorem KY(N:List ByteArray)(pp:Nat)(l:List UInt8)(f:Bool):(iL N pp l f).2.1.length=pp:=ti _ _ _ _
theorem pJ(L:List (List ByteArray))(r:List ByteArray):(Tb.put L r).length≤L.length+1:=by
 unfold Tb.put
 split
 · omega
 · unfold Tb.ins
   simp
   omega
end Rd
structure GQ(G:List GT)(Q:List Pd.Pr)(R:Rd.dz):Prop where
 sub:∀t,t∈G→(t.nm,t.pl)∈Q∧t.L=R t.nm
 has:∀p,p∈Q→∃t,t∈G∧t.nm=p.1∧t.pl=p.2
theorem GQ.update{A B:List GT}{t t':GT}{Q:List Pd.Pr}{R:Rd.dz}(h:GQ (A++t::B) Q R)(hn:((A++t::B).map GT.nm).Nodup)(e1:t'.nm=t.nm)(e2:t'.pl=t.pl):GQ (A++t'::B) Q (Rd.lk R t.nm t'.L):=by
 have cL:∀u,u∈A∨u∈B→u.nm≠t.nm:=by
  intro u hu e
  rw[List.map_append,List.map_cons,List.nodup_append]at hn
  obtain⟨_,h2,h3⟩:=hn
  rw[List.nodup_cons]at h2
  rcases hu with hu | hu
  · exact h3 _ (List.mem_map_of_mem hu) _ (List.mem_cons_self) e
  · exact h2.1 (by rw[←e];exact List.mem_map_of_mem hu)
 refine⟨?_, ?_⟩
 · intro u hu
   rcases List.mem_append.1 hu with hu | hu
   · have:=h.sub u (by simp[hu])
     rw[Rd.pM _ (cL u (.inl hu))]
     exact this
   · rcases List.mem_cons.1 hu with rfl | hu
     · have:=h.sub t (by simp)
       rw[e1,e2,Rd.se]
       exact⟨this.1,rfl⟩
     · have:=h.sub u (by simp[hu])
       rw[Rd.pM _ (cL u (.inr hu))]
       exact this
 · intro p hp
   obtain⟨u,hu,h1,h2⟩:=h.has p hp
   rcases List.mem_append.1 hu with hu | hu
   · exact⟨u,by simp[hu],h1,h2⟩
   · rcases List.mem_cons.1 hu with rfl | hu
     · exact⟨t',by simp,e1.trans h1,e2.trans h2⟩
     · exact⟨u,by simp[hu],h1,h2⟩
structure Ty(wS wr:World)(rb gm:Nat)(Q:List Pd.Pr)(l:List UInt8)(f:Bool)(R:Rd.dz):Prop where
 rd:cJ wr rb l f
 ge:wS.heap.size≤rb
 be:Below wS.heap.size wS wr
 ot:∃N,jY wr gm N∧GQ N Q R∧∀b,b∈ev gm N→wS.heap.size≤b
structure tF(wS wr:World)(rb gm:Nat)(Q:List Pd.Pr)(l:List UInt8)(f:Bool)(R:Rd.dz)(p:ByteArray)(pp tg:Nat):Prop where
 rd:cJ wr rb l f
 ge:wS.heap.size≤rb
 be:Below wS.heap.size wS wr
 ot:∃N,jY wr gm N∧GQ N Q R∧(∀b,b∈ev gm N→wS.heap.size≤b)∧∃t,t∈N∧t.nm=p∧t.g=tg∧t.pl=pp
theorem tF.toA{wS wr:World}{rb gm:Nat}{Q:List Pd.Pr}{l:List UInt8}{f:Bool}{R:Rd.dz}{p:ByteArray}{pp tg:Nat}(h:tF wS wr rb gm Q l f R p pp tg):Ty wS wr rb gm Q l f R:=by
 obtain⟨N,h1,h2,h3,_⟩:=h.ot
 exact⟨h.rd,h.ge,h.be,N,h1,h2,h3⟩
theorem Ty.toB{wS wr:World}{rb gm:Nat}{Q:List Pd.Pr}{l:List UInt8}{f:Bool}{R:Rd.dz}{p:ByteArray}{pp:Nat}(h:Ty wS wr rb gm Q l f R)(hp:(p,pp)∈Q):∃tg,tF wS wr rb gm Q l f R p pp tg∧∀W,Below wr.heap.size wr W→(Instr.lookup 102 (.map (some gm)) (.string p) false).run Tryz.prog W=.ok (.pointer (some ⟨tg,0,none⟩)) W:=by
 obtain⟨N,h1,h2,h3⟩:=h.ot
 obtain⟨t,ht,iG,lu⟩:=h2.has _ hp
 have uK:p.size≤1000000:=by
  have:=h1.short t ht
  rw[iG]at this
  exact this
 refine⟨t.g,⟨h.rd,h.ge,h.be,N,h1,h2,h3,t,ht,iG,rfl,lu⟩,fun W hW=> ?_⟩
 exact(h1.below hW).map.look (by rw[show p=t.nm from iG.symm];exact iT h1.names ht) uK Tryz.underlying102 (Tryz.zeroValue122 W)
theorem tF.below{wS wr w':World}{rb gm:Nat}{Q:List Pd.Pr}{l:List UInt8}{f:Bool}{R:Rd.dz}{p:ByteArray}{pp tg:Nat}(h:tF wS wr rb gm Q l f R p pp tg)(hb:Below wr.heap.size wr w'):tF wS w' rb gm Q l f R p pp tg:=by
 obtain⟨N,h1,h2,h3,h4⟩:=h.ot
 refine⟨?_,h.ge,h.be.trans (hb.mono h.be.size),N,h1.below hb,h2,h3,h4⟩
 have:=h.rd
 unfold cJ at this ⊢
 rw[hb.block _ (lt_of_heap this)]
 exact this
theorem tF.read{wS wr w':World}{rb gm:Nat}{Q:List Pd.Pr}{l l':List UInt8}{f f':Bool}{R:Rd.dz}{p:ByteArray}{pp tg:Nat}(h:tF wS wr rb gm Q l f R p pp tg)(hk:Kb [rb] wr w')(hr:cJ w' rb l' f'):tF wS w' rb gm Q l' f' R p pp tg∧lj xI wr w':=by
 obtain⟨N,h1,h2,h3,h4⟩:=h.ot
 have og:=h.rd
 unfold cJ at og
 exact⟨⟨hr,h.ge,hk.aK h.be h.be.size (by simpa using h.ge),N,h1.kept hk (h1.kG og (by decide) (by decide)),h2,h3,h4⟩,lj.sB hk og (by simp)⟩
theorem tF.row{wS wr:World}{rb gm:Nat}{Q:List Pd.Pr}{l:List UInt8}{f:Bool}{R:Rd.dz}{p:ByteArray}{pp tg:Nat}(h:tF wS wr rb gm Q l f R p pp tg)(hU:fw wS){W:World}(hW:Below wr.heap.size wr W){names:List ByteArray}(hl:names.length=pp)(h3:pp≤3)(hs:∀a,a∈names→a.size≤maxLen){av:Value}(xq:W.ownsRow 0 9 1 av names.length (strCells names)):
 Calls Tryz.prog 74 #[.pointer (some ⟨tg,0,none⟩),av] W fun e w'=>e=.returned (.tuple (if names.all Ax.cf=true then #[.agg (Tb.dE names),.bool true]else #[.agg (Tb.dE []),.bool false]))∧Below W.heap.size W w':=by
 obtain⟨N,h1,h2,_,t,ht,iG,lY,lu⟩:=h.ot
 have hc:=(cl.below (h1.bX t ht) hW).lB.2.2.1
 rw[lY]at hc
 exact RI W tg t.pl names av hc xq (by omega) (by omega) hs (Utf8Tabs_below hU (h.be.trans (hW.mono h.be.size)))
theorem tF.dO{wS wr:World}{rb gm:Nat}{Q:List Pd.Pr}{l:List UInt8}{f:Bool}{R:Rd.dz}{p:ByteArray}{pp tg:Nat}(h:tF wS wr rb gm Q l f R p pp tg)(names:List ByteArray)(hRl:(R p).length≤999999):
 Calls Tryz.prog 127 #[.pointer (some ⟨tg,0,none⟩),.agg (Tb.dE names)] wr fun e w'=>e=.returned (.tuple #[])∧tF wS w' rb gm Q l f (Rd.lk R p (Tb.put (R p) (Tb.dh names))) p pp tg∧lj xI wr w':=by
 obtain⟨N,hG,hR,hf,t,ht,iG,lY,lu⟩:=h.ot
 have hlL:t.L.length≤999999:=by
  rw[(hR.sub t ht).2,iG]
  exact hRl
 obtain⟨A,B,WL⟩:=List.append_of_mem ht
 subst WL
 have Hd:=hG.bX t ht
 rw[←lY]
 refine(Da wr t.g t.nm t.pl t.rd t.rc t.L _ _ _ Hd hlL).mono ?_
 rintro e w' ⟨rd',rc',rfl,q1,q2,q3⟩
 have Qv:∀b,b∈(⟨t.nm,t.pl,t.g,rd',rc',Tb.put t.L (Tb.dh names)⟩:GT).bU→b∈t.bU∨wr.heap.size≤b:=by
  intro b hb
  unfold GT.bU at hb
  rcases List.mem_cons.1 hb with rfl | hb
  · exact .inl (by simp[GT.bU])
  · rw[Option.mem_toList]at hb
    rcases q3 b hb with h5 | h5
    · exact .inl (by unfold GT.bU;rw[List.mem_cons,Option.mem_toList];exact .inr h5)
    · exact .inr h5
 have Z3:Kb t.bU wr w':=q2
 have sO:lj xI wr w':=⟨t.bU,Z3,fun b hb _=>by
  obtain⟨cur,U,e,hU⟩:=GT.ok.types Hd hb
  exact⟨cur,U,_,e,by rcases hU with rfl | rfl<;>simp⟩⟩
 have og:cJ w' rb l f:=by
  have h9:=h.rd
  unfold cJ at h9 ⊢
  refine Z3.heap h9 (fun hm=> ?_)
  obtain⟨cur,U,e,hU⟩:=GT.ok.types Hd hm
  rw[h9]at e
  simp at e
  rcases hU with rfl | rfl
  · exact absurd e.2 (by decide)
  · exact absurd e.2 (by decide)
 have htf:∀b,b∈t.bU→wS.heap.size≤b:=fun b hb=>hf b (by unfold ev;rw[List.mem_cons,List.mem_flatMap];exact .inr ⟨t,by simp,hb⟩)
 have hup:=hR.update (t':=⟨t.nm,t.pl,t.g,rd',rc',Tb.put t.L (Tb.dh names)⟩) hG.names rfl rfl
 have hLe:t.L=R p:=by rw[(hR.sub t ht).2,iG]
 refine⟨rfl,⟨og,h.ge,Z3.aK h.be h.be.size htf,A++⟨t.nm,t.pl,t.g,rd',rc',Tb.put t.L (Tb.dh names)⟩::B,jY.update (t':=⟨t.nm,t.pl,t.g,rd',rc',Tb.put t.L (Tb.dh names)⟩) hG Z3 q1 rfl rfl Qv, ?_, ?_,⟨t.nm,t.pl,t.g,rd',rc',Tb.put t.L (Tb.dh names)⟩,by simp,iG,rfl,lu⟩,sO⟩
 · rw[←hLe]
   rw[←iG]
   exact hup
 · intro x hx
   unfold ev at hx
   rw[List.mem_cons,List.mem_flatMap]at hx
   rcases hx with rfl | ⟨u,vv,hx⟩
   · exact hf x (by simp[ev])
   · rcases List.mem_append.1 vv with hu | hu
     · exact hf x (by unfold ev;rw[List.mem_cons,List.mem_flatMap];exact .inr ⟨u,by simp[hu],hx⟩)
     · rcases List.mem_cons.1 hu with rfl | hu
       · rcases Qv x hx with h5 | h5
         · exact htf x h5
         · exact Nat.le_trans h.be.size h5
       · exact hf x (by unfold ev;rw[List.mem_cons,List.mem_flatMap];exact .inr ⟨u,by simp[hu],hx⟩)
theorem N6{w w':World}{mb:Nat}{Q:List Pd.Pr}{T:List GT}(h:mT w w' mb Q.length Q T)(hs:Pd.lX Q)(hq:Q.length≤1000)(hz:∀p,p∈Q→p.1.size≤1000000):jY w' mb T∧GQ T Q (fun _=>[])∧∀b,b∈ev mb T→w.heap.size≤b:=by
 obtain⟨D,ho,hD⟩:=h.map
 have hp:T.map oI=Q.reverse:=by rw[h.mS,List.take_length]
 have hn:T.map GT.nm=(T.map oI).map Prod.fst:=by simp[oI,Function.comp_def]
 have hm:∀p,p∈T.map oI↔p∈Q:=fun p=>by rw[hp,List.mem_reverse]
 refine⟨⟨kh.of ho (by omega) hD,fun t ht=>(h.bX t ht).1,h.apart, ?_, ?_⟩,⟨?_, ?_⟩, ?_⟩
 · rw[hn,hp,List.map_reverse]
   exact List.pairwise_reverse.2 (List.Pairwise.imp (fun h=>Ne.symm h) (dS hs))
 · intro t ht
   exact hz _ ((hm _).1 (List.mem_map_of_mem ht))
 · intro t ht
   obtain⟨_,p,g,rfl,_⟩:=h.bX t ht
   exact⟨(hm _).1 (List.mem_map_of_mem ht),rfl⟩
 · intro p hp9
   obtain⟨t,ht,e⟩:=List.mem_map.1 ((hm p).2 hp9)
   exact⟨t,ht,by rw[←e];rfl,by rw[←e];rfl⟩
 · intro b hb
   have h9:=h.Ue
   unfold ev at hb
   rw[List.mem_cons,List.mem_flatMap]at hb
   rcases hb with rfl | ⟨t,ht,hb⟩
   · omega
   · obtain⟨_,p,g,rfl,aC⟩:=h.bX t ht
     unfold GT.bU xG at hb
     simp[Value.ownBlock]at hb
     omega
end
end Go.Proofs.YtdmicblafmhflaaGreatDoor
