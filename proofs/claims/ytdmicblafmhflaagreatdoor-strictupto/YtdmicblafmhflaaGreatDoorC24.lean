/- NoneGiven: empty tables. -/
import Derived.Test.YtdmicblafmhflaaGreatDoorC21
import Derived.Test.YtdmicblafmhflaaGreatDoorC22
import Derived.Test.YtdmicblafmhflaaGreatDoorC23
import Derived.Test.YtdmicblafmhflaaGreatDoorC18
import Derived.Deep.RegionHeld3
set_option linter.unusedSimpArgs false
set_option linter.unusedVariables false
set_option maxHeartbeats 2000000
set_option maxRecDepth 100000
namespace Go.Proofs.YtdmicblafmhflaaGreatDoor
section
open Go.RowKit Go.Maps Go.WideMaps Go.WideElems
def xG(p:Pd.Pr)(g:Nat):GT:=⟨p.1,p.2,g,none,0,[]⟩
theorem yM(p:Pd.Pr)(g:Nat):(xG p g).bU=[g]:=rfl
def oI(t:GT):Pd.Pr:=(t.nm,t.pl)
theorem Og{w:World}{p:Pd.Pr}{g:Nat}(h:w.heap[g]?=some (.cells #[.string p.1,.int .i64 p.2,.slice none 0 0] 125 (0,0))):(xG p g).ok w:=⟨h,⟨(by intro r hr;cases hr),World.ownsRow_nil _ _ _ _⟩,List.Pairwise.nil,by decide⟩
structure mT(w wr:World)(mb k:Nat)(Q:List Pd.Pr)(T:List GT):Prop where
 map:∃D,wr.ownsMap Tryz.prog 9 cS mb k D∧F0 D (T.map GT.key)
 bX:∀t,t∈T→t.ok wr∧∃p g,t=xG p g∧mb<g
 apart:T.Pairwise GH
 mS:T.map oI=(Q.take k).reverse
 be:Below w.heap.size w wr
 Ue:mb=w.heap.size
theorem Dr{w wr w3:World}{mb k:Nat}{Q:List Pd.Pr}{T:List GT}{o1:Obj}(h:mT w wr mb k Q T)(hk:k<Q.length){D:DataW Unit}(hD:F0 D (T.map GT.key))(hm:IsMap D)
 (hw:w3.ownsMap Tryz.prog 9 cS mb (k+1) (D.put (aY (Q[k]).1) (.lit (.int .i64 (wr.heap.size+1:Nat)))))(hg:((wr.alloc o1).alloc (.cells (match Q[k]with | p=>#[.string p.1,.int .i64 p.2,.slice none 0 0]) 125)).grownBy w3 (some mb)):
 mT w w3 mb (k+1) Q (xG Q[k] (wr.heap.size+1)::T):=by
 have fC:Kb [mb] ((wr.alloc o1).alloc (.cells (match Q[k]with | p=>#[.string p.1,.int .i64 p.2,.slice none 0 0]) 125)) w3:=Kb.dK hg
 have cM:Below wr.heap.size wr ((wr.alloc o1).alloc (.cells (match Q[k]with | p=>#[.string p.1,.int .i64 p.2,.slice none 0 0]) 125)):=((Below.refl _ _).alloc (Nat.le_refl _) _).alloc (by simp) _
 have hs:=h.be.size
 have aC:∀t,t∈T→∀b,b∈t.bU→b<wr.heap.size∧mb<b:=by
  intro t ht b hb
  obtain⟨cB,p,g,rfl,Vb⟩:=h.bX t ht
  refine⟨cB.lt hb, ?_⟩
  rw[yM,List.mem_singleton]at hb
  rw[hb];exact Vb
 have P6:=h.Ue
 refine⟨⟨_,hw,Cr hD hm _ _⟩, ?_, ?_, ?_, ?_,P6⟩
 · intro t ht
   rcases List.mem_cons.1 ht with rfl | ht
   · refine⟨Og ?_,_,_,rfl,by omega⟩
     have:=fC.heap (pN wr o1 _) (by simp;omega)
     exact this
   · obtain⟨cB,p,g,e,Vb⟩:=h.bX t ht
     refine⟨(cB.below cM).kept fC ?_,p,g,e,Vb⟩
     intro b hb hc
     simp only[List.mem_singleton]at hc
     have:=(aC t ht b hb).2
     omega
 · refine List.pairwise_cons.2 ⟨?_,h.apart⟩
   intro t ht x hx Jr
   rw[yM,List.mem_singleton]at hx
   have:=(aC t ht x Jr).1
   omega
 · have e:Q.take (k+1)=Q.take k++[Q[k]]:=by rw[List.take_add_one,List.getElem?_eq_getElem hk];rfl
   rw[e,List.reverse_append,List.map_cons,h.mS]
   rfl
 · exact fC.aK (h.be.trans (cM.mono hs)) (by simp;omega) (by simp;omega)
theorem qe(w:World)(B:Nat)(qd:Option Addr)(qc:Nat)(Q:List Pd.Pr)(hq:w.ownsRow B 112 2 (.slice qd Q.length qc) Q.length (au Q))(hl:Q.length≤1000)(hs:∀p,p∈Q→p.1.size≤1000000):
 Calls Tryz.prog 58 #[.slice qd Q.length qc] w fun e w'=>∃T,e=.returned (.map (some w.heap.size))∧mT w w' w.heap.size Q.length Q T:=by
 have WQ:=@run_makeMap Tryz.prog
 have HS:Hid (∀p,p∈Q→p.1.size≤1000000):=hs
 clear hs
 go_enter Tryz.func58,Tryz.ntmps58
 go_wp2_with fail
 go_loopw [9] (fun i wr=>∃(k:Nat) (T:List GT),k≤Q.length∧i=.int .i64 k∧mT w wr w.heap.size k Q T) (fun i _=>Q.length-(intOf i).toNat)
 case atStart=>exact⟨0,[],Nat.zero_le _,rfl,⟨⟨_,World.ownsMap_made _ _ _ _,CF⟩,by simp,List.Pairwise.nil,by simp,(Below.refl _ _).alloc (Nat.le_refl _) _,rfl⟩⟩
 case round=>
  obtain⟨k,T,hk,rfl,hn⟩:=hrel
  obtain⟨D,aj,hD⟩:=hn.map
  have HN:Hid (mT w wr w.heap.size k Q T):=hn
  have HD:Hid (F0 D (T.map GT.key)):=hD
  have hDm:=aj.isMap
  have P6:=aj.lt
  have aR:=hn.be
  have cr:=aR.size
  have HB:Hid (Below w.heap.size w wr):=aR
  clear hD hn
  by_cases aC:k<Q.length
  · have bV:=af hq aR
    obtain⟨g,rfl,hg,hc,bA⟩:=ax bV (by omega)
    have gH:=bA _ _ (aU Q k aC).1
    have gC:=bA _ _ (aU Q k aC).2
    have uK:(Q[k]).1.size≤1000000:=HS.out _ (List.getElem_mem aC)
    have vo:Hid (∀w3 o1,w3.ownsMap Tryz.prog 9 cS w.heap.size (k+1) (D.put (aY (Q[k]).1) (.lit (.int .i64 (wr.heap.size+1:Nat))))→((wr.alloc o1).alloc (.cells (match Q[k]with | p=>#[.string p.1,.int .i64 p.2,.slice none 0 0]) 125)).grownBy w3 (some w.heap.size)→mT w w3 w.heap.size (k+1) Q (xG Q[k] (wr.heap.size+1)::T)):=fun w3 o1 a b=>Dr HN.out aC HD.out hDm a b
    generalize Q[k]=x at gH gC uK vo
    have mF:keyOf Tryz.prog 9 (.string x.1)=some (aY x.1):=keyOf_string_mk Tryz.underlying9 (by unfold maxLen;omega)
    have HK:Hid (keyOf Tryz.prog 9 (.string x.1)=some (aY x.1)):=mF
    clear mF bA bV aR hq
    go_wp2_with (at_mapUpdate;go_must (refine wpList_mapUpdate_own _ rfl _ _ _ 102 rfl 9 122 Tryz.gD Tryz.underlying102 _ w.heap.size k D rfl ((aj.alloc _).alloc _) (by unfold maxLen;omega) _ _ (aY x.1) rfl rfl HK.out (.lit (.int .i64 (wr.heap.size+1:Nat))) [] (by rfl) ?_;intro w3 fG gI))
    go_roundw
    case rel=>exact⟨k+1,_,by omega,by go_num,vo.out _ _ fG gI⟩
    case measure=>simp[intOf];omega
  · have CZ:k=Q.length:=by omega
    have HE:Hid (mT w wr w.heap.size Q.length Q T):=by rw[←CZ];exact HN.out
    clear aR CZ
    go_wp2_with fail
    go_ret
    exact⟨T,rfl,HE.out⟩
end
/- facts.CopyGiven. -/
section
open Go.RowKit Go.Maps Go.WideMaps Go.WideElems
def kj(t:GT):ByteArray×Nat×List (List ByteArray):=(t.nm,t.pl,t.L)
theorem Gd{G:List GT}(hn:(G.map GT.nm).Nodup){left:Lit→Bool}{t:GT}(ht:t∈G)(hl:left (aY t.nm)=true):
 (jS left G).Perm (t::jS (fun z=>left z&& !z.sameKey (aY t.nm)) G):=by
 induction G with
 | nil=>simp at ht
 | cons a G ih=>
  simp only[List.map_cons,List.nodup_cons]at hn
  unfold jS at ih ⊢
  rcases List.mem_cons.1 ht with rfl | ht
  · have e1:G.filter (fun z=>left (aY z.nm)&& !(aY z.nm).sameKey (aY t.nm))=G.filter (fun z=>left (aY z.nm)):=by
     refine List.filter_congr fun z hz=> ?_
     have:(aY z.nm).sameKey (aY t.nm)=false:=sameKey_ne (fun e=>hn.1 (by rw[←ku e];exact List.mem_map_of_mem hz))
     simp[this]
    have e2:(aY t.nm).sameKey (aY t.nm)=true:=by simp[Lit.sameKey,aY]
    simp only[List.filter_cons,hl,e2,e1]
    simp
  · have h1:=ih hn.2 ht
    have:(aY a.nm).sameKey (aY t.nm)=false:=sameKey_ne (fun e=>hn.1 (by rw[ku e];exact List.mem_map_of_mem ht))
    simp only[List.filter_cons,this]
    cases left (aY a.nm)
    · simpa using h1
    · simp
      exact(h1.cons a).trans (List.Perm.swap t a _)
structure lI(w wr:World)(mb:Nat)(G R N:List GT):Prop where
 map:∃D,wr.ownsMap Tryz.prog 9 cS mb N.length D∧F0 D (N.map GT.key)
 bX:∀t,t∈N→t.ok wr∧∀b,b∈t.bU→mb+1<b
 apart:N.Pairwise GH
 data:(N.map kj++R.map kj).Perm (G.map kj)
 be:Below w.heap.size w wr
 Ue:mb=w.heap.size
theorem lI.oo{w wr:World}{mb:Nat}{G R N:List GT}(h:lI w wr mb G R N):N.length≤G.length:=by
 have:=h.data.length_eq
 simp at this
 omega
theorem lI.next{w wr w1:World}{mb:Nat}{G R N:List GT}(h:lI w wr mb G R N)(hg:wr.grownBy w1 (some (mb+1)))(aC:mb<wr.heap.size):lI w w1 mb G R N:=by
 have hk:Kb [mb+1] wr w1:=Kb.dK hg
 obtain⟨D,⟨es,ck,hb,hr⟩,hD⟩:=h.map
 have hm:=h.Ue
 refine⟨⟨D,⟨es,ck,hk.heap hb (by simp),hr⟩,hD⟩,fun t ht=>⟨(h.bX t ht).1.kept hk (fun b hb=> ?_),(h.bX t ht).2⟩,h.apart,h.data,hk.aK h.be h.be.size (by simp;omega),hm⟩
 have:=(h.bX t ht).2 b hb
 simp
 omega
theorem zq{w:World}{B:Nat}{e:TypeId}{size:Nat}{v:Value}{n:Nat}{xs:List Value}(h:w.ownsRow B e size v n xs):w.ownsRow 0 e size v n xs:=by
 refine⟨h.1, ?_⟩
 rcases h.2 with h2 | ⟨g,cap,cur,e1,_,h3⟩
 · exact .inl h2
 · exact .inr ⟨g,cap,cur,e1,Nat.zero_le _,h3⟩
theorem lI.step{w w1 w5 w6 w7:World}{mb:Nat}{G R R' N:List GT}{t:GT}(h:lI w w1 mb G R N)(P6:mb+1<w1.heap.size)(hp:R.Perm (t::R'))(VS:Tb.Ord t.L)(h3:p9 t.L){rd:Option Addr}{rc:Nat}(ls:Below w1.heap.size w1 w5)
 (ho:w5.ownsRow w1.heap.size 119 3 (.slice rd t.L.length rc) t.L.length (aF t.L))(h6:w6=w5.alloc (.cells #[.string t.nm,.int .i64 t.pl,.slice rd t.L.length rc] 125))
 {D:DataW Unit}(hD:F0 D (N.map GT.key))(hm:IsMap D)(hw:w7.ownsMap Tryz.prog 9 cS mb (N.length+1) (D.put (aY t.nm) (.lit (.int .i64 (w5.heap.size:Nat)))))(hg:w6.grownBy w7 (some mb)):
 lI w w7 mb G R' (⟨t.nm,t.pl,w5.heap.size,rd,rc,t.L⟩::N):=by
 subst h6
 have hk:Kb [mb] (w5.alloc (.cells #[.string t.nm,.int .i64 t.pl,.slice rd t.L.length rc] 125)) w7:=Kb.dK hg
 have oF:Below w1.heap.size w1 (w5.alloc (.cells #[.string t.nm,.int .i64 t.pl,.slice rd t.L.length rc] 125)):=ls.alloc ls.size _
 have hs5:=ls.size
 have kW:=h.be.size
 have acR:=h.Ue
 have zO:∀b,Value.ownBlock (.slice rd t.L.length rc)=some b→w1.heap.size≤b∧b<w5.heap.size:=fun b hb=>ho.lt b hb
 refine⟨⟨_,hw,Cr hD hm _ _⟩, ?_, ?_, ?_, ?_,acR⟩
 · intro u hu
   rcases List.mem_cons.1 hu with rfl | hu
   · refine⟨⟨?_,⟨h3, ?_⟩,VS,by decide⟩, ?_⟩
     · have:=hk.heap (heap_alloc_new w5 _) (by simp;omega)
       exact this
     · exact hk.row ((zq ho).alloc _) (fun b hb=>by have:=zO b hb;simp;omega)
     · intro b hb
       simp only[GT.bU,List.mem_cons,Option.mem_toList]at hb
       rcases hb with rfl | hb
       · omega
       · have:=zO b hb;omega
   · refine⟨((h.bX u hu).1.below oF).kept hk (fun b hb=> ?_),(h.bX u hu).2⟩
     have:=(h.bX u hu).2 b hb
     simp
     omega
 · refine List.pairwise_cons.2 ⟨?_,h.apart⟩
   intro u hu x hx Jr
   have h1:=(h.bX u hu).1.lt Jr
   simp only[GT.bU,List.mem_cons,Option.mem_toList]at hx
   rcases hx with rfl | hx
   · omega
   · have:=zO x hx;omega
 · refine List.Perm.trans ?_ h.data
   have e:(R.map kj).Perm (kj t::R'.map kj):=hp.map kj
   have h1:(N.map kj++R.map kj).Perm (kj t::(N.map kj++R'.map kj)):=(e.append_left _).trans List.perm_middle
   exact h1.symm
 · exact hk.aK (h.be.trans (oF.mono kW)) (by simp;omega) (by simp;omega)
theorem zn(w:World)(mb:Nat)(G:List GT)(h:jY w mb G)(hs:∀t,t∈G→t.L.length≤999999)(hGl:G.length≤1000):
 Calls Tryz.prog 126 #[.map (some mb)] w fun e w'=>∃N,e=.returned (.map (some w.heap.size))∧lI w w' w.heap.size G [] N:=by
 have WQ:=@run_makeMap Tryz.prog
 obtain⟨n,D,aj,hn,hD⟩:=h.map.has
 have fE:=aj.lt
 have HG:Hid (jY w mb G):=h
 have HD:Hid (F0 D (G.map GT.key)):=hD
 have HS:Hid (∀t,t∈G→t.L.length≤999999):=hs
 have e1:(w.alloc (.map #[] 0)).heap.size=w.heap.size+1:=by simp
 clear h hD hs
 go_enter Tryz.func126,Tryz.ntmps126
 go_wp2_with (first
  | (at_range;refine wpList_range_own _ rfl _ 102 rfl 9 122 Tryz.gD Tryz.underlying102 _ mb n _ rfl (aj.alloc _) ?_;intro w0 Rz nD JA)
  | go_in)
 go_frame
 rw[e1]at Rz JA ⊢
 go_loopw [9] (fun _ wr=>∃(left:Lit→Bool) (jG:Nat) (N:List GT),wr.ranges Tryz.prog 9 cS mb (w.heap.size+1) n D left jG∧(∀kl,left kl=true→has D kl=true)∧lI w wr w.heap.size G (jS left G) N)
  (fun _ wr=>wr.rangeLeft mb (w.heap.size+1))
 case atStart=>
  have e:jS (has D) G=G:=by
   refine List.filter_eq_self.2 fun t ht=> ?_
   rw[(HD.out t.nm).1,iT HG.out.names ht]
   rfl
  refine⟨_,_,[],Rz,fun _ h=>h,⟨⟨_,(World.ownsMap_made _ _ _ _).kept nD (by simp),CF⟩,by simp,List.Pairwise.nil,by rw[e];simp,((Below.refl _ _).alloc (Nat.le_refl _) _).grown nD (by simp) (fun j hj=>by cases hj),rfl⟩⟩
 case round=>
  obtain⟨left,jG,N,WY,Wq,SO⟩:=hrel
  go_wp2_with (first
   | (at_next;refine wpList_next_ranges _ rfl _ rfl 9 Tryz.gD cS Value.string Value.pointer (fun key kl mF=>Maps.keyOf_string_inv Tryz.underlying9 mF) uE mb (w.heap.size+1) n _ _ _ rfl WY ?_ ?_)
   | go_in)
  · intro NJ Qq
    rw[xA Qq]at SO
    go_wp2
    go_ret
    exact⟨N,rfl,SO⟩
  · intro x c kl y ps w1 KZ QD VO hRc sJ Js aC fA kW hen
    obtain⟨rfl,t,ht,rfl,rfl⟩:=uN HD.out Wq QD VO hRc sJ
    have hrl:=Js.lt
    have Pz:=SO.next fA (by omega)
    have hT:cl w1 t.g 125 t.nm t.pl t.rd t.rc t.L []:=(HG.out.bX t ht).below Pz.be
    have TG:=HS.out t ht
    obtain⟨c2,f2,c1,c0⟩:=hT.lB
    have sN:=lt_of_heap hT.da
    obtain⟨D2,yW,hD2⟩:=Pz.map
    have KE:=Pz.oo
    have vo:∀w5 w7 rd rc,(Below w1.heap.size w1 w5∧w5.ownsRow w1.heap.size 119 3 (.slice rd t.L.length rc) t.L.length (aF t.L))→w7.ownsMap Tryz.prog 9 cS w.heap.size (N.length+1) (D2.put (aY t.nm) (.lit (.int .i64 (w5.heap.size:Nat))))→(w5.alloc (.cells #[.string t.nm,.int .i64 t.pl,.slice rd t.L.length rc] 125)).grownBy w7 (some w.heap.size)→
     ∃N',lI w w7 w.heap.size G (jS (fun z=>left z&& !z.sameKey (aY t.nm)) G) N'∧w7.ranges Tryz.prog 9 cS mb (w.heap.size+1) n D (fun z=>left z&& !z.sameKey (aY t.nm)) KZ:=by
     intro w5 w7 rd rc hh hw hg
     obtain⟨ls,Zi⟩:=hh
     refine⟨_,Pz.step (by omega) (Gd HG.out.names ht VO) hT.ord hT.rows.three ls Zi rfl hD2 yW.isMap hw hg, ?_⟩
     have h5:w5.ranges Tryz.prog 9 cS mb (w.heap.size+1) n D (fun z=>left z&& !z.sameKey (aY t.nm)) KZ:=Js.kept (row:=none) ⟨ls.os,ls.tape,ls.output,ls.size,fun i hi _=>ls.block i hi⟩ (by simp) (by simp)
     exact(h5.alloc _).kept hg (fun e=>by have:=Option.some.inj e;omega) (fun e=>by have:=Option.some.inj e;omega)
    have MS:Hid (∀W,Below w1.heap.size w1 W→Calls Tryz.prog 133 #[.pointer (some ⟨t.g,0,none⟩)] W fun e w5=>∃rd rc w7,e=.returned (.slice rd t.L.length rc)∧w5.cell? ⟨t.g,0,none⟩=some (.string t.nm)∧w5.cell? ⟨t.g,1,none⟩=some (.int .i64 t.pl)∧
     (Instr.mapUpdate 102 (.map (some w.heap.size)) (.string t.nm) (.pointer (some ⟨w5.heap.size,0,none⟩))).run Tryz.prog (w5.alloc (.cells #[.string t.nm,.int .i64 t.pl,.slice rd t.L.length rc] 125))=.ok () w7∧w7.cell? ⟨t.g,0,none⟩=some (.string t.nm)∧w7.cell? ⟨t.g,1,none⟩=some (.int .i64 t.pl)∧
     Hid (∃N',lI w w7 w.heap.size G (jS (fun z=>left z&& !z.sameKey (aY t.nm)) G) N'∧w7.ranges Tryz.prog 9 cS mb (w.heap.size+1) n D (fun z=>left z&& !z.sameKey (aY t.nm)) KZ)):=by
     intro W hW
     refine(wM W t.g _ _ _ _ _ _ _ (hT.below hW) TG).mono ?_
     rintro e w5 ⟨rd,rc,rfl,q1,q2⟩
     have ls:Below w1.heap.size w1 w5:=hW.trans (q2.mono hW.size)
     have hT5:=(hT.below ls).lB
     have Zi:w5.ownsMap Tryz.prog 9 cS w.heap.size N.length D2:=by
      obtain⟨es,ck,hb,hr⟩:=yW
      exact⟨es,ck,by rw[ls.block _ (lt_of_heap hb)];exact hb,hr⟩
     obtain⟨w7,OE,r1,r2⟩:=(Zi.alloc (.cells #[.string t.nm,.int .i64 t.pl,.slice rd t.L.length rc] 125)).update Tryz.gD Tryz.underlying102 (by unfold maxLen;omega) QD (val:=.pointer (some ⟨w5.heap.size,0,none⟩)) (d:=.lit (.int .i64 (w5.heap.size:Nat))) (ps:=[]) (by rfl)
     obtain⟨N',s1,s2⟩:=vo w5 w7 rd rc ⟨ls,aN q1 hW.size⟩ r1 r2
     have SX:=cl.lB ((HG.out.bX t ht).below s1.be)
     exact⟨rd,rc,w7,rfl,hT5.2.2.2,hT5.2.2.1,OE,SX.2.2.2,SX.2.2.1,N',s1,s2⟩
    have HLE:Hid (wr.rangeLeft mb (w.heap.size+1)=jG):=WY.left_eq
    have HLH:Hid (∀kl,left kl=true→has D kl=true):=Wq
    generalize hL:t.L.length=tl at MS
    generalize t.nm=nm at*
    generalize t.pl=pl at*
    generalize t.g=tg at*
    clear vo Js Pz hT c2 f2 SO WY fA kW sJ hRc QD aj Wq yW hD2 hL TG
    go_wp2_with fail
    go_region_held3 (fun w'=>w'.cell? ⟨tg,0,none⟩=some (.string nm)∧w'.cell? ⟨tg,1,none⟩=some (.int .i64 pl)) (go_keep) ((go_at_call 133;refine(MS.out _ (by exact(Below.refl _ _).drew)).mono ?_;rintro e w5 ⟨rd,rc,w7,rfl,c50,c51,hmu,c70,c71,Yg⟩))
    go_wp2_with fail
    go_roundw
    case rel=>
     obtain⟨N',r1,r2⟩:=Yg.out
     exact⟨_,KZ,N',r2,fun kl h=>HLH.out kl (by simp at h;exact h.1),r1⟩
    case measure=>
     obtain⟨N',r1,r2⟩:=Yg.out
     rw[r2.left_eq,HLE.out]
     exact aC
end
/- Package follow: hold. -/
section
open Go.RowKit Go.Maps Go.WideMaps Go.WideElems
open Go.Sort (grow)
theorem Tryz.NQ:(Tryz.prog.info? 325).map (fun i=>(i.zero,i.size,i.bytes))=some (some (.agg #[.string ByteArray.empty,.string ByteArray.empty,.string ByteArray.empty,.string ByteArray.empty]),4,64):=by kernel_rfl
theorem Tryz.Cz(w:World):(zeroValue 97).run Tryz.prog w=.ok (.pointer none) w:=by kernel_rfl
def A4(w w':World)(fd:Option Addr)(fc n:Nat):Prop:=∀b,Value.ownBlock (.slice fd n fc)=some b→(∃cur,w'.heap[b]?=some (.cells cur 325 (0,0)))∧∀j,j<n*4→w'.cell? ⟨b,j,none⟩=w.cell? ⟨b,j,none⟩
structure iH(w w':World)(sb mb:Nat)(rv:Value)(fd:Option Addr)(fc:Nat)(T:List HT)(s s':En.cU En.bE):Prop where
 on:∃O8 N5 T',mP w' sb mb rv O8 N5 T' s'∧T'.map HT.key=T.map HT.key∧(∀b,b∈dC sb O8 N5 s'.found.length T'→b∈dC sb fd fc s.found.length T∨w.heap.size≤b)
 kept:Kb (dC sb fd fc s.found.length T) w w'
 cells:A4 w w' fd fc s.found.length
theorem xn{sb:Nat}{fd:Option Addr}{fc n:Nat}{A B:List HT}{t:HT}{b:Nat}(hb:b∈t.bU):b∈dC sb fd fc n (A++t::B):=by
 unfold dC
 simp only[List.mem_cons,List.mem_append,List.mem_flatMap]
 exact .inr (.inr ⟨t,by simp,hb⟩)
theorem Bk{w:World}{sb:Nat}{fd O8:Option Addr}{fc N5 n n':Nat}{A B:List HT}{t t':HT}(hf:cn w (.slice fd n fc) (.slice O8 n' N5))(ht:∀b,b∈t'.bU→b∈t.bU∨w.heap.size≤b){b:Nat}(hb:b∈dC sb O8 N5 n' (A++t'::B)):b∈dC sb fd fc n (A++t::B)∨w.heap.size≤b:=by
 unfold dC at hb ⊢
 rcases List.mem_cons.1 hb with rfl | hb
 · exact .inl (by simp)
 · rcases List.mem_append.1 hb with hb | hb
   · rw[Option.mem_toList]at hb
     rcases hf b hb with e | e
     · exact .inl (by simp only[List.mem_cons,List.mem_append,Option.mem_toList];exact .inr (.inl e))
     · exact .inr e
   · obtain⟨u,hu,cM⟩:=List.mem_flatMap.1 hb
     rcases List.mem_append.1 hu with hu | hu
     · exact .inl (by simp only[List.mem_cons,List.mem_append,List.mem_flatMap];exact .inr (.inr ⟨u,by simp[hu],cM⟩))
     · rcases List.mem_cons.1 hu with rfl | hu
       · rcases ht b cM with e | e
         · exact .inl (xn e)
         · exact .inr e
       · exact .inl (by simp only[List.mem_cons,List.mem_append,List.mem_flatMap];exact .inr (.inr ⟨u,by simp[hu],cM⟩))
theorem qH{w w1:World}{sb mb:Nat}{rv:Value}{fd:Option Addr}{fc:Nat}{A B:List HT}{t:HT}{s:En.cU En.bE}(h0:mP w sb mb rv fd fc (A++t::B) s)(hk:Kb t.bU w w1){b:Nat}(hb:Value.ownBlock (.slice fd s.found.length fc)=some b):w1.heap[b]?=w.heap[b]?:=by
 obtain⟨cur,e⟩:=ay h0.CM hb
 rw[hk.block b (lt_of_heap e)]
 intro hc
 obtain⟨oJ,U,e',hU⟩:=(h0.bX t (by simp)).types hc
 rw[e]at e'
 simp only[Option.some.injEq,Obj.cells.injEq]at e'
 rcases hU with rfl | rfl | rfl<;>cases e'.2.1
theorem RC{w w1:World}{sb mb:Nat}{rv:Value}{fd:Option Addr}{fc:Nat}{A B:List HT}{t t':HT}{s s':En.cU En.bE}(hs:s'.found=s.found)(h0:mP w sb mb rv fd fc (A++t::B) s)(h:Ou w1 sb mb rv fd fc (A++t'::B) s.found s')(hk:Kb t.bU w w1)(ht:∀b,b∈t'.bU→b∈t.bU∨w.heap.size≤b)(mF:t'.key=t.key):
 iH w w1 sb mb rv fd fc (A++t::B) s s' where
 on:=by
  refine⟨fd,fc,A++t'::B,⟨by rw[hs];exact h.da,h.map,by rw[hs];exact h.CM,h.bX,h.apart,h.names,h.rows,h.vq,h.zero,h.three,h.short⟩,by simp[mF], ?_⟩
  intro b hb
  rw[hs]at hb
  exact Bk (cn.refl _ _) ht hb
 kept:=hk.mono fun i hi _=>xn hi
 cells:=fun b hb=>⟨by obtain⟨cur,e⟩:=ay h0.CM hb;exact⟨cur,(qH h0 hk hb).trans e⟩,fun j _=>World.cell?_of_block (qH h0 hk hb)⟩
theorem RX{w w1 W w2:World}{sb mb:Nat}{rv:Value}{fd:Option Addr}{fc:Nat}{A B:List HT}{t t':HT}{s s':En.cU En.bE}{f:En.bE}(hs:s'.found=s.found++[f])(h0:mP w sb mb rv fd fc (A++t::B) s)(h:Ou w1 sb mb rv fd fc (A++t'::B) s.found s')(hk:Kb t.bU w w1)(ht:∀b,b∈t'.bU→b∈t.bU∨w.heap.size≤b)(mF:t'.key=t.key)
 (hW:Below w1.heap.size w1 W){g cap:Nat}(aj:w2.ownsRow 0 325 4 (.slice (some ⟨g,0,none⟩) (s.found.length+1) cap) (s.found.length+1) (cm s.found++qt f))(dL:W.grownBy w2 (Value.ownBlock (.slice fd s.found.length fc)))(RY:cn W (.slice fd s.found.length fc) (.slice (some ⟨g,0,none⟩) (s.found.length+1) cap))
 (uw:∀b:Nat,Value.ownBlock (.slice fd s.found.length fc)=some b→(∃cur,w2.heap[b]?=some (.cells cur 325 (0,0)))∧∀j,j<s.found.length*4→w2.cell? ⟨b,j,none⟩=W.cell? ⟨b,j,none⟩):
 iH w (w2.setCell ⟨sb,2,none⟩ (.slice (some ⟨g,0,none⟩) (s.found.length+1) cap)) sb mb rv fd fc (A++t::B) s s':=by
 have hlen:s'.found.length=s.found.length+1:=by rw[hs];simp
 have ml:Kb (Value.ownBlock (.slice fd s.found.length fc)).toList W w2:=Kb.dK dL
 have hfW:W.ownsRow 0 325 4 (.slice fd s.found.length fc) s.found.length (cm s.found):=af h.CM hW
 have hty:∀b,b∈(Value.ownBlock (.slice fd s.found.length fc)).toList→∃cur,W.heap[b]?=some (.cells cur 325 (0,0)):=by
  intro b hb
  rw[Option.mem_toList]at hb
  exact ay hfW hb
 have S9:W.heap[sb]?=some (.cells #[rv,.map (some mb),.slice fd s.found.length fc] 322 (0,0)):=by rw[hW.block _ (lt_of_heap h.da)];exact h.da
 have Tt:w2.heap[sb]?=some (.cells #[rv,.map (some mb),.slice fd s.found.length fc] 322 (0,0)):=by
  refine ml.heap S9 ?_
  intro hc
  obtain⟨cur,e⟩:=hty sb hc
  rw[S9]at e
  cases e
 have sj:=Kb.setCell w2 ⟨sb,2,none⟩ (.slice (some ⟨g,0,none⟩) (s.found.length+1) cap)
 have rq:Kb (Value.ownBlock (.slice fd s.found.length fc)).toList w1 w2:=(Kb.bG hW _).trans ml
 have ju:Kb (sb::(Value.ownBlock (.slice fd s.found.length fc)).toList) w1 (w2.setCell ⟨sb,2,none⟩ (.slice (some ⟨g,0,none⟩) (s.found.length+1) cap)):=by
  refine Kb.trans' (rq.mono fun i hi _=>List.mem_cons_of_mem _ hi) sj ?_
  intro i hi _
  simp only[List.mem_singleton]at hi
  subst hi
  simp
 have kW:w.heap.size≤w1.heap.size:=hk.size
 refine⟨⟨some ⟨g,0,none⟩,cap,A++t'::B,⟨?_, ?_, ?_, ?_,h.apart,h.names,h.rows,h.vq,h.zero,h.three,h.short⟩,by simp[mF], ?_⟩, ?_, ?_⟩
 · rw[an w2 Tt,hlen]
   rfl
 · refine h.map.kept ju ?_
   intro hc
   obtain⟨es,ck,eb⟩:=h.map.block
   rcases List.mem_cons.1 hc with rfl | hc
   · rw[h.da]at eb;cases eb
   · rw[Option.mem_toList]at hc
     obtain⟨cur,e⟩:=ay h.CM hc
     rw[eb]at e
     cases e
 · rw[hlen,hs]
   have e:cm (s.found++[f])=cm s.found++qt f:=by simp[cm]
   rw[e]
   refine sj.row aj ?_
   intro b hb hc
   simp only[List.mem_singleton]at hc
   obtain⟨cur,e⟩:=ay aj hb
   rw[hc,Tt]at e
   cases e
 · intro u hu
   refine(h.bX u hu).kept ju ?_
   intro b hb hc
   obtain⟨cur,U,e,hU⟩:=(h.bX u hu).types hb
   rcases List.mem_cons.1 hc with rfl | hc
   · rw[h.da]at e
     simp only[Option.some.injEq,Obj.cells.injEq]at e
     rcases hU with rfl | rfl | rfl<;>cases e.2.1
   · rw[Option.mem_toList]at hc
     obtain⟨oJ,e'⟩:=ay h.CM hc
     rw[e]at e'
     simp only[Option.some.injEq,Obj.cells.injEq]at e'
     rcases hU with rfl | rfl | rfl<;>cases e'.2.1
 · intro b hb
   refine Bk (t:=t) (t':=t') ?_ ht hb
   intro x hx
   rcases RY x hx with e | e
   · exact .inl e
   · exact .inr (Nat.le_trans (Nat.le_trans kW hW.size) e)
 · refine Kb.trans' (hk.mono fun i hi _=>xn hi) ju ?_
   intro i hi _
   unfold dC
   rcases List.mem_cons.1 hi with rfl | hi
   · simp
   · simp only[List.mem_cons,List.mem_append]
     exact .inr (.inl hi)
 · intro b hb
   obtain⟨cur,e0⟩:=ay h0.CM hb
   obtain⟨ajg,e1⟩:=ay h.CM hb
   have YK:b≠sb:=by
    rintro rfl
    rw[h0.da]at e0
    cases e0
   obtain⟨⟨acV,e2⟩,My⟩:=uw b hb
   refine⟨⟨acV,(Below.heap_setCell _ _ _ _ YK).trans e2⟩,fun j hj=> ?_⟩
   have c1:w1.cell? ⟨b,j,none⟩=w.cell? ⟨b,j,none⟩:=World.cell?_of_block (qH h0 hk hb)
   have c2:W.cell? ⟨b,j,none⟩=w1.cell? ⟨b,j,none⟩:=hW.cell (lt_of_heap e1)
   rw[←c1,←c2,←My j hj]
   exact World.cell?_of_block (Below.heap_setCell _ _ _ _ YK)
theorem iH.trans{w w1 w2:World}{sb mb:Nat}{rv:Value}{fd vS:Option Addr}{fc vZ:Nat}{T T1:List HT}{s s1 s2:En.cU En.bE}(h0:mP w sb mb rv fd fc T s)(hm:mP w1 sb mb rv vS vZ T1 s1)(mF:T1.map HT.key=T.map HT.key)(MQ:∀b,b∈dC sb vS vZ s1.found.length T1→b∈dC sb fd fc s.found.length T∨w.heap.size≤b)
 (hk:Kb (dC sb fd fc s.found.length T) w w1)(hc:A4 w w1 fd fc s.found.length)(hlen:s.found.length≤s1.found.length)(h2:iH w1 w2 sb mb rv vS vZ T1 s1 s2):iH w w2 sb mb rv fd fc T s s2 where
 on:=by
  obtain⟨TC,Tk,T2,a,b,c⟩:=h2.on
  refine⟨TC,Tk,T2,a,b.trans mF,fun x hx=> ?_⟩
  rcases c x hx with e | e
  · exact MQ x e
  · exact .inr (Nat.le_trans hk.size e)
 kept:=hk.trans' h2.kept fun i hi aC=>by
  rcases MQ i hi with e | e
  · exact e
  · omega
 cells:=by
  intro b hb
  obtain⟨⟨cur,e⟩,My⟩:=hc b hb
  by_cases aj:Value.ownBlock (.slice vS s1.found.length vZ)=some b
  · obtain⟨t2,c2⟩:=h2.cells b aj
    exact⟨t2,fun j hj=>(c2 j (by omega)).trans (My j hj)⟩
  · have hnf:¬b∈dC sb vS vZ s1.found.length T1:=by
     intro fk
     unfold dC at fk
     rcases List.mem_cons.1 fk with rfl | fk
     · rw[hm.da]at e;cases e
     · rcases List.mem_append.1 fk with fk | fk
       · rw[Option.mem_toList]at fk
         exact aj fk
       · obtain⟨u,hu,hbu⟩:=List.mem_flatMap.1 fk
         obtain⟨oJ,U,e',hU⟩:=(hm.bX u hu).types hbu
         rw[e]at e'
         simp only[Option.some.injEq,Obj.cells.injEq]at e'
         rcases hU with rfl | rfl | rfl<;>cases e'.2.1
    have Tx:=h2.kept.block b (lt_of_heap e) hnf
    exact⟨⟨cur,Tx.trans e⟩,fun j hj=>(World.cell?_of_block Tx).trans (My j hj)⟩
theorem iH.refl{w:World}{sb mb:Nat}{rv:Value}{fd:Option Addr}{fc:Nat}{T:List HT}{s:En.cU En.bE}(h:mP w sb mb rv fd fc T s):iH w w sb mb rv fd fc T s s where
 on:=⟨fd,fc,T,h,rfl,fun _ hb=>.inl hb⟩
 kept:=Kb.refl _ _
 cells:=fun b hb=>⟨ay h.CM hb,fun _ _=>rfl⟩
end
end Go.Proofs.YtdmicblafmhflaaGreatDoor
