/- Package follow: Model: what it begins with, and how it goes on. -/
import Derived.Test.YtdmicblafmhflaaGreatDoorC27
import Derived.Test.YtdmicblafmhflaaGreatDoorC24
import Derived.Test.YtdmicblafmhflaaGreatDoorC28
set_option linter.unusedSimpArgs false
set_option linter.unusedVariables false
namespace Go.Proofs.YtdmicblafmhflaaGreatDoor
namespace En
theorem Mj{F:Type}(k:Nat)(P:List F)(z:F):(n9 k P z).length≤2*P.length+1:=by
 unfold n9
 split
 · simp
 · simp
 · simp;omega
theorem AQ{F:Type}(P:List F)(z:F):∀R:List (dP F),(mm R P z).length≤R.length*(2*P.length+1)
 | []=>by simp[mm]
 | r::R=>by
  have ih:=AQ P z R
  have h1:=Mj r.k P z
  have h2:=List.length_filterMap_le r.inst (n9 r.k P z)
  unfold mm at ih ⊢
  rw[List.flatMap_cons,List.length_append,List.length_cons,Nat.add_mul]
  omega
theorem Jh{F:Type}:∀R:List (dP F),(Tw R).length≤R.length
 | []=>Nat.le_refl _
 | r::R=>by
  have ih:=Jh R
  unfold Tw at ih ⊢
  rw[List.flatMap_cons,List.length_append,List.length_cons]
  have:(if r.k=0 then (r.inst []).toList else []).length≤1:=by
   split
   · cases r.inst []<;>simp
   · simp
  omega
section
variable {F : Type} [DecidableEq F]
theorem Bo(s:cU F)(f:F)(n:Nat):(hold s f n).found.length≤s.found.length+1:=by
 unfold hold
 simp only
 split<;>simp
theorem qF:∀(l:List F) (s:cU F),(holds s l).found.length≤s.found.length+l.length∧∀f,(holds s l).count f≤s.count f+l.length
 | [],s=>⟨Nat.le_refl _,fun _=>Nat.le_refl _⟩
 | x::l,s=>by
  obtain⟨h1,h2⟩:=qF l (hold s x 1)
  have h3:=Bo s x 1
  rw[kJ,List.length_cons]
  refine⟨by omega,fun f=> ?_⟩
  have h4:=h2 f
  rw[iO]at h4
  split at h4<;>omega
theorem mH:∀(l:List F) (s:cU F),(cK s l).found.length≤s.found.length+l.length
 | [],s=>Nat.le_refl _
 | x::l,s=>by
  have h1:=mH l (hold s x 0)
  have h3:=Bo s x 0
  rw[qw,List.length_cons]
  omega
theorem D7:∀(l:List F) (s:cU F),s.found.length≤(cK s l).found.length
 | [],s=>Nat.le_refl _
 | x::l,s=>by
  have h1:=D7 l (hold s x 0)
  have h3:s.found.length≤(hold s x 0).found.length:=by
   unfold hold
   simp only
   split<;>simp
  rw[qw]
  omega
theorem GA(s:cU F)(l:List F)(f:F):cK s (l++[f])=hold (cK s l) f 0:=by simp[cK]
theorem lL(l:List F)(s:cU F)(f:F):(cK s l).count f=s.count f:=(qv l s).2.2 f
theorem Ag{R:List (dP F)}{fuel n:Nat}{s:cU F}(h1:n<s.found.length)(h2:s.found.length≤200):search R 200 (fuel+1) n s=search R 200 fuel (n+1) (meet R s n):=by
 rw[search,if_pos h1,if_neg (by omega)]
theorem uQ{R:List (dP F)}{fuel n:Nat}{s:cU F}(h1:n<s.found.length)(h2:200<s.found.length):search R 200 (fuel+1) n s=none:=by
 rw[search,if_pos h1,if_pos h2]
theorem xU{R:List (dP F)}{fuel n:Nat}{s:cU F}(h1:¬n<s.found.length):search R 200 (fuel+1) n s=some s:=by
 rw[search,if_neg h1]
theorem Si{R:List (dP F)}{n:Nat}{s:cU F}(h:n<s.found.length):meet R s n=holds s (mm R (s.found.take n) s.found[n]):=by
 unfold meet
 rw[List.getElem?_eq_getElem h]
end
end En
section
open Go.RowKit Go.Maps Go.WideMaps Go.WideElems
def rowsOf(G:List GT)(p:ByteArray):List (List ByteArray):=match G.find? fun t=>decide (t.nm=p)with
 | some t=>t.L
 | none=>[]
theorem gB{G:List GT}(hn:(G.map GT.nm).Nodup){t:GT}(ht:t∈G):rowsOf G t.nm=t.L:=by
 induction G with
 | nil=>cases ht
 | cons a G ih=>
  rw[List.map_cons,List.nodup_cons]at hn
  unfold rowsOf
  rw[List.find?_cons]
  rcases List.mem_cons.1 ht with rfl | ht
  · simp
  · have cL:¬a.nm=t.nm:=fun e=>hn.1 (by rw[e];exact List.mem_map.2 ⟨t,ht,rfl⟩)
    simp only[cL,decide_false]
    exact ih hn.2 ht
def cQ(Q:List Pd.Pr)(G:List GT):List En.bE:=Q.flatMap fun p=>(rowsOf G p.1).map fun r=>(p.1,r)
theorem Lm{Q:List Pd.Pr}{k:Nat}(h:k<Q.length)(G:List GT):cQ (Q.take (k+1)) G=cQ (Q.take k) G++(rowsOf G (Q[k]).1).map fun r=>((Q[k]).1,r):=by
 have e:Q.take (k+1)=Q.take k++[Q[k]]:=by rw[List.take_add_one,List.getElem?_eq_getElem h];rfl
 unfold cQ
 rw[e,List.flatMap_append]
 simp
theorem zQ(Q:List Pd.Pr)(k:Nat)(G:List GT):(cQ (Q.take k) G).length≤(cQ Q G).length:=by
 have e:Q=Q.take k++Q.drop k:=(List.take_append_drop k Q).symm
 conv=>rhs;rw[e]
 unfold cQ
 rw[List.flatMap_append,List.length_append]
 omega
theorem GD{l:List MR}(h:∀r,r∈l→r.body.length≤2):(aS (l.map MR.ak)).length≤3*l.length:=by
 induction l with
 | nil=>simp[aS]
 | cons r l ih=>
  have h1:=ih (fun x hx=>h x (by simp[hx]))
  have h2:=h r (by simp)
  unfold aS at h1 ⊢
  simp only[List.map_cons,List.flatMap_cons,List.map_append,List.length_append,List.length_map]at h1 ⊢
  have e:(Ax.aP.atoms r.ak).length=r.body.length+1:=by simp[Ax.aP.atoms,MR.ak]
  rw[e,List.length_cons]
  omega
theorem dS{Q:List Pd.Pr}(h:Pd.lX Q):(Q.map Prod.fst).Nodup:=by
 refine List.Pairwise.map _ ?_ h
 intro a b pS e
 rw[e,Tb.nP]at pS
 cases pS
theorem tV{Q:List Pd.Pr}(h:Pd.lX Q):Q.Nodup:=by
 refine List.Pairwise.imp ?_ h
 intro a b pS e
 rw[e,Tb.nP]at pS
 cases pS
theorem NC{Q:List Pd.Pr}{G:List GT}(hG:∀t,t∈G→t.L.length≤1000):(cQ Q G).length≤1000*Q.length:=by
 have hr:∀p,(rowsOf G p).length≤1000:=by
  intro p
  unfold rowsOf
  split
  · rename_i t ht
    exact hG t (List.mem_of_find?_eq_some ht)
  · simp
 induction Q with
 | nil=>simp[cQ]
 | cons p Q ih=>
  unfold cQ at ih ⊢
  rw[List.flatMap_cons,List.length_append,List.length_map,List.length_cons]
  have:=hr p.1
  omega
theorem Qd{T T0:List HT}(h:T.map HT.key=T0.map HT.key):T.map iR=T0.map iR:=by
 have e:∀l:List HT,l.map iR=(l.map HT.key).map fun k=>(k.1,k.2.2):=fun l=>by rw[List.map_map];rfl
 rw[e,e,h]
def cA(mb:Nat)(T:List HT):List Nat:=mb::T.flatMap HT.bU
theorem Lf{sb mb:Nat}{fd:Option Addr}{fc n B:Nat}{T:List HT}(hm:B≤mb)(h:∀b,b∈dC sb fd fc n T→B≤b):∀b,b∈cA mb T→B≤b:=by
 intro b hb
 unfold cA at hb
 rcases List.mem_cons.1 hb with rfl | hb
 · exact hm
 · refine h b ?_
   unfold dC
   simp only[List.mem_cons,List.mem_append]
   exact .inr (.inr hb)
structure vF(w wr:World)(sb mb:Nat)(rv:Value)(K:List (ByteArray×Nat×Nat))(s:En.cU En.bE):Prop where
 at_:∃fd fc T,mP wr sb mb rv fd fc T s∧T.map HT.key=K∧∀b,b∈dC sb fd fc s.found.length T→w.heap.size≤b
 be:Below w.heap.size w wr
theorem vF.on{w wr w':World}{sb mb:Nat}{rv:Value}{K:List (ByteArray×Nat×Nat)}{s s':En.cU En.bE}{fd:Option Addr}{fc:Nat}{T:List HT}(hb:Below w.heap.size w wr)(hk:T.map HT.key=K)(hf:∀b,b∈dC sb fd fc s.found.length T→w.heap.size≤b)(mK:iH wr w' sb mb rv fd fc T s s'):vF w w' sb mb rv K s':=by
 obtain⟨O8,N5,T',h1,h2,h3⟩:=mK.on
 refine⟨⟨O8,N5,T',h1,h2.trans hk,fun b yN=> ?_⟩,mK.kept.aK hb hb.size hf⟩
 rcases h3 b yN with e | e
 · exact hf b e
 · exact Nat.le_trans hb.size e
structure p5(w:World)(mb:Nat)(T:List HT)(s:En.cU En.bE):Prop where
 map:kh w mb (T.map HT.pk)
 bX:∀t,t∈T→t.ok w
 names:(T.map HT.nm).Nodup
 rows:∀t,t∈T→∀r,r∈t.L↔(t.nm,r)∈s.found
 vq:∀t,t∈T→t.C=t.L.map fun r=>s.count (t.nm,r)
 zero:∀f,¬f∈s.found→s.count f=0
 short:∀t,t∈T→t.nm.size≤1000000
 oo:∀t,t∈T→t.L.length≤s.found.length
theorem mP.toH{w:World}{sb mb:Nat}{rv:Value}{fd:Option Addr}{fc:Nat}{T:List HT}{s:En.cU En.bE}(h:mP w sb mb rv fd fc T s):p5 w mb T s:=⟨h.map,h.bX,h.names,h.rows,h.vq,h.zero,h.short,fun _ ht=>As h ht⟩
theorem p5.below{w w':World}{mb:Nat}{T:List HT}{s:En.cU En.bE}(h:p5 w mb T s)(hb:Below w.heap.size w w'):p5 w' mb T s:=⟨h.map.below hb,fun t ht=>(h.bX t ht).below hb,h.names,h.rows,h.vq,h.zero,h.short,h.oo⟩
theorem p5.kept{w w':World}{S:List Nat}{mb:Nat}{T:List HT}{s:En.cU En.bE}(h:p5 w mb T s)(hk:Kb S w w')(hS:∀b,b∈cA mb T→¬b∈S):p5 w' mb T s:=by
 refine⟨h.map.kept hk (hS mb (by simp[cA])),fun t ht=>(h.bX t ht).kept hk fun b hb=>hS b ?_,h.names,h.rows,h.vq,h.zero,h.short,h.oo⟩
 unfold cA
 simp only[List.mem_cons,List.mem_flatMap]
 exact .inr ⟨t,ht,hb⟩
theorem p5.lt{w:World}{mb:Nat}{T:List HT}{s:En.cU En.bE}(h:p5 w mb T s){b:Nat}(hb:b∈cA mb T):b<w.heap.size:=by
 unfold cA at hb
 rcases List.mem_cons.1 hb with rfl | hb
 · obtain⟨es,ck,e⟩:=h.map.block
   exact lt_of_heap e
 · obtain⟨t,ht,hb⟩:=List.mem_flatMap.1 hb
   exact(h.bX t ht).lt hb
theorem DF{w1 W w2:World}(hW:W.heap=(w1.alloc (.cells #[.slice none 0 0,.map none,.slice none 0 0] 322)).heap)(h:Below W.heap.size W w2):
 w2.heap[w1.heap.size]?=some (.cells #[.slice none 0 0,.map none,.slice none 0 0] 322 (0,0))∧w2.cell? ⟨w1.heap.size,0,none⟩=some (.slice none 0 0)∧w2.cell? ⟨w1.heap.size,1,none⟩=some (.map none)∧w2.cell? ⟨w1.heap.size,2,none⟩=some (.slice none 0 0)∧
  w2.frozen? ⟨w1.heap.size,0,none⟩=false∧w2.frozen? ⟨w1.heap.size,1,none⟩=false∧w2.frozen? ⟨w1.heap.size,2,none⟩=false∧w1.heap.size<w2.heap.size:=by
 have hz:w2.heap[w1.heap.size]?=some (.cells #[.slice none 0 0,.map none,.slice none 0 0] 322 (0,0)):=by
  rw[h.block _ (by rw[hW];simp),hW]
  exact heap_alloc_new _ _
 refine⟨hz, ?_, ?_, ?_, ?_, ?_, ?_,lt_of_heap hz⟩
 · rw[cell_of_row _ _ 0 _ _ _ hz];rfl
 · rw[cell_of_row _ _ 1 _ _ _ hz];rfl
 · rw[cell_of_row _ _ 2 _ _ _ hz];rfl
 · simp[World.frozen?,hz]
 · simp[World.frozen?,hz]
 · simp[World.frozen?,hz]
theorem uY{W w2 w3:World}{mb:Nat}{Q:List Pd.Pr}{T:List HT}{rv:Value}(hT:kM W w2 mb Q.length Q T)(hn:(Q.map Prod.fst).Nodup)(hs:∀p,p∈Q→p.1.size≤1000000)(hq:Q.length≤1000){sb:Nat}(hk:Kb [sb] w2 w3)(hsb:sb<mb∨w2.heap.size≤sb)(hblk:w3.heap[sb]?=some (.cells #[rv,.map (some mb),.slice none 0 0] 322 (0,0))):
 mP w3 sb mb rv none 0 T En.cw∧∀b,b∈dC sb none 0 0 T→b=sb∨mb<b:=by
 obtain⟨D,aj,hD⟩:=hT.map
 have P6:=aj.lt
 have iG:T.map HT.nm=(Q.map Prod.fst).reverse:=by
  have:=congrArg (List.map Prod.fst) hT.mS
  rw[List.map_map,List.take_length,List.map_reverse]at this
  exact this
 have hL:∀t,t∈T→t.L=[]∧t.C=[]∧t.bU=[t.g]∧mb<t.g:=by
  intro t ht
  obtain⟨_,p,g,rfl,hg⟩:=hT.bX t ht
  exact⟨rfl,rfl,rfl,hg⟩
 refine⟨⟨hblk,(kh.of aj ?_ hD).kept hk ?_,World.ownsRow_nil _ _ _ _,fun t ht=>(hT.bX t ht).1.kept hk ?_,hT.apart, ?_, ?_, ?_,fun _ _=>rfl, ?_, ?_⟩, ?_⟩
 · omega
 · simp;omega
 · intro b hb
   have h1:=(hT.bX t ht).1.lt hb
   rw[(hL t ht).2.2.1,List.mem_singleton]at hb
   have h2:=(hL t ht).2.2.2
   simp;omega
 · rw[iG]
   exact(List.reverse_perm _).nodup_iff.2 hn
 · intro t ht r
   rw[(hL t ht).1]
   simp[En.cw]
 · intro t ht
   rw[(hL t ht).1,(hL t ht).2.1]
   rfl
 · intro f hf
   simp[En.cw]at hf
 · intro t ht
   have:t.nm∈T.map HT.nm:=List.mem_map.2 ⟨t,ht,rfl⟩
   rw[iG,List.mem_reverse]at this
   obtain⟨p,hp,e⟩:=List.mem_map.1 this
   rw[←e]
   exact hs p hp
 · intro b hb
   unfold dC at hb
   rcases List.mem_cons.1 hb with rfl | hb
   · exact .inl rfl
   · simp only[Value.ownBlock,Option.toList_none,List.nil_append,List.mem_flatMap]at hb
     obtain⟨t,ht,hb⟩:=hb
     rw[(hL t ht).2.2.1,List.mem_singleton]at hb
     rw[hb]
     exact .inr (hL t ht).2.2.2
end
/- Package follow: Model, walked. -/
section
open Go.RowKit Go.Maps Go.WideMaps Go.WideElems
open Go.Sort (grow)
theorem Tryz.CH(w:World):(zeroValue 122).run Tryz.prog w=.ok (.pointer none) w:=by kernel_rfl
def mstart(rs:List Ax.aP)(gl:List En.bE):En.cU En.bE:=En.holds (En.cK En.cw gl) (rs.flatMap En.eE)
def cg(rs:List Ax.aP)(gl:List En.bE):Option (En.cU En.bE):=En.search (rs.map En.cp) 200 202 0 (mstart rs gl)
structure TT(w1:World)(rv:Value)(Q:List Pd.Pr)(v:Value)(wx:World):Prop where
 out:∃sb mb T,v=.pointer (some ⟨sb,0,none⟩)∧mP wx sb mb rv none 0 T En.cw∧T.map iR=Q.reverse∧w1.heap.size≤mb∧(∀b,b∈dC sb none 0 0 T→w1.heap.size≤b)∧Below w1.heap.size w1 wx
theorem Vw{w1 W w2:World}{Q:List Pd.Pr}{T:List HT}{rv:Value}(hT:kM W w2 W.heap.size Q.length Q T)(hW:W.heap.size=w1.heap.size)(hb:Below w1.heap.size w1 W)(hn:(Q.map Prod.fst).Nodup)(hs:∀p,p∈Q→p.1.size≤1000000)(hq:Q.length≤1000):
 TT w1 rv Q (.pointer (some ⟨w2.heap.size,0,none⟩)) (w2.alloc (.cells #[rv,.map (some w1.heap.size),.slice none 0 0] 322)):=by
 rw[hW]at hT
 have oq:=hT.be
 obtain⟨h1,h2⟩:=uY (rv:=rv) (sb:=w2.heap.size) hT hn hs hq ((Kb.refl _ _).alloc _) (.inr (Nat.le_refl _)) (heap_alloc_new _ _)
 refine⟨_,_,T,rfl,h1,by rw[hT.mS,List.take_length],Nat.le_refl _,fun b yN=> ?_, ?_⟩
 · rcases h2 b yN with e | e
   · rw[e];have:=oq.size;omega
   · omega
 · exact(hb.trans (oq.mono (by omega))).alloc (by have:=oq.size;omega) _
theorem M5{w1 W w2:World}{Q:List Pd.Pr}{T:List HT}{rv:Value}(hT:kM W w2 W.heap.size Q.length Q T)(hW:W.heap.size=w1.heap.size+1)(hb:Below w1.heap.size w1 W)(hz:w2.heap[w1.heap.size]?=some (.cells #[.slice none 0 0,.map none,.slice none 0 0] 322 (0,0)))(hn:(Q.map Prod.fst).Nodup)(hs:∀p,p∈Q→p.1.size≤1000000)(hq:Q.length≤1000):
 TT w1 rv Q (.pointer (some ⟨w1.heap.size,0,none⟩)) (((w2.setCell ⟨w1.heap.size,0,none⟩ rv).setCell ⟨w1.heap.size,1,none⟩ (.map (some (w1.heap.size+1)))).setCell ⟨w1.heap.size,2,none⟩ (.slice none 0 0)):=by
 rw[hW]at hT
 have oq:=hT.be
 have k1:Kb [w1.heap.size] w2 (((w2.setCell ⟨w1.heap.size,0,none⟩ rv).setCell ⟨w1.heap.size,1,none⟩ (.map (some (w1.heap.size+1)))).setCell ⟨w1.heap.size,2,none⟩ (.slice none 0 0)):=((Kb.setCell w2 ⟨w1.heap.size,0,none⟩ rv).trans (Kb.setCell _ ⟨w1.heap.size,1,none⟩ _)).trans (Kb.setCell _ ⟨w1.heap.size,2,none⟩ _)
 have hblk:(((w2.setCell ⟨w1.heap.size,0,none⟩ rv).setCell ⟨w1.heap.size,1,none⟩ (.map (some (w1.heap.size+1)))).setCell ⟨w1.heap.size,2,none⟩ (.slice none 0 0)).heap[w1.heap.size]?=some (.cells #[rv,.map (some (w1.heap.size+1)),.slice none 0 0] 322 (0,0)):=by
  rw[an _ (an _ (an w2 hz 0 rv) 1 _) 2]
  rfl
 obtain⟨h1,h2⟩:=uY (rv:=rv) (sb:=w1.heap.size) hT hn hs hq k1 (.inl (by omega)) hblk
 refine⟨_,_,T,rfl,h1,by rw[hT.mS,List.take_length],by omega,fun b yN=> ?_, ?_⟩
 · rcases h2 b yN with e | e
   · omega
   · omega
 · exact k1.aK (hb.trans (oq.mono (by omega))) (by have:=oq.size;omega) (by simp)
structure VP(w1:World)(rs:List Ax.aP)(Q:List Pd.Pr)(G:List GT)(e:Ending)(w':World):Prop where
 be:Below w1.heap.size w1 w'
 ans:(∃hm T s,e=.returned (.tuple #[.map (some hm),.bool true])∧cg rs (cQ Q G)=some s∧p5 w' hm T s∧T.map iR=Q.reverse∧(∀b,b∈cA hm T→w1.heap.size≤b))∨
  (e=.returned (.tuple #[.map none,.bool false])∧cg rs (cQ Q G)=none)
structure Jc(w1 wr:World)(sb mb:Nat)(rv:Value)(K:List (ByteArray×Nat×Nat))(R:List (En.dP En.bE))(n:Nat)(s:En.cU En.bE)(vk:Option (En.cU En.bE)):Prop where
 rel:vF w1 wr sb mb rv K s
 res:En.search R 200 (202-n) n s=vk
 le:n≤200
 found:s.found.length≤30000
 count:∀f,s.count f≤8+n*4000
theorem zK{l:List MR}(CS:l.length≤8){gl:List En.bE}(hg:gl.length≤24000):(mstart (l.map MR.ak) gl).found.length≤30000∧∀f,(mstart (l.map MR.ak) gl).count f≤8:=by
 have h1:=En.qF ((l.map MR.ak).flatMap En.eE) (En.cK En.cw gl)
 have h2:((l.map MR.ak).flatMap En.eE).length≤8:=by
  rw[En.pz]
  have:=En.Jh ((l.map MR.ak).map En.cp)
  rw[List.length_map,List.length_map]at this
  omega
 have h3:=En.mH gl (En.cw (F:=En.bE))
 have h4:(En.cw (F:=En.bE)).found.length=0:=rfl
 unfold mstart
 refine⟨by have:=h1.1;omega,fun f=> ?_⟩
 have h5:=h1.2 f
 rw[En.lL]at h5
 have:(En.cw (F:=En.bE)).count f=0:=rfl
 omega
theorem NM{l:List MR}(CS:l.length≤8)(h2:∀r,r∈l→r.body.length≤2){n:Nat}{s:En.cU En.bE}(hn:n<s.found.length)(hf:s.found.length≤200)(hc:∀f,s.count f≤8+n*4000):
 ((l.map MR.ak).flatMap (En.bt (s.found.take n) s.found[n])).length≤3208∧En.holds s ((l.map MR.ak).flatMap (En.bt (s.found.take n) s.found[n]))=En.meet ((l.map MR.ak).map En.cp) s n∧
   (En.meet ((l.map MR.ak).map En.cp) s n).found.length≤30000∧∀f,(En.meet ((l.map MR.ak).map En.cp) s n).count f≤8+(n+1)*4000:=by
 have e:=GR (P:=s.found.take n) (z:=s.found[n]) h2
 have hlen:((l.map MR.ak).flatMap (En.bt (s.found.take n) s.found[n])).length≤3208:=by
  rw[e]
  have h1:=En.AQ (s.found.take n) s.found[n] ((l.map MR.ak).map En.cp)
  simp only[List.length_map,List.length_take]at h1
  have h3:min n s.found.length=n:=Nat.min_eq_left (by omega)
  rw[h3]at h1
  have h4:l.length*(2*n+1)≤8*401:=Nat.mul_le_mul CS (by omega)
  omega
 have hm:En.holds s ((l.map MR.ak).flatMap (En.bt (s.found.take n) s.found[n]))=En.meet ((l.map MR.ak).map En.cp) s n:=by rw[En.Si hn,e]
 have hb:=En.qF ((l.map MR.ak).flatMap (En.bt (s.found.take n) s.found[n])) s
 refine⟨hlen,hm, ?_,fun f=> ?_⟩
 · rw[←hm];have:=hb.1;omega
 · rw[←hm];have h5:=hb.2 f;have h6:=hc f;omega
end
end Go.Proofs.YtdmicblafmhflaaGreatDoor
