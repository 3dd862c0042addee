/- Engine.Apply: what it keeps, how long its log grows. -/
import Derived.Test.YtdmicblafmhflaaGreatDoorC34
set_option linter.unusedSimpArgs false
set_option linter.unusedVariables false
namespace Go.Proofs.YtdmicblafmhflaaGreatDoor
section
open Go.RowKit Go.Maps
def UW(o:Obj):Prop:=∀c t f,o=.cells c t f→t≠109∧t≠5
structure pJ(w w':World):Prop where
 kb:∃S,Kb S w w'∧∀b,b∈S→b<w.heap.size→∃cur t fz,w.heap[b]?=some (.cells cur t fz)∧(t=109∨t=5)
theorem pJ.bF{w w':World}(h:Below w.heap.size w w'):pJ w w':=⟨[],Kb.bF h [],by simp⟩
theorem pJ.pW{w w':World}{x:Nat}(h:Kb [x] w w'){cur:Array Value}{fz:Nat×Nat}(hx:w.heap[x]?=some (.cells cur 109 fz)):pJ w w':=⟨[x],h,fun b hb _=>by
 simp only[List.mem_cons,List.not_mem_nil,or_false]at hb
 subst hb
 exact⟨cur,_,fz,hx,.inl rfl⟩⟩
theorem pJ.Jw{w w':World}{B:Nat}(h:Lib.OthersKept 5 none w w')(hb:Below B w w'):pJ w w':=by
 refine⟨(List.range w.heap.size).filter fun k=>match w.heap[k]? with | some (.cells _ t _)=>decide (t=5) | _=>false,⟨hb.os,hb.tape,hb.output,hb.size, ?_⟩, ?_⟩
 · intro k hk hn
   rw[Array.getElem?_eq_getElem hk]
   refine h k _ (Array.getElem?_eq_getElem hk) (by simp) ?_
   intro c fz e
   refine hn (List.mem_filter.2 ⟨List.mem_range.2 hk, ?_⟩)
   rw[Array.getElem?_eq_getElem hk,e]
   simp
 · intro b xg hl
   have h2:=(List.mem_filter.1 xg).2
   rw[Array.getElem?_eq_getElem hl]at h2 ⊢
   cases ho:w.heap[b]with
   | cells c t f=>
    rw[ho]at h2
    exact⟨c,t,f,rfl,.inr (by simpa using h2)⟩
   | _=>rw[ho]at h2;simp at h2
theorem pJ.heap{w w':World}(h:pJ w w'){k:Nat}{o:Obj}(hk:w.heap[k]?=some o)(ho:UW o):w'.heap[k]?=some o:=by
 obtain⟨S,h1,h2⟩:=h.kb
 refine h1.heap hk ?_
 intro hS
 obtain⟨cur,t,fz,e,ht⟩:=h2 k hS (lt_of_heap hk)
 rw[hk]at e
 obtain⟨a,b⟩:=ho cur t fz (Option.some.inj e)
 rcases ht with rfl | rfl
 · exact a rfl
 · exact b rfl
theorem pJ.trans{w w1 w2:World}(h:pJ w w1)(k:pJ w1 w2):pJ w w2:=by
 obtain⟨S1,a1,a2⟩:=h.kb
 obtain⟨S2,b1,b2⟩:=k.kb
 refine⟨S1++S2,(a1.mono (fun i hi _=>by simp[hi])).trans (b1.mono (fun i hi _=>by simp[hi])), ?_⟩
 intro b hb hl
 by_cases a8:b∈S1
 · exact a2 b a8 hl
 · have cM:b∈S2:=by simpa [a8]using hb
   obtain⟨cur,t,fz,e,ht⟩:=b2 b cM (Nat.lt_of_lt_of_le hl a1.size)
   rw[a1.block b hl a8]at e
   exact⟨cur,t,fz,e,ht⟩
theorem pJ.SG{w w':World}(h:pJ w w'):∃S,Kb S w w'∧∀b o,w.heap[b]?=some o→UW o→¬b∈S:=by
 obtain⟨S,h1,h2⟩:=h.kb
 refine⟨S,h1,fun b o hb ho hS=> ?_⟩
 obtain⟨cur,t,fz,e,ht⟩:=h2 b hS (lt_of_heap hb)
 rw[hb]at e
 obtain⟨x,y⟩:=ho cur t fz (Option.some.inj e)
 rcases ht with rfl | rfl
 · exact x rfl
 · exact y rfl
theorem iF{c:Array Value}{t:TypeId}{f:Nat×Nat}(h1:t≠109)(h2:t≠5):UW (.cells c t f):=fun c' t' f' e=>by
 cases e
 exact⟨h1,h2⟩
theorem lJ.TR{w w':World}{gm:Nat}{G:List GT}(h:lJ w gm G)(hk:pJ w w'):lJ w' gm G:=by
 obtain⟨S,h1,h2⟩:=hk.SG
 refine h.kept h1 ?_
 intro b hb
 unfold eW at hb
 rcases List.mem_cons.1 hb with rfl | hb
 · obtain⟨es,ck,e⟩:=h.map.block
   exact h2 b _ e (fun _ _ _ e=>by cases e)
 · obtain⟨u,hu,hb⟩:=List.mem_flatMap.1 hb
   obtain⟨cur,T,e,hT⟩:=(h.b8 u hu).types hb
   refine h2 b _ e (iF ?_ ?_)
   · rcases hT with rfl | rfl<;>decide
   · rcases hT with rfl | rfl<;>decide
theorem pH.TR{w w':World}{hm:Nat}{T:List HT}{s:En.dB En.cg}(h:pH w hm T s)(hk:pJ w w'):pH w' hm T s:=by
 obtain⟨S,h1,h2⟩:=hk.SG
 refine h.kept h1 ?_
 intro b hb
 unfold cK at hb
 rcases List.mem_cons.1 hb with rfl | hb
 · obtain⟨es,ck,e⟩:=h.map.block
   exact h2 b _ e (fun _ _ _ e=>by cases e)
 · obtain⟨u,hu,hb⟩:=List.mem_flatMap.1 hb
   obtain⟨cur,T,e,hT⟩:=(h.b8 u hu).types hb
   refine h2 b _ e (iF ?_ ?_)
   · rcases hT with rfl | rfl | rfl<;>decide
   · rcases hT with rfl | rfl | rfl<;>decide
theorem aI.TR{w w':World}{rd:Option Addr}{rc:Nat}{l:List MR}(h:aI w rd rc l)(hk:pJ w w'):aI w' rd rc l:=by
 obtain⟨S,h1,h2⟩:=hk.kb
 refine h.kept h1 ?_
 intro b cur U hb e
 obtain⟨jU,t,fz,e2,ht⟩:=h2 b hb (lt_of_heap e)
 rw[e]at e2
 simp at e2
 rw[e2.2.1]
 rcases ht with rfl | rfl<;>decide
theorem Hb{n:Nat}(h:n≤127):(Rc.aQ n).length=1:=by
 unfold Rc.aQ
 rw[if_pos h]
 rfl
theorem EL{t:ByteArray}(h:t.size≤127):(Rc.aC t).length=1+t.size:=by
 unfold Rc.aC
 rw[List.length_append,Hb h]
 rfl
theorem na(i:Nat):(be i).2.length≤2:=by
 have key:∀p x y,(pE p x y).2.length≤2:=by
  intro p x y
  unfold pE
  split<;>simp
 unfold be
 split
 · exact key _ _ _
 · split<;>exact key _ _ _
theorem C6{f:FI}{i:Nat}(hi:i<36)(h1:f.pred=(be i).1)(h2:f.args=(be i).2):(Rc.ft f).length≤10:=by
 have a1:f.pred.size≤3:=by rw[h1];exact dP _ (kL hi)
 have a2:=Rc.gU Rc.aC 3 f.args (fun a ha=>by
  rw[h2]at ha
  have:=(iU i a ha).2
  rw[EL (by omega)]
  omega)
 have a3:f.args.length≤2:=by rw[h2];exact na i
 unfold Rc.ft
 rw[List.length_append,EL (by omega)]
 omega
theorem fI.mem{l:List FI}{is:List Nat}(h:fI l is){f:FI}(hf:f∈l):∃i,i<36∧f.pred=(be i).1∧f.args=(be i).2:=by
 have:(f.pred,f.args)∈is.map be:=by rw[←h.1];exact List.mem_map.2 ⟨f,hf,rfl⟩
 obtain⟨i,hi,e⟩:=List.mem_map.1 this
 exact⟨i,h.2 i hi,by rw[e],by rw[e]⟩
theorem fI.small{l:List FI}{is:List Nat}(h:fI l is)(hl:l.length≤30):nt l where
 DY:=by omega
 kP:=fun f hf=>by
  obtain⟨i,hi,e,_⟩:=h.mem hf
  rw[e]
  exact Nat.le_trans (dP _ (kL hi)) (by decide)
 args:=fun f hf=>by
  obtain⟨i,hi,_,e⟩:=h.mem hf
  rw[e]
  have:=na i
  omega
 names:=fun f hf a ha=>by
  obtain⟨i,hi,_,e⟩:=h.mem hf
  rw[e]at ha
  have:=(iU i a ha).2
  omega
theorem zL{l:List FI}{is:List Nat}(h:fI l is)(hl:l.length≤30):(Rc.kV l).length≤301:=by
 have:=Rc.gU Rc.ft 10 l (fun f hf=>by
  obtain⟨i,hi,e1,e2⟩:=h.mem hf
  exact C6 hi e1 e2)
 unfold Rc.kV
 rw[List.length_append,Hb (by omega)]
 omega
theorem Dk{c g:List FI}{ci gi:List Nat}(h1:fI c ci)(h2:fI g gi)(hc:c.length≤30)(hg:g.length≤30):(Rc.eX c g).length≤602:=by
 have:=zL h1 hc
 have:=zL h2 hg
 unfold Rc.eX
 rw[List.length_append]
 omega
theorem KG{ct:ByteArray}(h:ct.size≤602){hd:List UInt8}(hh:hd.length=32):(Rc.aC ct++hd).length≤1000:=by
 have:=Rc.rG ct.size (by omega)
 unfold Rc.aC
 have e:ct.data.toList.length=ct.size:=by simp
 rw[List.length_append,List.length_append,e]
 omega
end
/- Engine.Apply: its regions' blocks. -/
section
open Go.RowKit Go.Maps
structure AI(w1:World)(b:Option Nat)(W:World):Prop where
 aZ:Below w1.heap.size w1 W
 cT:∀x,b=some x→w1.heap.size≤x∧∃Z,W.heap[x]?=some (.cells Z 107 (0,0))∧Z.size=36
theorem AI.below{w1 W w':World}{b:Option Nat}(h:AI w1 b W)(hb:Below W.heap.size W w'):AI w1 b w':=by
 refine⟨h.aZ.trans (hb.mono h.aZ.size), ?_⟩
 intro x hx
 obtain⟨h1,Z,h2,h3⟩:=h.cT x hx
 exact⟨h1,Z,by rw[hb.block _ (lt_of_heap h2)];exact h2,h3⟩
theorem AI.drew{w1 W:World}{b:Option Nat}(h:AI w1 b W):AI w1 b W.drew:=h.below (Below.refl _ _).drew
theorem AI.alloc{w1 W:World}{Z:Array Value}(h:AI w1 none W)(hz:Z.size=36):AI w1 (some W.heap.size) (W.alloc (.cells Z 107)):=by
 have h2:=h.below (w':=W.alloc (.cells Z 107)) ((Below.refl _ _).alloc (Nat.le_refl _) _)
 refine⟨h2.aZ, ?_⟩
 intro x hx
 simp only[Option.some.injEq]at hx
 subst hx
 exact⟨h.aZ.size,Z,heap_alloc_new _ _,hz⟩
theorem AI.stored{w1 W:World}{x:Nat}{cs:Array Value}(h:AI w1 (some x) W)(hc:cs.size=36):Below w1.heap.size w1 (W.setCells x 0 cs.toList):=by
 obtain⟨h1,Z,h2,h3⟩:=h.cT x rfl
 obtain⟨hh,hk⟩:=bX x cs.toList 0 Z W h2 (by simp;omega)
 exact hk.aJ h.aZ h.aZ.size (by simpa using h1)
theorem My{w1 W:World}{b:Option Nat}{cs:Array Value}(h:AI w1 b W)(hc:cs.size=36)(h1:∀v,v∈cs.toList→v.oneCell'=true):vE cs b W:=by
 cases b with
 | some x=>
  obtain⟨_,Z,h2,h3⟩:=h.cT x rfl
  exact cN h2 h3 hc h1
 | none=>
  intro Z hZ
  exact cN (heap_alloc_new _ _) hZ hc h1
structure AE(w1:World)(kl:List Ax.ay)(gv:Nat→Bool)(hm:Nat)(b:Option Nat)(W:World):Prop where
 ai:AI w1 b W
 out:∃T s,pH W hm T s∧En.Inv (En.sR (En.aj kl)) (En.gF gv) s s.found.length∧(∀p,p∈T.map ic↔p∈jI)∧(∀x,b=some x→∀y,y∈cK hm T→y≠x)∧∀y,y∈cK hm T→w1.heap.size≤y
theorem AE.alloc{w1 W:World}{kl:List Ax.ay}{gv:Nat→Bool}{hm:Nat}{Z:Array Value}(h:AE w1 kl gv hm none W)(hz:Z.size=36):AE w1 kl gv hm (some W.heap.size) (W.alloc (.cells Z 107)):=by
 obtain⟨T,s,e1,e2,e3,e4,e5⟩:=h.out
 refine⟨h.ai.alloc hz,T,s,e1.below ((Below.refl _ _).alloc (Nat.le_refl _) _),e2,e3, ?_,e5⟩
 intro x hx y hy e
 simp only[Option.some.injEq]at hx
 have:=e1.lt hy
 omega
structure W9(w1:World)(kl:List Ax.ay)(gv:Nat→Bool)(pl:ByteArray)(rv:Value)(gm:Nat)(hd:List UInt8)(v8 v10:Value)(wx:World):Prop where
 v8:v8=.bool true
 out:∃x hm T s,v10=.pointer (some ⟨x,0,none⟩)∧w1.heap.size≤x∧wx.heap[x]?=some (.cells (aO pl rv gm hm hd) 107 (0,0))∧pH wx hm T s∧En.Inv (En.sR (En.aj kl)) (En.gF gv) s s.found.length∧(∀p,p∈T.map ic↔p∈jI)∧Below w1.heap.size w1 wx∧∀y,y∈cK hm T→w1.heap.size≤y
theorem AE.cut{w1 W:World}{kl:List Ax.ay}{gv:Nat→Bool}{pl:ByteArray}{rv:Value}{gm hm x:Nat}{hd:List UInt8}(h:AE w1 kl gv hm (some x) W)(hh:hd.length=32):W9 w1 kl gv pl rv gm hd (.bool true) (.pointer (some ⟨x,0,none⟩)) (W.setCells x 0 (aO pl rv gm hm hd).toList):=by
 obtain⟨pQ,Z,h2,h3⟩:=h.ai.cT x rfl
 obtain⟨T,s,e1,e2,e3,e4,e5⟩:=h.out
 obtain⟨W8,hk⟩:=bX x (aO pl rv gm hm hd).toList 0 Z W h2 (by simp[aL _ _ _ _ hh,h3])
 exact⟨rfl,x,hm,T,s,rfl,pQ,fH h2 h3 (aL _ _ _ _ hh),e1.kept hk (fun b hb=>by simpa using e4 x rfl b hb),e2,e3,h.ai.stored (aL _ _ _ _ hh),e5⟩
theorem kt{w:World}{eg:Nat}{pl:ByteArray}{rv:Value}{gm hm:Nat}{hd:List UInt8}{lv:Value}{fr:Nat×Nat}(h:w.heap[eg]?=some (.cells (bE pl rv gm hm hd lv) 109 fr))(hh:hd.length=32):
 w.cell? ⟨eg,0,none⟩=some (.string pl)∧w.cell? ⟨eg,1,none⟩=some rv∧w.cell? ⟨eg,2,none⟩=some (.map (some gm))∧w.cell? ⟨eg,3,none⟩=some (.map (some hm))∧w.rangeAt eg 4 (Rc.bA hd)∧w.cell? ⟨eg,36,none⟩=some lv:=by
 have hu:(Rc.bA hd).length=32:=by rw[Rc.bB,hh]
 refine⟨?_, ?_, ?_, ?_, ?_, ?_⟩
 · rw[cell_of_row _ _ _ _ _ _ h];rfl
 · rw[cell_of_row _ _ _ _ _ _ h];rfl
 · rw[cell_of_row _ _ _ _ _ _ h];rfl
 · rw[cell_of_row _ _ _ _ _ _ h];rfl
 · intro j v hv
   have hj:j<32:=by rw[←hu];exact(List.getElem?_eq_some_iff.1 hv).1
   rw[cell_of_row _ _ _ _ _ _ h]
   unfold bE
   rw[List.getElem?_toArray,List.append_assoc,List.getElem?_append_right (by simp),List.getElem?_append_left (by simp[hu];omega)]
   simpa using hv
 · rw[cell_of_row _ _ _ _ _ _ h]
   unfold bE
   rw[List.getElem?_toArray,List.getElem?_append_right (by simp[hu])]
   simp[hu]
theorem sy(pl:ByteArray)(rv:Value)(gm hm:Nat){hd:List UInt8}(lv:Value)(h:hd.length=32):(bE pl rv gm hm hd lv).size=37:=by simp[bE,Rc.bB,h]
theorem Kx{w:World}{eg:Nat}{pl pl':ByteArray}{rv rv':Value}{gm hm gm' hm':Nat}{hd C8:List UInt8}{lv:Value}(h:w.heap[eg]?=some (.cells (bE pl rv gm hm hd lv) 109 (0,0)))(hh:hd.length=32)(W8:C8.length=32):
 (w.setCells eg 0 (aO pl' rv' gm' hm' C8).toList).heap[eg]?=some (.cells (bE pl' rv' gm' hm' C8 lv) 109 (0,0))∧Kb [eg] w (w.setCells eg 0 (aO pl' rv' gm' hm' C8).toList):=by
 obtain⟨h1,h2⟩:=bX eg (aO pl' rv' gm' hm' C8).toList 0 _ w h (by simp[aL _ _ _ _ W8,sy _ _ _ _ _ hh])
 refine⟨?_,h2⟩
 rw[h1]
 have e:(bE pl rv gm hm hd lv).toList.drop (0+(aO pl' rv' gm' hm' C8).toList.length)=[lv]:=by
  rw[Array.length_toList,aL _ _ _ _ W8]
  unfold bE
  have hu:(Rc.bA hd).length=32:=by rw[Rc.bB,hh]
  rw[List.toList_toArray,List.drop_append_of_le_length (by simp[hu])]
  rw[List.drop_eq_nil_of_le (by simp[hu])]
  rfl
 rw[e]
 congr 2
theorem Uc{w:World}{eg:Nat}{pl:ByteArray}{rv:Value}{gm hm:Nat}{hd:List UInt8}{lv:Value}(h:w.heap[eg]?=some (.cells (bE pl rv gm hm hd lv) 109 (0,0)))(hh:hd.length=32)(v:Value):
 (w.setCell ⟨eg,36,none⟩ v).heap[eg]?=some (.cells (bE pl rv gm hm hd v) 109 (0,0)):=by
 rw[an w h 36 v]
 have hu:(Rc.bA hd).length=32:=by rw[Rc.bB,hh]
 have e:(bE pl rv gm hm hd lv).setIfInBounds 36 v=bE pl rv gm hm hd v:=by
  unfold bE
  rw[List.setIfInBounds_toArray,List.set_append_right _ _ (by simp[hu])]
  simp[hu]
 rw[e]
theorem Dq{W:World}{x o eg:Nat}{cs:List Value}(h:W.rangeAt x o cs)(cA:x≠eg)(k:Nat)(v:Value):(W.setCell ⟨eg,k,none⟩ v).rangeAt x o cs:=World.rangeAt_setCells_apart h eg k [v] (.inl cA)
theorem Kc(K:Nat→Int)(a:List UInt8)(c:ByteArray):(dO K a c).length=32:=Dg.mo _ _
end
end Go.Proofs.YtdmicblafmhflaaGreatDoor
