/- Engine.Apply: what it keeps, how long its log grows. -/
import Derived.Test.YtdmicblafmhflaaGreatDoorC34
set_option linter.unusedSimpArgs false
set_option linter.unusedVariables false
namespace Go.Proofs.YtdmicblafmhflaaGreatDoor
section
open Go.RowKit Go.Maps
def Vr(o:Obj):Prop:=∀c t f,o=.cells c t f→t≠109∧t≠5
structure p5(w w':World):Prop where
 kb:∃S,Kb S w w'∧∀b,b∈S→b<w.heap.size→∃cur t fz,w.heap[b]?=some (.cells cur t fz)∧(t=109∨t=5)
theorem p5.bF{w w':World}(h:Below w.heap.size w w'):p5 w w':=⟨[],Kb.bF h [],by simp⟩
theorem p5.pU{w w':World}{x:Nat}(h:Kb [x] w w'){cur:Array Value}{fz:Nat×Nat}(hx:w.heap[x]?=some (.cells cur 109 fz)):p5 w w':=⟨[x],h,fun b hb _=>by
 simp only[List.mem_cons,List.not_mem_nil,or_false]at hb
 subst hb
 exact⟨cur,_,fz,hx,.inl rfl⟩⟩
theorem p5.JH{w w':World}{B:Nat}(h:Lib.OthersKept 5 none w w')(hb:Below B w w'):p5 w w':=by
 refine⟨(List.range w.heap.size).filter fun k=>match w.heap[k]? with | some (.cells _ t _)=>decide (t=5) | _=>false,⟨hb.os,hb.tape,hb.output,hb.size, ?_⟩, ?_⟩
 · intro k hk hn
   rw[Array.getElem?_eq_getElem hk]
   refine h k _ (Array.getElem?_eq_getElem hk) (by simp) ?_
   intro c fz e
   refine hn (List.mem_filter.2 ⟨List.mem_range.2 hk, ?_⟩)
   rw[Array.getElem?_eq_getElem hk,e]
   simp
 · intro b wy hl
   have h2:=(List.mem_filter.1 wy).2
   rw[Array.getElem?_eq_getElem hl]at h2 ⊢
   cases ho:w.heap[b]with
   | cells c t f=>
    rw[ho]at h2
    exact⟨c,t,f,rfl,.inr (by simpa using h2)⟩
   | _=>rw[ho]at h2;simp at h2
theorem p5.heap{w w':World}(h:p5 w w'){k:Nat}{o:Obj}(hk:w.heap[k]?=some o)(ho:Vr o):w'.heap[k]?=some o:=by
 obtain⟨S,h1,h2⟩:=h.kb
 refine h1.heap hk ?_
 intro hS
 obtain⟨cur,t,fz,e,ht⟩:=h2 k hS (lt_of_heap hk)
 rw[hk]at e
 obtain⟨a,b⟩:=ho cur t fz (Option.some.inj e)
 rcases ht with rfl | rfl
 · exact a rfl
 · exact b rfl
theorem p5.trans{w w1 w2:World}(h:p5 w w1)(k:p5 w1 w2):p5 w w2:=by
 obtain⟨S1,a1,a2⟩:=h.kb
 obtain⟨S2,b1,b2⟩:=k.kb
 refine⟨S1++S2,(a1.mono (fun i hi _=>by simp[hi])).trans (b1.mono (fun i hi _=>by simp[hi])), ?_⟩
 intro b hb hl
 by_cases a8:b∈S1
 · exact a2 b a8 hl
 · have cM:b∈S2:=by simpa [a8]using hb
   obtain⟨cur,t,fz,e,ht⟩:=b2 b cM (Nat.lt_of_lt_of_le hl a1.size)
   rw[a1.block b hl a8]at e
   exact⟨cur,t,fz,e,ht⟩
theorem p5.Sh{w w':World}(h:p5 w w'):∃S,Kb S w w'∧∀b o,w.heap[b]?=some o→Vr o→¬b∈S:=by
 obtain⟨S,h1,h2⟩:=h.kb
 refine⟨S,h1,fun b o hb ho hS=> ?_⟩
 obtain⟨cur,t,fz,e,ht⟩:=h2 b hS (lt_of_heap hb)
 rw[hb]at e
 obtain⟨x,y⟩:=ho cur t fz (Option.some.inj e)
 rcases ht with rfl | rfl
 · exact x rfl
 · exact y rfl
theorem iE{c:Array Value}{t:TypeId}{f:Nat×Nat}(h1:t≠109)(h2:t≠5):Vr (.cells c t f):=fun c' t' f' e=>by
 cases e
 exact⟨h1,h2⟩
theorem lB.TW{w w':World}{gm:Nat}{G:List GT}(h:lB w gm G)(hk:p5 w w'):lB w' gm G:=by
 obtain⟨S,h1,h2⟩:=hk.Sh
 refine h.kept h1 ?_
 intro b hb
 unfold eV at hb
 rcases List.mem_cons.1 hb with rfl | hb
 · obtain⟨es,ck,e⟩:=h.map.block
   exact h2 b _ e (fun _ _ _ e=>by cases e)
 · obtain⟨u,hu,hb⟩:=List.mem_flatMap.1 hb
   obtain⟨cur,T,e,hT⟩:=(h.b7 u hu).types hb
   refine h2 b _ e (iE ?_ ?_)
   · rcases hT with rfl | rfl<;>decide
   · rcases hT with rfl | rfl<;>decide
theorem pG.TW{w w':World}{hm:Nat}{T:List HT}{s:En.dB En.cl}(h:pG w hm T s)(hk:p5 w w'):pG w' hm T s:=by
 obtain⟨S,h1,h2⟩:=hk.Sh
 refine h.kept h1 ?_
 intro b hb
 unfold cK at hb
 rcases List.mem_cons.1 hb with rfl | hb
 · obtain⟨es,ck,e⟩:=h.map.block
   exact h2 b _ e (fun _ _ _ e=>by cases e)
 · obtain⟨u,hu,hb⟩:=List.mem_flatMap.1 hb
   obtain⟨cur,T,e,hT⟩:=(h.b7 u hu).types hb
   refine h2 b _ e (iE ?_ ?_)
   · rcases hT with rfl | rfl | rfl<;>decide
   · rcases hT with rfl | rfl | rfl<;>decide
theorem aI.TW{w w':World}{rd:Option Addr}{rc:Nat}{l:List MR}(h:aI w rd rc l)(hk:p5 w w'):aI w' rd rc l:=by
 obtain⟨S,h1,h2⟩:=hk.kb
 refine h.kept h1 ?_
 intro b cur U hb e
 obtain⟨jX,t,fz,e2,ht⟩:=h2 b hb (lt_of_heap e)
 rw[e]at e2
 simp at e2
 rw[e2.2.1]
 rcases ht with rfl | rfl<;>decide
theorem FG{n:Nat}(h:n≤127):(Rc.aQ n).length=1:=by
 unfold Rc.aQ
 rw[if_pos h]
 rfl
theorem DP{t:ByteArray}(h:t.size≤127):(Rc.aC t).length=1+t.size:=by
 unfold Rc.aC
 rw[List.length_append,FG h]
 rfl
theorem mW(i:Nat):(be i).2.length≤2:=by
 have key:∀p x y,(pB p x y).2.length≤2:=by
  intro p x y
  unfold pB
  split<;>simp
 unfold be
 split
 · exact key _ _ _
 · split<;>exact key _ _ _
theorem C9{f:FI}{i:Nat}(hi:i<36)(h1:f.pred=(be i).1)(h2:f.args=(be i).2):(Rc.fE f).length≤10:=by
 have a1:f.pred.size≤3:=by rw[h1];exact dP _ (kO hi)
 have a2:=Rc.iw Rc.aC 3 f.args (fun a ha=>by
  rw[h2]at ha
  have:=(iD i a ha).2
  rw[DP (by omega)]
  omega)
 have a3:f.args.length≤2:=by rw[h2];exact mW i
 unfold Rc.fE
 rw[List.length_append,DP (by omega)]
 omega
theorem fM.mem{l:List FI}{is:List Nat}(h:fM l is){f:FI}(hf:f∈l):∃i,i<36∧f.pred=(be i).1∧f.args=(be i).2:=by
 have:(f.pred,f.args)∈is.map be:=by rw[←h.1];exact List.mem_map.2 ⟨f,hf,rfl⟩
 obtain⟨i,hi,e⟩:=List.mem_map.1 this
 exact⟨i,h.2 i hi,by rw[e],by rw[e]⟩
theorem fM.small{l:List FI}{is:List Nat}(h:fM l is)(hl:l.length≤30):nF l where
 CZ:=by omega
 kM:=fun f hf=>by
  obtain⟨i,hi,e,_⟩:=h.mem hf
  rw[e]
  exact Nat.le_trans (dP _ (kO hi)) (by decide)
 args:=fun f hf=>by
  obtain⟨i,hi,_,e⟩:=h.mem hf
  rw[e]
  have:=mW i
  omega
 names:=fun f hf a ha=>by
  obtain⟨i,hi,_,e⟩:=h.mem hf
  rw[e]at ha
  have:=(iD i a ha).2
  omega
theorem zZ{l:List FI}{is:List Nat}(h:fM l is)(hl:l.length≤30):(Rc.kp l).length≤301:=by
 have:=Rc.iw Rc.fE 10 l (fun f hf=>by
  obtain⟨i,hi,e1,e2⟩:=h.mem hf
  exact C9 hi e1 e2)
 unfold Rc.kp
 rw[List.length_append,FG (by omega)]
 omega
theorem CE{c g:List FI}{ci gi:List Nat}(h1:fM c ci)(h2:fM g gi)(hc:c.length≤30)(hg:g.length≤30):(Rc.eY c g).length≤602:=by
 have:=zZ h1 hc
 have:=zZ h2 hg
 unfold Rc.eY
 rw[List.length_append]
 omega
theorem KP{ct:ByteArray}(h:ct.size≤602){hd:List UInt8}(hh:hd.length=32):(Rc.aC ct++hd).length≤1000:=by
 have:=Rc.sf ct.size (by omega)
 unfold Rc.aC
 have e:ct.data.toList.length=ct.size:=by simp
 rw[List.length_append,List.length_append,e]
 omega
end
/- Engine.Apply: its regions' blocks. -/
section
open Go.RowKit Go.Maps
structure AI(w1:World)(b:Option Nat)(W:World):Prop where
 aZ:Below w1.heap.size w1 W
 cU:∀x,b=some x→w1.heap.size≤x∧∃Z,W.heap[x]?=some (.cells Z 107 (0,0))∧Z.size=36
theorem AI.below{w1 W w':World}{b:Option Nat}(h:AI w1 b W)(hb:Below W.heap.size W w'):AI w1 b w':=by
 refine⟨h.aZ.trans (hb.mono h.aZ.size), ?_⟩
 intro x hx
 obtain⟨h1,Z,h2,h3⟩:=h.cU x hx
 exact⟨h1,Z,by rw[hb.block _ (lt_of_heap h2)];exact h2,h3⟩
theorem AI.drew{w1 W:World}{b:Option Nat}(h:AI w1 b W):AI w1 b W.drew:=h.below (Below.refl _ _).drew
theorem AI.alloc{w1 W:World}{Z:Array Value}(h:AI w1 none W)(hz:Z.size=36):AI w1 (some W.heap.size) (W.alloc (.cells Z 107)):=by
 have h2:=h.below (w':=W.alloc (.cells Z 107)) ((Below.refl _ _).alloc (Nat.le_refl _) _)
 refine⟨h2.aZ, ?_⟩
 intro x hx
 simp only[Option.some.injEq]at hx
 subst hx
 exact⟨h.aZ.size,Z,heap_alloc_new _ _,hz⟩
theorem AI.stored{w1 W:World}{x:Nat}{cs:Array Value}(h:AI w1 (some x) W)(hc:cs.size=36):Below w1.heap.size w1 (W.setCells x 0 cs.toList):=by
 obtain⟨h1,Z,h2,h3⟩:=h.cU x rfl
 obtain⟨hh,hk⟩:=bX x cs.toList 0 Z W h2 (by simp;omega)
 exact hk.aK h.aZ h.aZ.size (by simpa using h1)
theorem MS{w1 W:World}{b:Option Nat}{cs:Array Value}(h:AI w1 b W)(hc:cs.size=36)(h1:∀v,v∈cs.toList→v.oneCell'=true):u6 cs b W:=by
 cases b with
 | some x=>
  obtain⟨_,Z,h2,h3⟩:=h.cU x rfl
  exact cN h2 h3 hc h1
 | none=>
  intro Z hZ
  exact cN (heap_alloc_new _ _) hZ hc h1
structure AE(w1:World)(kl:List Ax.ay)(gv:Nat→Bool)(hm:Nat)(b:Option Nat)(W:World):Prop where
 ai:AI w1 b W
 out:∃T s,pG W hm T s∧En.Inv (En.sR (En.aj kl)) (En.gF gv) s s.found.length∧(∀p,p∈T.map ig↔p∈jL)∧(∀x,b=some x→∀y,y∈cK hm T→y≠x)∧∀y,y∈cK hm T→w1.heap.size≤y
theorem AE.alloc{w1 W:World}{kl:List Ax.ay}{gv:Nat→Bool}{hm:Nat}{Z:Array Value}(h:AE w1 kl gv hm none W)(hz:Z.size=36):AE w1 kl gv hm (some W.heap.size) (W.alloc (.cells Z 107)):=by
 obtain⟨T,s,e1,e2,e3,e4,e5⟩:=h.out
 refine⟨h.ai.alloc hz,T,s,e1.below ((Below.refl _ _).alloc (Nat.le_refl _) _),e2,e3, ?_,e5⟩
 intro x hx y hy e
 simp only[Option.some.injEq]at hx
 have:=e1.lt hy
 omega
structure YT(w1:World)(kl:List Ax.ay)(gv:Nat→Bool)(pl:ByteArray)(rv:Value)(gm:Nat)(hd:List UInt8)(v8 v10:Value)(wx:World):Prop where
 v8:v8=.bool true
 out:∃x hm T s,v10=.pointer (some ⟨x,0,none⟩)∧w1.heap.size≤x∧wx.heap[x]?=some (.cells (aO pl rv gm hm hd) 107 (0,0))∧pG wx hm T s∧En.Inv (En.sR (En.aj kl)) (En.gF gv) s s.found.length∧(∀p,p∈T.map ig↔p∈jL)∧Below w1.heap.size w1 wx∧∀y,y∈cK hm T→w1.heap.size≤y
theorem AE.cut{w1 W:World}{kl:List Ax.ay}{gv:Nat→Bool}{pl:ByteArray}{rv:Value}{gm hm x:Nat}{hd:List UInt8}(h:AE w1 kl gv hm (some x) W)(hh:hd.length=32):YT w1 kl gv pl rv gm hd (.bool true) (.pointer (some ⟨x,0,none⟩)) (W.setCells x 0 (aO pl rv gm hm hd).toList):=by
 obtain⟨p8,Z,h2,h3⟩:=h.ai.cU x rfl
 obtain⟨T,s,e1,e2,e3,e4,e5⟩:=h.out
 obtain⟨XQ,hk⟩:=bX x (aO pl rv gm hm hd).toList 0 Z W h2 (by simp[aL _ _ _ _ hh,h3])
 exact⟨rfl,x,hm,T,s,rfl,p8,fI h2 h3 (aL _ _ _ _ hh),e1.kept hk (fun b hb=>by simpa using e4 x rfl b hb),e2,e3,h.ai.stored (aL _ _ _ _ hh),e5⟩
theorem kI{w:World}{eg:Nat}{pl:ByteArray}{rv:Value}{gm hm:Nat}{hd:List UInt8}{lv:Value}{fr:Nat×Nat}(h:w.heap[eg]?=some (.cells (bE pl rv gm hm hd lv) 109 fr))(hh:hd.length=32):
 w.cell? ⟨eg,0,none⟩=some (.string pl)∧w.cell? ⟨eg,1,none⟩=some rv∧w.cell? ⟨eg,2,none⟩=some (.map (some gm))∧w.cell? ⟨eg,3,none⟩=some (.map (some hm))∧w.rangeAt eg 4 (Rc.bA hd)∧w.cell? ⟨eg,36,none⟩=some lv:=by
 have hu:(Rc.bA hd).length=32:=by rw[Rc.bB,hh]
 refine⟨?_, ?_, ?_, ?_, ?_, ?_⟩
 · rw[cell_of_row _ _ _ _ _ _ h];rfl
 · rw[cell_of_row _ _ _ _ _ _ h];rfl
 · rw[cell_of_row _ _ _ _ _ _ h];rfl
 · rw[cell_of_row _ _ _ _ _ _ h];rfl
 · intro j v hv
   have hj:j<32:=by rw[←hu];exact(List.getElem?_eq_some_iff.1 hv).1
   rw[cell_of_row _ _ _ _ _ _ h]
   unfold bE
   rw[List.getElem?_toArray,List.append_assoc,List.getElem?_append_right (by simp),List.getElem?_append_left (by simp[hu];omega)]
   simpa using hv
 · rw[cell_of_row _ _ _ _ _ _ h]
   unfold bE
   rw[List.getElem?_toArray,List.getElem?_append_right (by simp[hu])]
   simp[hu]
theorem rO(pl:ByteArray)(rv:Value)(gm hm:Nat){hd:List UInt8}(lv:Value)(h:hd.length=32):(bE pl rv gm hm hd lv).size=37:=by simp[bE,Rc.bB,h]
theorem KL{w:World}{eg:Nat}{pl pl':ByteArray}{rv rv':Value}{gm hm gm' hm':Nat}{hd DK:List UInt8}{lv:Value}(h:w.heap[eg]?=some (.cells (bE pl rv gm hm hd lv) 109 (0,0)))(hh:hd.length=32)(XQ:DK.length=32):
 (w.setCells eg 0 (aO pl' rv' gm' hm' DK).toList).heap[eg]?=some (.cells (bE pl' rv' gm' hm' DK lv) 109 (0,0))∧Kb [eg] w (w.setCells eg 0 (aO pl' rv' gm' hm' DK).toList):=by
 obtain⟨h1,h2⟩:=bX eg (aO pl' rv' gm' hm' DK).toList 0 _ w h (by simp[aL _ _ _ _ XQ,rO _ _ _ _ _ hh])
 refine⟨?_,h2⟩
 rw[h1]
 have e:(bE pl rv gm hm hd lv).toList.drop (0+(aO pl' rv' gm' hm' DK).toList.length)=[lv]:=by
  rw[Array.length_toList,aL _ _ _ _ XQ]
  unfold bE
  have hu:(Rc.bA hd).length=32:=by rw[Rc.bB,hh]
  rw[List.toList_toArray,List.drop_append_of_le_length (by simp[hu])]
  rw[List.drop_eq_nil_of_le (by simp[hu])]
  rfl
 rw[e]
 congr 2
theorem UC{w:World}{eg:Nat}{pl:ByteArray}{rv:Value}{gm hm:Nat}{hd:List UInt8}{lv:Value}(h:w.heap[eg]?=some (.cells (bE pl rv gm hm hd lv) 109 (0,0)))(hh:hd.length=32)(v:Value):
 (w.setCell ⟨eg,36,none⟩ v).heap[eg]?=some (.cells (bE pl rv gm hm hd v) 109 (0,0)):=by
 rw[an w h 36 v]
 have hu:(Rc.bA hd).length=32:=by rw[Rc.bB,hh]
 have e:(bE pl rv gm hm hd lv).setIfInBounds 36 v=bE pl rv gm hm hd v:=by
  unfold bE
  rw[List.setIfInBounds_toArray,List.set_append_right _ _ (by simp[hu])]
  simp[hu]
 rw[e]
theorem Ev{W:World}{x o eg:Nat}{cs:List Value}(h:W.rangeAt x o cs)(cA:x≠eg)(k:Nat)(v:Value):(W.setCell ⟨eg,k,none⟩ v).rangeAt x o cs:=World.rangeAt_setCells_apart h eg k [v] (.inl cA)
theorem Lw(K:Nat→Int)(a:List UInt8)(c:ByteArray):(dO K a c).length=32:=Dg.mA _ _
end
end Go.Proofs.YtdmicblafmhflaaGreatDoor
