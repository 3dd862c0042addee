/- Replayed: the shop behind a script, with its log; the lists of the walk's own. -/
import Derived.Test.YtdmicblafmhflaaGreatDoorC50
set_option linter.unusedSimpArgs false
set_option linter.unusedVariables false
set_option maxHeartbeats 4000000
set_option maxRecDepth 100000
namespace Go.Proofs.YtdmicblafmhflaaGreatDoor
section
open Go.RowKit Go.Maps
theorem MG(c:Int)(n:Nat)(w:World)(hc:cw c)(hn:0<n)(BI:n≤10000000000):Calls Tryz.prog 27 #[.int .i64 c,.int .i64 n] w fun e w'=>e=.returned (.int .i64 (Ax.bk c n))∧w'=w:=by
 obtain⟨h1,h2⟩:=hc
 by_cases h:c<0
 · have hb:decide (c<0)=true:=by simpa using h
   have e:=rM (c:=c) (n:=n) (d:= -(c+1)) (by rw[if_pos h]) (by omega) hn
   go_enter Tryz.func27,Tryz.ntmps27
   go_wp2
   go_ret
   exact⟨by rw[←e];rfl,rfl⟩
 · have hb:decide (c<0)=false:=by simpa using h
   have e:=rM (c:=c) (n:=n) (d:=c) (by rw[if_neg h]) (by omega) hn
   go_enter Tryz.func27,Tryz.ntmps27
   go_wp2
   go_ret
   exact⟨by rw[←e];rfl,rfl⟩
theorem nP.VI{w:World}{B eg:Nat}{kl:List Ax.ay}{gv:Nat→Bool}{n:Nat}{hd:List UInt8}{lg:List Value}{lv:Value}(h:nP w B eg kl gv n)(k:eG w eg hd lg lv):lg.length≤1000*n:=by
 obtain⟨pl,rd,rc,l,gm,G,hm,T,s,C8,ql,ln,lx,eb,_,_,_,_,_,_,_,bT,nU,zn,_⟩:=h.at_
 have nT:lx.length=ln:=by have:=nU.1;omega
 have hHd:eG w eg C8 lx ql:=⟨⟨_,_,_,_,eb⟩,bT,by rw[nT];exact aG nU (Nat.zero_le _)⟩
 have e:=k.same hHd
 subst e
 obtain⟨e1,e2⟩:=qY k.log hHd.log
 omega
theorem nP.aa5{w:World}{B eg:Nat}{kl:List Ax.ay}{gv:Nat→Bool}(h:nP w B eg kl gv 0):∃hd F lv,eG w eg hd (Rc.bA F) lv:=by
 obtain⟨pl,rd,rc,l,gm,G,hm,T,s,C8,ql,ln,lx,eb,_,_,_,_,_,_,_,bT,nU,zn,_⟩:=h.at_
 have nT:lx.length=ln:=by have:=nU.1;omega
 have hx:lx=[]:=List.eq_nil_of_length_eq_zero (by omega)
 have Ma:ln=0:=by omega
 subst hx
 subst Ma
 exact⟨C8,[],ql,⟨_,_,_,_,eb⟩,bT,aG nU (Nat.zero_le _)⟩
theorem qG.some{K:Nat→Int}{w w':World}{sb eg:Nat}{ct:ByteArray}(h:qG K w w' sb eg ct)(k:∃hd F lv,eG w eg hd (Rc.bA F) lv):∃hd F lv,eG w' eg hd (Rc.bA F) lv:=by
 obtain⟨hd,F,lv,hk⟩:=k
 obtain⟨ql,h1,_,_⟩:=h _ _ _ hk
 rw[←Rc.eU]at h1
 exact⟨_,_,_,h1⟩
theorem RG(K:Nat→Int)(w:World)(ad:Option Addr)(m c:Nat)(kl:List Ax.ay)(hR:rR w ad m c kl)(sd:Option Addr)(sn sc:Nat)(sl:List (List Int×List Int))(hS:wu w sd sn sc sl)(hs:sl.length≤2000000)(hK:Dg.ui w K)(hU:eY w):
 Calls Tryz.prog 22 #[.slice ad m c,.slice sd sn sc] w fun e w'=>∃sb eg,e=.returned (.pointer (some ⟨sb,0,none⟩))∧sW w.heap.size w' sb eg (.slice ad (min m 6) c) kl (jB sl) (jB sl) sl.length∧Below w.heap.size w w'∧∃hd F lv,eG w' eg hd (Rc.bA F) lv:=by
 have zn:=hS.len
 subst zn
 have mH:=hS.cap
 have hmx:sc≤9223372036854775807:=hS.max
 have HSH:Hid (Calls Tryz.prog 13 #[.slice ad m c] w fun e w'=>∃sb eg,e=.returned (.pointer (some ⟨sb,0,none⟩))∧Hid (sW w.heap.size w' sb eg (.slice ad (min m 6) c) kl (jB (sl.take 0)) (jB (sl.take 0)) 0∧Below w.heap.size w w')):=(Mk K w ad m c kl hR hK).mono (fun e w' ⟨sb,eg,a,b⟩=>⟨sb,eg,a,b⟩)
 have Ij:Hid (∀W sb eg gv n k (hk:k<sl.length) g o,n≤2000000→sd=some ⟨g,o,none⟩→sW w.heap.size W sb eg (.slice ad (min m 6) c) kl gv gv n→(Below w.heap.size w W∧∃hd F lv,eG W eg hd (Rc.bA F) lv)→∃a1 n1 c1 a2 n2 c2,W.cell? ⟨g,o+k*2,none⟩=some (.slice a1 n1 c1)∧W.cell? ⟨g,o+k*2+1,none⟩=some (.slice a2 n2 c2)∧Calls Tryz.prog 15 #[.pointer (some ⟨sb,0,none⟩),.agg #[.slice a1 n1 c1,.slice a2 n2 c2]] W fun e w'=>e=.returned (.bool true)∧sW w.heap.size w' sb eg (.slice ad (min m 6) c) kl (gO gv sl[k]) (gO gv sl[k]) (n+1)∧Below w.heap.size w w'∧∃hd F lv,eG w' eg hd (Rc.bA F) lv):=by
  intro W sb eg gv n k hk g o hn hsd hW fl
  obtain⟨hb,hlo⟩:=fl
  obtain⟨g',o',e,a1,n1,c1,a2,n2,c2,q1,q2,i1,i2⟩:=hS.at_ k hk
  rw[hsd]at e
  simp only[Option.some.injEq,Addr.mk.injEq,and_true]at e
  obtain⟨rfl,rfl⟩:=e
  have vk:∀W',Below w.heap.size W W'→Below w.heap.size w W':=fun W' h=>hb.trans h
  refine⟨a1,n1,c1,a2,n2,c2,bx hb q1,bx hb q2, ?_⟩
  refine(I4 K w.heap.size W sb eg _ kl gv n hW hn (fun W' h=>⟨hK.below (vk W' h),Utf8Tabs_below hU (vk W' h)⟩) a1 n1 c1 _ (fun W' h _=>i1.below (vk W' h)) (fun g o e hl=>by have:=i1.lt g o e hl;have:=hW.le;omega) a2 n2 c2 _ (fun W' h _=>i2.below (vk W' h)) (fun g o e hl=>by have:=i2.lt g o e hl;have:=hW.le;omega)).mono ?_
  rintro e w' ⟨rfl,r1,r2,_,r4⟩
  exact⟨rfl,r1,hb.trans r2,r4.some hlo⟩
 have LP:Hid (∀k,k<sl.length→∃g o,sd=some ⟨g,o,none⟩):=fun k hk=>by
  obtain⟨g,o,e,_⟩:=hS.at_ k hk
  exact⟨g,o,e⟩
 clear hR hS hK hU
 go_enter Tryz.func22,Tryz.ntmps22
 go_wp2_with (go_at_call 13;refine HSH.out.mono ?_;rintro e w1 ⟨sb,eg,rfl,Pv⟩)
 clear HSH
 go_loopw [6] (fun i wr=>∃(k:Nat),k≤sl.length∧i=.int .i64 k∧sW w.heap.size wr sb eg (.slice ad (min m 6) c) kl (jB (sl.take k)) (jB (sl.take k)) k∧Below w.heap.size w wr∧∃hd F lv,eG wr eg hd (Rc.bA F) lv) (fun i _=>sl.length-(intOf i).toNat)
 case atStart=>exact⟨0,Nat.zero_le _,rfl,Pv.out.1,Pv.out.2,Pv.out.1.KW.aa5⟩
 case round=>
  obtain⟨k,hk,rfl,hW,hb⟩:=hrel
  clear Pv
  by_cases aE:k<sl.length
  · have LI:decide ((k:Int)<(sl.length:Int))=true:=decide_eq_true (by omega)
    obtain⟨g,o,PL⟩:=LP.out k aE
    obtain⟨a1,n1,c1,a2,n2,c2,q1,q2,G3⟩:=Ij.out wr sb eg _ k k aE g o (by omega) PL hW hb
    have fS:Hid (jB (sl.take (k+1))=gO (jB (sl.take k)) sl[k]):=by
     have e0:sl.take (k+1)=sl.take k++[sl[k]]:=by rw[List.take_add_one,List.getElem?_eq_getElem aE];rfl
     have e1:jB (sl.take (k+1))=gO (jB (sl.take k)) sl[k]:=by rw[e0,F5]
     exact e1
    rw[←fS.out]at G3
    have HAK:Hid _:=G3
    subst PL
    clear G3 hW hb Ij
    go_wp2_with (go_at_call 15;refine(show Calls Tryz.prog 15 _ _ _ from HAK.out).mono ?_;rintro e w5 ⟨rfl,hS5,hB5⟩)
    go_roundw
    case rel=>exact⟨k+1,aE,by go_num,hS5,hB5⟩
    case measure=>simp[intOf];omega
  · have LI:decide ((k:Int)<(sl.length:Int))=false:=decide_eq_false (by omega)
    have e9:k=sl.length:=by omega
    have HW:Hid (sW w.heap.size wr sb eg (.slice ad (min m 6) c) kl (jB sl) (jB sl) sl.length∧Below w.heap.size w wr∧∃hd F lv,eG wr eg hd (Rc.bA F) lv):=by
     rw[e9,List.take_length]at hW
     exact⟨hW,hb⟩
    clear hW hb Ij LP e9
    go_wp2_with fail
    all_goals
     (go_ret
      exact⟨sb,eg,rfl,HW.out⟩)
end
/- Replayed: how far a log that is cut reaches; the walk's own lists beside the engine. -/
section
open Go.RowKit Go.Maps
namespace Rp
noncomputable def en(K:Nat→Int)(hd:List UInt8)(tl:List (List Int×List Int))(j:Nat):Nat:=(cB K hd (tl.take j)).length
theorem PX(K:Nat→Int)(hd:List UInt8){tl:List (List Int×List Int)}{j:Nat}(hj:j<tl.length):en K hd tl (j+1)=en K hd tl j+(kr K (p5 K hd (tl.take j)) tl[j]).length:=by
 unfold en
 rw[kO tl hj,pj,List.length_append]
theorem SE(K:Nat→Int)(hd:List UInt8)(tl:List (List Int×List Int))(j:Nat):en K hd tl j≤640*tl.length:=by
 have h:=vH K (tl.take j) hd
 have h2:(tl.take j).length≤tl.length:=by rw[List.length_take];omega
 unfold en
 omega
theorem MS(K:Nat→Int)(hd:List UInt8)(tl:List (List Int×List Int)):en K hd tl tl.length=(cB K hd tl).length:=by
 unfold en
 rw[List.take_length]
theorem As(K:Nat→Int)(hd:List UInt8)(tl:List (List Int×List Int))(k:Nat):cB K hd tl=cB K hd (tl.take k)++cB K (p5 K hd (tl.take k)) (tl.drop k):=by
 rw[←si,List.take_append_drop]
theorem Rz(K:Nat→Int)(hd:List UInt8)(tl:List (List Int×List Int))(k:Nat):(cB K hd tl).take (en K hd tl k)=cB K hd (tl.take k):=by
 have h:=As K hd tl k
 unfold en
 generalize cB K hd (tl.take k)=a at h ⊢
 rw[h,List.take_left]
theorem QT(K:Nat→Int)(hd:List UInt8)(tl:List (List Int×List Int)){n k:Nat}(hk:k≤tl.length)(h1:en K hd tl k≤n)(h2:k=tl.length∨n<en K hd tl (k+1))(hn:n≤(cB K hd tl).length):∃t,(cB K hd tl).take n=cB K hd (tl.take k)++t∧GY K hd tl k t∧(t=[]↔n=en K hd tl k):=by
 have hs:=As K hd tl k
 refine⟨(cB K (p5 K hd (tl.take k)) (tl.drop k)).take (n-en K hd tl k), ?_,⟨hk, ?_⟩, ?_⟩
 · have e:(cB K hd (tl.take k)).take n=cB K hd (tl.take k):=List.take_of_length_le h1
   have h9:=congrArg (List.take n) hs
   rw[List.take_append,e]at h9
   exact h9
 · by_cases he:n=en K hd tl k
   · left
     rw[he,Nat.sub_self,List.take_zero]
   · right
     have Cz:k<tl.length:=by
      rcases h2 with rfl | h2
      · rw[MS]at h1 he
        omega
      · have:en K hd tl k<en K hd tl (k+1):=by omega
        by_cases hc:k<tl.length
        · exact hc
        · have vA:k=tl.length:=by omega
          subst vA
          rw[MS]at h1 he
          omega
     have aE:n-en K hd tl k<(kr K (p5 K hd (tl.take k)) tl[k]).length:=by
      rcases h2 with h2 | h2
      · omega
      · rw[PX K hd Cz]at h2
        omega
     have ed:tl.drop k=tl[k]::tl.drop (k+1):=List.drop_eq_getElem_cons Cz
     refine⟨Cz,(kr K (p5 K hd (tl.take k)) tl[k]).drop (n-en K hd tl k), ?_, ?_, ?_⟩
     · intro h
       have:=congrArg List.length h
       rw[List.length_drop]at this
       simp at this
       omega
     · intro h
       have:=congrArg List.length h
       rw[ed,cB,List.length_take,List.length_append,List.length_nil]at this
       omega
     · rw[ed,cB,List.take_append_of_le_length (Nat.le_of_lt aE),List.take_append_drop]
 · constructor
   · intro h
     have h3:=congrArg List.length h
     rw[List.length_take]at h3
     have h4:=congrArg List.length hs
     rw[List.length_append]at h4
     have h5:(cB K hd (tl.take k)).length=en K hd tl k:=rfl
     rw[List.length_nil]at h3
     omega
   · intro h
     rw[h,Nat.sub_self,List.take_zero]
noncomputable def ends(K:Nat→Int)(hd:List UInt8)(tl:List (List Int×List Int))(k:Nat):List Nat:=(List.range (k+1)).map (en K hd tl)
noncomputable def Hk(K:Nat→Int)(kl:List Ax.ay)(X:Nat→Bool)(hd:List UInt8)(l:List (List Int×List Int)):ByteArray:=⟨(Ex.body kl (kE X l)++p5 K hd l).toArray⟩
noncomputable def j5(K:Nat→Int)(kl:List Ax.ay)(X:Nat→Bool)(hd:List UInt8)(tl:List (List Int×List Int))(k:Nat):List ByteArray:=(List.range (k+1)).map fun j=>Hk K kl X hd (tl.take j)
theorem Jo(K:Nat→Int)(hd:List UInt8)(tl:List (List Int×List Int))(k:Nat):aA (ends K hd tl (k+1))=aA (ends K hd tl k)++[.int .i64 (en K hd tl (k+1):Nat)]:=by
 unfold ends aA
 rw[List.range_succ,List.map_append,List.map_append]
 rfl
theorem Jl(K:Nat→Int)(kl:List Ax.ay)(X:Nat→Bool)(hd:List UInt8)(tl:List (List Int×List Int))(k:Nat):strCells (j5 K kl X hd tl (k+1))=strCells (j5 K kl X hd tl k)++[.string (Hk K kl X hd (tl.take (k+1)))]:=by
 unfold j5 strCells
 rw[List.range_succ,List.map_append,List.map_append]
 rfl
theorem MZ(K:Nat→Int)(hd:List UInt8)(tl:List (List Int×List Int)){k j:Nat}(h:j≤k):(aA (ends K hd tl k))[j]?=some (.int .i64 (en K hd tl j:Nat)):=by
 unfold ends aA
 rw[List.map_map,List.getElem?_map,List.getElem?_range (by omega)]
 rfl
theorem Og(K:Nat→Int)(kl:List Ax.ay)(X:Nat→Bool)(hd:List UInt8)(tl:List (List Int×List Int)){k j:Nat}(h:j≤k):(strCells (j5 K kl X hd tl k))[j]?=some (.string (Hk K kl X hd (tl.take j))):=by
 unfold j5 strCells
 rw[List.map_map,List.getElem?_map,List.getElem?_range (by omega)]
 rfl
end Rp
theorem lV.step{w w':World}{B eg:Nat}{kl:List Ax.ay}{gv:Nat→Bool}{n f:Nat}(h:lV w B eg kl gv n f){S0:List Nat}(hk:Kb S0 w w')(h0:∀b,b∈S0→∃(cur:Array Value) (t:TypeId) (fz:Nat×Nat),w.heap[b]?=some (.cells cur t fz)∧(t=43∨(t=3∨t=9)∧b<f)):lV w' B eg kl gv n f:=by
 intro S W lX hS
 refine h (S0++S.filter (fun b=>decide (b<w.heap.size))) W ?_ ?_
 · exact(hk.mono (fun i hi _=>List.mem_append.2 (.inl hi))).trans' lX (fun i hi aE=>List.mem_append.2 (.inr (List.mem_filter.2 ⟨hi,decide_eq_true aE⟩)))
 · intro b hb
   rcases List.mem_append.1 hb with h1 | h1
   · exact h0 b h1
   · rw[List.mem_filter]at h1
     by_cases bL:b∈S0
     · exact h0 b bL
     · obtain⟨cur,t,fz,e,ht⟩:=hS b h1.1
       rw[hk.block b (of_decide_eq_true h1.2) bL]at e
       exact⟨cur,t,fz,e,ht⟩
structure qM(K:Nat→Int)(w:World)(rv:Value)(kl:List Ax.ay)(X:Nat→Bool)(n0:Nat)(hd F:List UInt8)(tl:List (List Int×List Int))(sx ex k j m:Nat)(v12 sJ:Value)(wr:World):Prop where
 x:sW w.heap.size wr sx ex rv kl (kE X (tl.take k)) (kE X (tl.take k)) (n0+k)
 Wg:∃lv,eG wr ex (Rp.p5 K hd (tl.take k)) (Rc.bA (F++Rp.cB K hd (tl.take k))) lv
 ends:wr.ownsRow w.heap.size 3 1 v12 (j+1) (aA (Rp.ends K hd tl j))
 j5:wr.ownsRow w.heap.size 9 1 sJ (m+1) (strCells (Rp.j5 K kl X hd tl m))
 aZ:Below w.heap.size w wr
theorem qM.below{K:Nat→Int}{w:World}{rv:Value}{kl:List Ax.ay}{X:Nat→Bool}{n0:Nat}{hd F:List UInt8}{tl:List (List Int×List Int)}{sx ex k j m:Nat}{v12 sJ:Value}{wr w':World}(h:qM K w rv kl X n0 hd F tl sx ex k j m v12 sJ wr)(hb:Below wr.heap.size wr w'):qM K w rv kl X n0 hd F tl sx ex k j m v12 sJ w':=by
 obtain⟨lv,h1⟩:=h.Wg
 exact⟨h.x.below hb,⟨lv,h1.below hb⟩,ae h.ends hb,ae h.j5 hb,h.aZ.trans (hb.mono h.aZ.size)⟩
structure zF(w:World)(kl:List Ax.ay)(X:Nat→Bool)(n0:Nat)(tl:List (List Int×List Int))(ex k:Nat)(v:Value)(wr:World):Prop where
 ep:∃f,lV wr w.heap.size ex kl (kE X (tl.take k)) (n0+k) f∧∀b,v.ownBlock=some b→b<f
theorem zF.below{w:World}{kl:List Ax.ay}{X:Nat→Bool}{n0:Nat}{tl:List (List Int×List Int)}{ex k:Nat}{v:Value}{wr w':World}(h:zF w kl X n0 tl ex k v wr)(hb:Below wr.heap.size wr w'):zF w kl X n0 tl ex k v w':=by
 obtain⟨f,h1,h2⟩:=h.ep
 exact⟨f,h1.step (Kb.bF hb []) (fun b hb=>by cases hb),h2⟩
theorem qM.step{K:Nat→Int}{w:World}{rv:Value}{kl:List Ax.ay}{X:Nat→Bool}{n0:Nat}{hd F:List UInt8}{tl:List (List Int×List Int)}{sx ex k:Nat}{v12 sJ:Value}{wr w':World}(h:qM K w rv kl X n0 hd F tl sx ex k k k v12 sJ wr)(hk:k<tl.length)
 (h1:sW w.heap.size w' sx ex rv kl (gO (kE X (tl.take k)) tl[k]) (gO (kE X (tl.take k)) tl[k]) (n0+k+1))(h2:Below w.heap.size w w')(h3:qG K wr w' sx ex (Rp.ct tl[k]))(h4:lV w' w.heap.size ex kl (gO (kE X (tl.take k)) tl[k]) (n0+k+1) wr.heap.size):qM K w rv kl X n0 hd F tl sx ex (k+1) k k v12 sJ w'∧zF w kl X n0 tl ex (k+1) v12 w'∧zF w kl X n0 tl ex (k+1) sJ w':=by
 have e1:tl.take (k+1)=tl.take k++[tl[k]]:=kO tl hk
 have e2:kE X (tl.take (k+1))=gO (kE X (tl.take k)) tl[k]:=by rw[e1,vZ]
 obtain⟨lv,hh⟩:=h.Wg
 obtain⟨ql,q1,q2,q3⟩:=h3 _ _ _ hh
 have SP:=h.x.lP
 unfold fo at SP
 obtain⟨_,_,_,_,ZO⟩:=hh.at_
 have iM:∀(b:Nat) (cur:Array Value) (t:TypeId) (fz:Nat×Nat),wr.heap[b]?=some (.cells cur t fz)→t≠43→t≠109→t≠5→¬b∈sx::ex::lv.ownBlock.toList:=by
  intro b cur t fz e n1 n2 n3
  simp only[List.mem_cons,Option.mem_toList]
  rintro(h | h | h)
  · exact fg e SP n1 h
  · exact fg e ZO n2 h
  · obtain⟨jU,OO,e'⟩:=bj hh.log b h
    exact fg e e' n3 rfl
 refine⟨⟨?_,⟨ql, ?_⟩,q2.row h.ends ?_,q2.row h.j5 ?_,h2⟩,⟨wr.heap.size, ?_,fun b hb=>(h.ends.lt b hb).2⟩,⟨wr.heap.size, ?_,fun b hb=>(h.j5.lt b hb).2⟩⟩
 · rw[e2];exact h1
 · rw[e1,Rp.Ej,Rp.pj,←List.append_assoc,Rc.eU]
   exact q1
 · intro b hb
   obtain⟨cur,fz,e⟩:=bj h.ends b hb
   exact iM b _ _ _ e (by decide) (by decide) (by decide)
 · intro b hb
   obtain⟨cur,fz,e⟩:=bj h.j5 b hb
   exact iM b _ _ _ e (by decide) (by decide) (by decide)
 · rw[e2];exact h4
 · rw[e2];exact h4
theorem qM.grow{K:Nat→Int}{w:World}{rv:Value}{kl:List Ax.ay}{X:Nat→Bool}{n0:Nat}{hd F:List UInt8}{tl:List (List Int×List Int)}{sx ex k j m:Nat}{v12 sJ v:Value}{wr w5:World}{o:Obj}(h:qM K w rv kl X n0 hd F tl sx ex k j m v12 sJ wr)(hf:zF w kl X n0 tl ex k v wr){t:TypeId}{N:Nat}{xs:List Value}(hv:wr.ownsRow w.heap.size t 1 v N xs)(ht:t=3∨t=9)(hg:(wr.alloc o).grownBy w5 v.ownBlock):sW w.heap.size w5 sx ex rv kl (kE X (tl.take k)) (kE X (tl.take k)) (n0+k)∧(∃lv,eG w5 ex (Rp.p5 K hd (tl.take k)) (Rc.bA (F++Rp.cB K hd (tl.take k))) lv)∧Below w.heap.size w w5∧Kb v.ownBlock.toList wr w5∧∀u,zF w kl X n0 tl ex k u wr→zF w kl X n0 tl ex k u w5:=by
 have hk:Kb v.ownBlock.toList wr w5:=(Kb.bF ((Below.refl _ _).alloc (Nat.le_refl _) o) _).trans (Kb.dA hg)
 have SP:=h.x.lP
 unfold fo at SP
 obtain⟨lv,hh⟩:=h.Wg
 obtain⟨pl0,rv0,gm0,hm0,ZO⟩:=hh.at_
 have hS:∀b,b∈v.ownBlock.toList→∃cur fz,wr.heap[b]?=some (.cells cur t fz):=fun b hb=>bj hv b (by simpa using hb)
 have iM:∀(b:Nat) (cur:Array Value) (u:TypeId) (fz:Nat×Nat),wr.heap[b]?=some (.cells cur u fz)→u≠t→¬b∈v.ownBlock.toList:=by
  intro b cur u fz e n1 hb
  obtain⟨jU,OO,e'⟩:=hS b hb
  exact fg e e' n1 rfl
 have Es:∀f,(∀b,v.ownBlock=some b→b<f)→∀b,b∈v.ownBlock.toList→∃(cur:Array Value) (u:TypeId) (fz:Nat×Nat),wr.heap[b]?=some (.cells cur u fz)∧(u=43∨(u=3∨u=9)∧b<f):=by
  intro f aE b hb
  obtain⟨jU,OO,e'⟩:=hS b hb
  exact⟨jU,t,OO,e',.inr ⟨ht,aE b (by simpa using hb)⟩⟩
 obtain⟨f,hp,aE⟩:=hf.ep
 refine⟨⟨?_,hp _ _ hk (Es f aE),h.x.le⟩,⟨lv,⟨_,_,_,_,hk.heap ZO (iM _ _ _ _ ZO (by rcases ht with rfl | rfl<;>decide))⟩,hh.K8,hk.row hh.log (fun b hb=> ?_)⟩,hk.aJ h.aZ h.aZ.size (fun b hb=>(hv.lt b (by simpa using hb)).1),hk, ?_⟩
 · unfold fo
   exact hk.heap SP (iM _ _ _ _ SP (by rcases ht with rfl | rfl<;>decide))
 · obtain⟨jU,OO,e'⟩:=bj hh.log b hb
   exact iM b _ _ _ e' (by rcases ht with rfl | rfl<;>decide)
 · intro u hu
   obtain⟨g,hq,oc⟩:=hu.ep
   by_cases hc:∀b,v.ownBlock=some b→b<g
   · exact⟨g,hq.step hk (Es g hc),oc⟩
   · have Hi:g≤f:=by
      obtain⟨b,hb⟩:=Classical.not_forall.1 hc
      obtain⟨a8,cM⟩:=Classical.not_imp.1 hb
      have:=aE b a8
      omega
     exact⟨f,hp.step hk (Es f aE),fun b hb=>Nat.lt_of_lt_of_le (oc b hb) Hi⟩
theorem qM.end{K:Nat→Int}{w:World}{rv:Value}{kl:List Ax.ay}{X:Nat→Bool}{n0:Nat}{hd F:List UInt8}{tl:List (List Int×List Int)}{sx ex k j m:Nat}{v12 sJ v':Value}{wr w5:World}{o:Obj}(h:qM K w rv kl X n0 hd F tl sx ex k j m v12 sJ wr)(hf:zF w kl X n0 tl ex k v12 wr)(CY:zF w kl X n0 tl ex k sJ wr)(hg:(wr.alloc o).grownBy w5 v12.ownBlock)(al:w5.ownsRow w.heap.size 3 1 v' (j+1+1) (aA (Rp.ends K hd tl j)++[.int .i64 (Rp.en K hd tl (j+1):Nat)])):qM K w rv kl X n0 hd F tl sx ex k (j+1) m v' sJ w5∧zF w kl X n0 tl ex k sJ w5:=by
 obtain⟨q1,q2,q3,q4,q5⟩:=h.grow hf h.ends (.inl rfl) hg
 refine⟨⟨q1,q2, ?_,q4.row h.j5 (fun b hb hm=> ?_),q3⟩,q5 _ CY⟩
 · rw[Rp.Jo]
   exact al
 · obtain⟨cur,fz,e⟩:=bj h.j5 b hb
   obtain⟨jU,OO,e'⟩:=bj h.ends b (by simpa using hm)
   exact fg e e' (by decide) rfl
theorem qM.exp{K:Nat→Int}{w:World}{rv:Value}{kl:List Ax.ay}{X:Nat→Bool}{n0:Nat}{hd F:List UInt8}{tl:List (List Int×List Int)}{sx ex k j m:Nat}{v12 sJ v':Value}{wr w5:World}{o:Obj}(h:qM K w rv kl X n0 hd F tl sx ex k j m v12 sJ wr)(CY:zF w kl X n0 tl ex k sJ wr)(hg:(wr.alloc o).grownBy w5 sJ.ownBlock)(al:w5.ownsRow w.heap.size 9 1 v' (m+1+1) (strCells (Rp.j5 K kl X hd tl m)++[.string (Rp.Hk K kl X hd (tl.take (m+1)))])):qM K w rv kl X n0 hd F tl sx ex k j (m+1) v12 v' w5:=by
 obtain⟨q1,q2,q3,q4,q5⟩:=h.grow CY h.j5 (.inr rfl) hg
 refine⟨q1,q2,q4.row h.ends (fun b hb hm=> ?_), ?_,q3⟩
 · obtain⟨cur,fz,e⟩:=bj h.ends b hb
   obtain⟨jU,OO,e'⟩:=bj h.j5 b (by simpa using hm)
   exact fg e e' (by decide) rfl
 · rw[Rp.Jl]
   exact al
end
end Go.Proofs.YtdmicblafmhflaaGreatDoor
