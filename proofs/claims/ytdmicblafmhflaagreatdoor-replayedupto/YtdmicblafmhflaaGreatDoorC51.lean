/- Replayed: the shop behind a script, with its log; the lists of the walk's own. -/
import Derived.Test.YtdmicblafmhflaaGreatDoorC50
set_option linter.unusedSimpArgs false
set_option linter.unusedVariables false
set_option maxHeartbeats 4000000
set_option maxRecDepth 100000
namespace Go.Proofs.YtdmicblafmhflaaGreatDoor
section
open Go.RowKit Go.Maps
theorem OP(c:Int)(n:Nat)(w:World)(hc:cr c)(hn:0<n)(Bt:n≤10000000000):Calls Tryz.prog 27 #[.int .i64 c,.int .i64 n] w fun e w'=>e=.returned (.int .i64 (Ax.bk c n))∧w'=w:=by
 obtain⟨h1,h2⟩:=hc
 by_cases h:c<0
 · have hb:decide (c<0)=true:=by simpa using h
   have e:=sr (c:=c) (n:=n) (d:= -(c+1)) (by rw[if_pos h]) (by omega) hn
   go_enter Tryz.func27,Tryz.ntmps27
   go_wp2
   go_ret
   exact⟨by rw[←e];rfl,rfl⟩
 · have hb:decide (c<0)=false:=by simpa using h
   have e:=sr (c:=c) (n:=n) (d:=c) (by rw[if_neg h]) (by omega) hn
   go_enter Tryz.func27,Tryz.ntmps27
   go_wp2
   go_ret
   exact⟨by rw[←e];rfl,rfl⟩
theorem nQ.Ve{w:World}{B eg:Nat}{kl:List Ax.ay}{gv:Nat→Bool}{n:Nat}{hd:List UInt8}{lg:List Value}{lv:Value}(h:nQ w B eg kl gv n)(k:eG w eg hd lg lv):lg.length≤1000*n:=by
 obtain⟨pl,rd,rc,l,gm,G,hm,T,s,DK,qk,ln,lx,eb,_,_,_,_,_,_,_,bS,nT,yS,_⟩:=h.at_
 have nR:lx.length=ln:=by have:=nT.1;omega
 have hHd:eG w eg DK lx qk:=⟨⟨_,_,_,_,eb⟩,bS,by rw[nR];exact aG nT (Nat.zero_le _)⟩
 have e:=k.same hHd
 subst e
 obtain⟨e1,e2⟩:=rV k.log hHd.log
 omega
theorem nQ.abT{w:World}{B eg:Nat}{kl:List Ax.ay}{gv:Nat→Bool}(h:nQ w B eg kl gv 0):∃hd F lv,eG w eg hd (Rc.bA F) lv:=by
 obtain⟨pl,rd,rc,l,gm,G,hm,T,s,DK,qk,ln,lx,eb,_,_,_,_,_,_,_,bS,nT,yS,_⟩:=h.at_
 have nR:lx.length=ln:=by have:=nT.1;omega
 have hx:lx=[]:=List.eq_nil_of_length_eq_zero (by omega)
 have NW:ln=0:=by omega
 subst hx
 subst NW
 exact⟨DK,[],qk,⟨_,_,_,_,eb⟩,bS,aG nT (Nat.zero_le _)⟩
theorem qb.some{K:Nat→Int}{w w':World}{sb eg:Nat}{ct:ByteArray}(h:qb K w w' sb eg ct)(k:∃hd F lv,eG w eg hd (Rc.bA F) lv):∃hd F lv,eG w' eg hd (Rc.bA F) lv:=by
 obtain⟨hd,F,lv,hk⟩:=k
 obtain⟨qk,h1,_,_⟩:=h _ _ _ hk
 rw[←Rc.eK]at h1
 exact⟨_,_,_,h1⟩
theorem Q6(K:Nat→Int)(w:World)(ad:Option Addr)(m c:Nat)(kl:List Ax.ay)(hR:qY w ad m c kl)(sd:Option Addr)(sn sc:Nat)(sl:List (List Int×List Int))(hS:yo w sd sn sc sl)(hs:sl.length≤2000000)(hK:Dg.uw w K)(hU:eW w):
 Calls Tryz.prog 22 #[.slice ad m c,.slice sd sn sc] w fun e w'=>∃sb eg,e=.returned (.pointer (some ⟨sb,0,none⟩))∧s8 w.heap.size w' sb eg (.slice ad (min m 6) c) kl (jl sl) (jl sl) sl.length∧Below w.heap.size w w'∧∃hd F lv,eG w' eg hd (Rc.bA F) lv:=by
 have yS:=hS.len
 subst yS
 have mG:=hS.cap
 have hmx:sc≤9223372036854775807:=hS.max
 have HSH:Hid (Calls Tryz.prog 13 #[.slice ad m c] w fun e w'=>∃sb eg,e=.returned (.pointer (some ⟨sb,0,none⟩))∧Hid (s8 w.heap.size w' sb eg (.slice ad (min m 6) c) kl (jl (sl.take 0)) (jl (sl.take 0)) 0∧Below w.heap.size w w')):=(LW K w ad m c kl hR hK).mono (fun e w' ⟨sb,eg,a,b⟩=>⟨sb,eg,a,b⟩)
 have IG:Hid (∀W sb eg gv n k (hk:k<sl.length) g o,n≤2000000→sd=some ⟨g,o,none⟩→s8 w.heap.size W sb eg (.slice ad (min m 6) c) kl gv gv n→(Below w.heap.size w W∧∃hd F lv,eG W eg hd (Rc.bA F) lv)→∃a1 n1 c1 a2 n2 c2,W.cell? ⟨g,o+k*2,none⟩=some (.slice a1 n1 c1)∧W.cell? ⟨g,o+k*2+1,none⟩=some (.slice a2 n2 c2)∧Calls Tryz.prog 15 #[.pointer (some ⟨sb,0,none⟩),.agg #[.slice a1 n1 c1,.slice a2 n2 c2]] W fun e w'=>e=.returned (.bool true)∧s8 w.heap.size w' sb eg (.slice ad (min m 6) c) kl (ir gv sl[k]) (ir gv sl[k]) (n+1)∧Below w.heap.size w w'∧∃hd F lv,eG w' eg hd (Rc.bA F) lv):=by
  intro W sb eg gv n k hk g o hn hsd hW fm
  obtain⟨hb,Z2⟩:=fm
  obtain⟨g',o',e,a1,n1,c1,a2,n2,c2,q1,q2,i1,i2⟩:=hS.at_ k hk
  rw[hsd]at e
  simp only[Option.some.injEq,Addr.mk.injEq,and_true]at e
  obtain⟨rfl,rfl⟩:=e
  have vA:∀W',Below w.heap.size W W'→Below w.heap.size w W':=fun W' h=>hb.trans h
  refine⟨a1,n1,c1,a2,n2,c2,bz hb q1,bz hb q2, ?_⟩
  refine(JP K w.heap.size W sb eg _ kl gv n hW hn (fun W' h=>⟨hK.below (vA W' h),Utf8Tabs_below hU (vA W' h)⟩) a1 n1 c1 _ (fun W' h _=>i1.below (vA W' h)) (fun g o e hl=>by have:=i1.lt g o e hl;have:=hW.le;omega) a2 n2 c2 _ (fun W' h _=>i2.below (vA W' h)) (fun g o e hl=>by have:=i2.lt g o e hl;have:=hW.le;omega)).mono ?_
  rintro e w' ⟨rfl,r1,r2,_,r4⟩
  exact⟨rfl,r1,hb.trans r2,r4.some Z2⟩
 have LG:Hid (∀k,k<sl.length→∃g o,sd=some ⟨g,o,none⟩):=fun k hk=>by
  obtain⟨g,o,e,_⟩:=hS.at_ k hk
  exact⟨g,o,e⟩
 clear hR hS hK hU
 go_enter Tryz.func22,Tryz.ntmps22
 go_wp2_with (go_at_call 13;refine HSH.out.mono ?_;rintro e w1 ⟨sb,eg,rfl,PI⟩)
 clear HSH
 go_loopw [6] (fun i wr=>∃(k:Nat),k≤sl.length∧i=.int .i64 k∧s8 w.heap.size wr sb eg (.slice ad (min m 6) c) kl (jl (sl.take k)) (jl (sl.take k)) k∧Below w.heap.size w wr∧∃hd F lv,eG wr eg hd (Rc.bA F) lv) (fun i _=>sl.length-(intOf i).toNat)
 case atStart=>exact⟨0,Nat.zero_le _,rfl,PI.out.1,PI.out.2,PI.out.1.Kr.abT⟩
 case round=>
  obtain⟨k,hk,rfl,hW,hb⟩:=hrel
  clear PI
  by_cases aE:k<sl.length
  · have LI:decide ((k:Int)<(sl.length:Int))=true:=decide_eq_true (by omega)
    obtain⟨g,o,PD⟩:=LG.out k aE
    obtain⟨a1,n1,c1,a2,n2,c2,q1,q2,GW⟩:=IG.out wr sb eg _ k k aE g o (by omega) PD hW hb
    have fR:Hid (jl (sl.take (k+1))=ir (jl (sl.take k)) sl[k]):=by
     have e0:sl.take (k+1)=sl.take k++[sl[k]]:=by rw[List.take_add_one,List.getElem?_eq_getElem aE];rfl
     have e1:jl (sl.take (k+1))=ir (jl (sl.take k)) sl[k]:=by rw[e0,Fx]
     exact e1
    rw[←fR.out]at GW
    have HAK:Hid _:=GW
    subst PD
    clear GW hW hb IG
    go_wp2_with (go_at_call 15;refine(show Calls Tryz.prog 15 _ _ _ from HAK.out).mono ?_;rintro e w5 ⟨rfl,hS5,hB5⟩)
    go_roundw
    case rel=>exact⟨k+1,aE,by go_num,hS5,hB5⟩
    case measure=>simp[intOf];omega
  · have LI:decide ((k:Int)<(sl.length:Int))=false:=decide_eq_false (by omega)
    have e9:k=sl.length:=by omega
    have HW:Hid (s8 w.heap.size wr sb eg (.slice ad (min m 6) c) kl (jl sl) (jl sl) sl.length∧Below w.heap.size w wr∧∃hd F lv,eG wr eg hd (Rc.bA F) lv):=by
     rw[e9,List.take_length]at hW
     exact⟨hW,hb⟩
    clear hW hb IG LG e9
    go_wp2_with fail
    all_goals
     (go_ret
      exact⟨sb,eg,rfl,HW.out⟩)
end
/- Replayed: how far a log that is cut reaches; the walk's own lists beside the engine. -/
section
open Go.RowKit Go.Maps
namespace Rp
def en(K:Nat→Int)(hd:List UInt8)(tl:List (List Int×List Int))(j:Nat):Nat:=(cD K hd (tl.take j)).length
theorem Qz(K:Nat→Int)(hd:List UInt8){tl:List (List Int×List Int)}{j:Nat}(hj:j<tl.length):en K hd tl (j+1)=en K hd tl j+(ku K (pX K hd (tl.take j)) tl[j]).length:=by
 unfold en
 rw[ko tl hj,oY,List.length_append]
theorem Sp(K:Nat→Int)(hd:List UInt8)(tl:List (List Int×List Int))(j:Nat):en K hd tl j≤640*tl.length:=by
 have h:=vE K (tl.take j) hd
 have h2:(tl.take j).length≤tl.length:=by rw[List.length_take];omega
 unfold en
 omega
theorem Ml(K:Nat→Int)(hd:List UInt8)(tl:List (List Int×List Int)):en K hd tl tl.length=(cD K hd tl).length:=by
 unfold en
 rw[List.take_length]
theorem Ah(K:Nat→Int)(hd:List UInt8)(tl:List (List Int×List Int))(k:Nat):cD K hd tl=cD K hd (tl.take k)++cD K (pX K hd (tl.take k)) (tl.drop k):=by
 rw[←rL,List.take_append_drop]
theorem RR(K:Nat→Int)(hd:List UInt8)(tl:List (List Int×List Int))(k:Nat):(cD K hd tl).take (en K hd tl k)=cD K hd (tl.take k):=by
 have h:=Ah K hd tl k
 unfold en
 generalize cD K hd (tl.take k)=a at h ⊢
 rw[h,List.take_left]
theorem RV(K:Nat→Int)(hd:List UInt8)(tl:List (List Int×List Int)){n k:Nat}(hk:k≤tl.length)(h1:en K hd tl k≤n)(h2:k=tl.length∨n<en K hd tl (k+1))(hn:n≤(cD K hd tl).length):∃t,(cD K hd tl).take n=cD K hd (tl.take k)++t∧Fe K hd tl k t∧(t=[]↔n=en K hd tl k):=by
 have hs:=Ah K hd tl k
 refine⟨(cD K (pX K hd (tl.take k)) (tl.drop k)).take (n-en K hd tl k), ?_,⟨hk, ?_⟩, ?_⟩
 · have e:(cD K hd (tl.take k)).take n=cD K hd (tl.take k):=List.take_of_length_le h1
   have h9:=congrArg (List.take n) hs
   rw[List.take_append,e]at h9
   exact h9
 · by_cases he:n=en K hd tl k
   · left
     rw[he,Nat.sub_self,List.take_zero]
   · right
     have CB:k<tl.length:=by
      rcases h2 with rfl | h2
      · rw[Ml]at h1 he
        omega
      · have:en K hd tl k<en K hd tl (k+1):=by omega
        by_cases hc:k<tl.length
        · exact hc
        · have va:k=tl.length:=by omega
          subst va
          rw[Ml]at h1 he
          omega
     have aE:n-en K hd tl k<(ku K (pX K hd (tl.take k)) tl[k]).length:=by
      rcases h2 with h2 | h2
      · omega
      · rw[Qz K hd CB]at h2
        omega
     have ed:tl.drop k=tl[k]::tl.drop (k+1):=List.drop_eq_getElem_cons CB
     refine⟨CB,(ku K (pX K hd (tl.take k)) tl[k]).drop (n-en K hd tl k), ?_, ?_, ?_⟩
     · intro h
       have:=congrArg List.length h
       rw[List.length_drop]at this
       simp at this
       omega
     · intro h
       have:=congrArg List.length h
       rw[ed,cD,List.length_take,List.length_append,List.length_nil]at this
       omega
     · rw[ed,cD,List.take_append_of_le_length (Nat.le_of_lt aE),List.take_append_drop]
 · constructor
   · intro h
     have h3:=congrArg List.length h
     rw[List.length_take]at h3
     have h4:=congrArg List.length hs
     rw[List.length_append]at h4
     have h5:(cD K hd (tl.take k)).length=en K hd tl k:=rfl
     rw[List.length_nil]at h3
     omega
   · intro h
     rw[h,Nat.sub_self,List.take_zero]
def ends(K:Nat→Int)(hd:List UInt8)(tl:List (List Int×List Int))(k:Nat):List Nat:=(List.range (k+1)).map (en K hd tl)
def IM(K:Nat→Int)(kl:List Ax.ay)(X:Nat→Bool)(hd:List UInt8)(l:List (List Int×List Int)):ByteArray:=⟨(Ex.body kl (kH X l)++pX K hd l).toArray⟩
def jY(K:Nat→Int)(kl:List Ax.ay)(X:Nat→Bool)(hd:List UInt8)(tl:List (List Int×List Int))(k:Nat):List ByteArray:=(List.range (k+1)).map fun j=>IM K kl X hd (tl.take j)
theorem KZ(K:Nat→Int)(hd:List UInt8)(tl:List (List Int×List Int))(k:Nat):aA (ends K hd tl (k+1))=aA (ends K hd tl k)++[.int .i64 (en K hd tl (k+1):Nat)]:=by
 unfold ends aA
 rw[List.range_succ,List.map_append,List.map_append]
 rfl
theorem Jv(K:Nat→Int)(kl:List Ax.ay)(X:Nat→Bool)(hd:List UInt8)(tl:List (List Int×List Int))(k:Nat):strCells (jY K kl X hd tl (k+1))=strCells (jY K kl X hd tl k)++[.string (IM K kl X hd (tl.take (k+1)))]:=by
 unfold jY strCells
 rw[List.range_succ,List.map_append,List.map_append]
 rfl
theorem N1(K:Nat→Int)(hd:List UInt8)(tl:List (List Int×List Int)){k j:Nat}(h:j≤k):(aA (ends K hd tl k))[j]?=some (.int .i64 (en K hd tl j:Nat)):=by
 unfold ends aA
 rw[List.map_map,List.getElem?_map,List.getElem?_range (by omega)]
 rfl
theorem Mn(K:Nat→Int)(kl:List Ax.ay)(X:Nat→Bool)(hd:List UInt8)(tl:List (List Int×List Int)){k j:Nat}(h:j≤k):(strCells (jY K kl X hd tl k))[j]?=some (.string (IM K kl X hd (tl.take j))):=by
 unfold jY strCells
 rw[List.map_map,List.getElem?_map,List.getElem?_range (by omega)]
 rfl
end Rp
theorem lM.step{w w':World}{B eg:Nat}{kl:List Ax.ay}{gv:Nat→Bool}{n f:Nat}(h:lM w B eg kl gv n f){S0:List Nat}(hk:Kb S0 w w')(h0:∀b,b∈S0→∃(cur:Array Value) (t:TypeId) (fz:Nat×Nat),w.heap[b]?=some (.cells cur t fz)∧(t=43∨(t=3∨t=9)∧b<f)):lM w' B eg kl gv n f:=by
 intro S W lN hS
 refine h (S0++S.filter (fun b=>decide (b<w.heap.size))) W ?_ ?_
 · exact(hk.mono (fun i hi _=>List.mem_append.2 (.inl hi))).trans' lN (fun i hi aE=>List.mem_append.2 (.inr (List.mem_filter.2 ⟨hi,decide_eq_true aE⟩)))
 · intro b hb
   rcases List.mem_append.1 hb with h1 | h1
   · exact h0 b h1
   · rw[List.mem_filter]at h1
     by_cases bL:b∈S0
     · exact h0 b bL
     · obtain⟨cur,t,fz,e,ht⟩:=hS b h1.1
       rw[hk.block b (of_decide_eq_true h1.2) bL]at e
       exact⟨cur,t,fz,e,ht⟩
structure qK(K:Nat→Int)(w:World)(rv:Value)(kl:List Ax.ay)(X:Nat→Bool)(n0:Nat)(hd F:List UInt8)(tl:List (List Int×List Int))(sx ex k j m:Nat)(v12 sI:Value)(wr:World):Prop where
 x:s8 w.heap.size wr sx ex rv kl (kH X (tl.take k)) (kH X (tl.take k)) (n0+k)
 Wk:∃lv,eG wr ex (Rp.pX K hd (tl.take k)) (Rc.bA (F++Rp.cD K hd (tl.take k))) lv
 ends:wr.ownsRow w.heap.size 3 1 v12 (j+1) (aA (Rp.ends K hd tl j))
 jY:wr.ownsRow w.heap.size 9 1 sI (m+1) (strCells (Rp.jY K kl X hd tl m))
 aZ:Below w.heap.size w wr
theorem qK.below{K:Nat→Int}{w:World}{rv:Value}{kl:List Ax.ay}{X:Nat→Bool}{n0:Nat}{hd F:List UInt8}{tl:List (List Int×List Int)}{sx ex k j m:Nat}{v12 sI:Value}{wr w':World}(h:qK K w rv kl X n0 hd F tl sx ex k j m v12 sI wr)(hb:Below wr.heap.size wr w'):qK K w rv kl X n0 hd F tl sx ex k j m v12 sI w':=by
 obtain⟨lv,h1⟩:=h.Wk
 exact⟨h.x.below hb,⟨lv,h1.below hb⟩,ae h.ends hb,ae h.jY hb,h.aZ.trans (hb.mono h.aZ.size)⟩
structure zK(w:World)(kl:List Ax.ay)(X:Nat→Bool)(n0:Nat)(tl:List (List Int×List Int))(ex k:Nat)(v:Value)(wr:World):Prop where
 ep:∃f,lM wr w.heap.size ex kl (kH X (tl.take k)) (n0+k) f∧∀b,v.ownBlock=some b→b<f
theorem zK.below{w:World}{kl:List Ax.ay}{X:Nat→Bool}{n0:Nat}{tl:List (List Int×List Int)}{ex k:Nat}{v:Value}{wr w':World}(h:zK w kl X n0 tl ex k v wr)(hb:Below wr.heap.size wr w'):zK w kl X n0 tl ex k v w':=by
 obtain⟨f,h1,h2⟩:=h.ep
 exact⟨f,h1.step (Kb.bF hb []) (fun b hb=>by cases hb),h2⟩
theorem qK.step{K:Nat→Int}{w:World}{rv:Value}{kl:List Ax.ay}{X:Nat→Bool}{n0:Nat}{hd F:List UInt8}{tl:List (List Int×List Int)}{sx ex k:Nat}{v12 sI:Value}{wr w':World}(h:qK K w rv kl X n0 hd F tl sx ex k k k v12 sI wr)(hk:k<tl.length)
 (h1:s8 w.heap.size w' sx ex rv kl (ir (kH X (tl.take k)) tl[k]) (ir (kH X (tl.take k)) tl[k]) (n0+k+1))(h2:Below w.heap.size w w')(h3:qb K wr w' sx ex (Rp.ct tl[k]))(h4:lM w' w.heap.size ex kl (ir (kH X (tl.take k)) tl[k]) (n0+k+1) wr.heap.size):qK K w rv kl X n0 hd F tl sx ex (k+1) k k v12 sI w'∧zK w kl X n0 tl ex (k+1) v12 w'∧zK w kl X n0 tl ex (k+1) sI w':=by
 have e1:tl.take (k+1)=tl.take k++[tl[k]]:=ko tl hk
 have e2:kH X (tl.take (k+1))=ir (kH X (tl.take k)) tl[k]:=by rw[e1,yx]
 obtain⟨lv,hh⟩:=h.Wk
 obtain⟨qk,q1,q2,q3⟩:=h3 _ _ _ hh
 have SF:=h.x.lQ
 unfold fw at SF
 obtain⟨_,_,_,_,ZS⟩:=hh.at_
 have iM:∀(b:Nat) (cur:Array Value) (t:TypeId) (fz:Nat×Nat),wr.heap[b]?=some (.cells cur t fz)→t≠43→t≠109→t≠5→¬b∈sx::ex::lv.ownBlock.toList:=by
  intro b cur t fz e n1 n2 n3
  simp only[List.mem_cons,Option.mem_toList]
  rintro(h | h | h)
  · exact fg e SF n1 h
  · exact fg e ZS n2 h
  · obtain⟨jX,Pn,e'⟩:=bj hh.log b h
    exact fg e e' n3 rfl
 refine⟨⟨?_,⟨qk, ?_⟩,q2.row h.ends ?_,q2.row h.jY ?_,h2⟩,⟨wr.heap.size, ?_,fun b hb=>(h.ends.lt b hb).2⟩,⟨wr.heap.size, ?_,fun b hb=>(h.jY.lt b hb).2⟩⟩
 · rw[e2];exact h1
 · rw[e1,Rp.Ej,Rp.oY,←List.append_assoc,Rc.eK]
   exact q1
 · intro b hb
   obtain⟨cur,fz,e⟩:=bj h.ends b hb
   exact iM b _ _ _ e (by decide) (by decide) (by decide)
 · intro b hb
   obtain⟨cur,fz,e⟩:=bj h.jY b hb
   exact iM b _ _ _ e (by decide) (by decide) (by decide)
 · rw[e2];exact h4
 · rw[e2];exact h4
theorem qK.grow{K:Nat→Int}{w:World}{rv:Value}{kl:List Ax.ay}{X:Nat→Bool}{n0:Nat}{hd F:List UInt8}{tl:List (List Int×List Int)}{sx ex k j m:Nat}{v12 sI v:Value}{wr w5:World}{o:Obj}(h:qK K w rv kl X n0 hd F tl sx ex k j m v12 sI wr)(hf:zK w kl X n0 tl ex k v wr){t:TypeId}{N:Nat}{xs:List Value}(hv:wr.ownsRow w.heap.size t 1 v N xs)(ht:t=3∨t=9)(hg:(wr.alloc o).grownBy w5 v.ownBlock):s8 w.heap.size w5 sx ex rv kl (kH X (tl.take k)) (kH X (tl.take k)) (n0+k)∧(∃lv,eG w5 ex (Rp.pX K hd (tl.take k)) (Rc.bA (F++Rp.cD K hd (tl.take k))) lv)∧Below w.heap.size w w5∧Kb v.ownBlock.toList wr w5∧∀u,zK w kl X n0 tl ex k u wr→zK w kl X n0 tl ex k u w5:=by
 have hk:Kb v.ownBlock.toList wr w5:=(Kb.bF ((Below.refl _ _).alloc (Nat.le_refl _) o) _).trans (Kb.dz hg)
 have SF:=h.x.lQ
 unfold fw at SF
 obtain⟨lv,hh⟩:=h.Wk
 obtain⟨pl0,rv0,gm0,hm0,ZS⟩:=hh.at_
 have hS:∀b,b∈v.ownBlock.toList→∃cur fz,wr.heap[b]?=some (.cells cur t fz):=fun b hb=>bj hv b (by simpa using hb)
 have iM:∀(b:Nat) (cur:Array Value) (u:TypeId) (fz:Nat×Nat),wr.heap[b]?=some (.cells cur u fz)→u≠t→¬b∈v.ownBlock.toList:=by
  intro b cur u fz e n1 hb
  obtain⟨jX,Pn,e'⟩:=hS b hb
  exact fg e e' n1 rfl
 have Dd:∀f,(∀b,v.ownBlock=some b→b<f)→∀b,b∈v.ownBlock.toList→∃(cur:Array Value) (u:TypeId) (fz:Nat×Nat),wr.heap[b]?=some (.cells cur u fz)∧(u=43∨(u=3∨u=9)∧b<f):=by
  intro f aE b hb
  obtain⟨jX,Pn,e'⟩:=hS b hb
  exact⟨jX,t,Pn,e',.inr ⟨ht,aE b (by simpa using hb)⟩⟩
 obtain⟨f,hp,aE⟩:=hf.ep
 refine⟨⟨?_,hp _ _ hk (Dd f aE),h.x.le⟩,⟨lv,⟨_,_,_,_,hk.heap ZS (iM _ _ _ _ ZS (by rcases ht with rfl | rfl<;>decide))⟩,hh.Jw,hk.row hh.log (fun b hb=> ?_)⟩,hk.aK h.aZ h.aZ.size (fun b hb=>(hv.lt b (by simpa using hb)).1),hk, ?_⟩
 · unfold fw
   exact hk.heap SF (iM _ _ _ _ SF (by rcases ht with rfl | rfl<;>decide))
 · obtain⟨jX,Pn,e'⟩:=bj hh.log b hb
   exact iM b _ _ _ e' (by rcases ht with rfl | rfl<;>decide)
 · intro u hu
   obtain⟨g,hq,oH⟩:=hu.ep
   by_cases hc:∀b,v.ownBlock=some b→b<g
   · exact⟨g,hq.step hk (Dd g hc),oH⟩
   · have Ia:g≤f:=by
      obtain⟨b,hb⟩:=Classical.not_forall.1 hc
      obtain⟨a8,cM⟩:=Classical.not_imp.1 hb
      have:=aE b a8
      omega
     exact⟨f,hp.step hk (Dd f aE),fun b hb=>Nat.lt_of_lt_of_le (oH b hb) Ia⟩
theorem qK.end{K:Nat→Int}{w:World}{rv:Value}{kl:List Ax.ay}{X:Nat→Bool}{n0:Nat}{hd F:List UInt8}{tl:List (List Int×List Int)}{sx ex k j m:Nat}{v12 sI v':Value}{wr w5:World}{o:Obj}(h:qK K w rv kl X n0 hd F tl sx ex k j m v12 sI wr)(hf:zK w kl X n0 tl ex k v12 wr)(CJ:zK w kl X n0 tl ex k sI wr)(hg:(wr.alloc o).grownBy w5 v12.ownBlock)(al:w5.ownsRow w.heap.size 3 1 v' (j+1+1) (aA (Rp.ends K hd tl j)++[.int .i64 (Rp.en K hd tl (j+1):Nat)])):qK K w rv kl X n0 hd F tl sx ex k (j+1) m v' sI w5∧zK w kl X n0 tl ex k sI w5:=by
 obtain⟨q1,q2,q3,q4,q5⟩:=h.grow hf h.ends (.inl rfl) hg
 refine⟨⟨q1,q2, ?_,q4.row h.jY (fun b hb hm=> ?_),q3⟩,q5 _ CJ⟩
 · rw[Rp.KZ]
   exact al
 · obtain⟨cur,fz,e⟩:=bj h.jY b hb
   obtain⟨jX,Pn,e'⟩:=bj h.ends b (by simpa using hm)
   exact fg e e' (by decide) rfl
theorem qK.exp{K:Nat→Int}{w:World}{rv:Value}{kl:List Ax.ay}{X:Nat→Bool}{n0:Nat}{hd F:List UInt8}{tl:List (List Int×List Int)}{sx ex k j m:Nat}{v12 sI v':Value}{wr w5:World}{o:Obj}(h:qK K w rv kl X n0 hd F tl sx ex k j m v12 sI wr)(CJ:zK w kl X n0 tl ex k sI wr)(hg:(wr.alloc o).grownBy w5 sI.ownBlock)(al:w5.ownsRow w.heap.size 9 1 v' (m+1+1) (strCells (Rp.jY K kl X hd tl m)++[.string (Rp.IM K kl X hd (tl.take (m+1)))])):qK K w rv kl X n0 hd F tl sx ex k j (m+1) v12 v' w5:=by
 obtain⟨q1,q2,q3,q4,q5⟩:=h.grow CJ h.jY (.inr rfl) hg
 refine⟨q1,q2,q4.row h.ends (fun b hb hm=> ?_), ?_,q3⟩
 · obtain⟨cur,fz,e⟩:=bj h.ends b hb
   obtain⟨jX,Pn,e'⟩:=bj h.jY b (by simpa using hm)
   exact fg e e' (by decide) rfl
 · rw[Rp.Jv]
   exact al
end
end Go.Proofs.YtdmicblafmhflaaGreatDoor
