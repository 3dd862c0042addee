/- The parser: peek, take. -/
import Derived.Test.YtdmicblafmhflaaGreatDoorC00
import Derived.Deep.RegionWith
import Derived.Deep.LoopGhost
import Derived.Lib.Builder
import Derived.Lib.AppendStr
import Derived.Lib.UnsafeStr
import Derived.Lib.Strings
import Derived.Lib.Walk
import Derived.Lib.BufferWrite
import Derived.Lib.Hide
import Derived.Laws.MakeOwn
import Derived.Laws.OwnMore
import Derived.Laws.CopyRow
import Derived.Lib.AppendZerosOnto
import Derived.Lib.ConvBytes
import Derived.Deep.RegionLaw
import Derived.Deep.RegionHeld3
set_option linter.unusedSimpArgs false
set_option linter.unusedVariables false
set_option maxHeartbeats 4000000
set_option maxRecDepth 100000
namespace Go.Proofs.YtdmicblafmhflaaGreatDoor
open Go.Proofs.Tryz Go.RowKit
variable{t:Ax.Tok}{A y q:List Ax.Tok}{xs:List Value}{i e j n k:Nat}{u a b v c x:Value}{w w1 w2 w':World}
def fi(w:World)(pb:Nat)(tv:Value)(ak:List Ax.Tok)(nx:Nat):Prop:=
 w.heap[pb]?=some (.cells #[tv,.int .i64 nx] 205 (0,0))/\w.ownsRow 0 210 3 tv ak.length (dJ ak)/\nx<ak.length/\ak.length<=1000/\Ax.Ends ak
theorem kr(l k)(h:k<l.length):
 (dJ l)[k*3]?=some (.int .i64 l[k].kind)/\(dJ l)[k*3+1]?=some (.int .i64 l[k].at_)/\(dJ l)[k*3+2]?=some (.string l[k].text):=by
 induction l generalizing k with
 | nil=>simp at h
 | cons a l ih=>
  cases k with
  | zero=>simp[dJ]
  | succ k=>
   have:=ih k (by simpa using h);have e:∀j,(dJ (a::l))[(k+1)*3+j]?=(dJ l)[k*3+j]?:=by
    intro j;have:dJ (a::l)=[.int .i64 a.kind,.int .i64 a.at_,.string a.text]++dJ l:=by simp[dJ]
    rw[this,abr (by simp;omega)];congr 1;simp;omega
   have i:=e 0;simp only[acV]at i;rw[i,e 1,e 2];simpa using this
theorem iE{i:List Ax.Tok}(j:i[e]?=some t):∃h:e<i.length,i[e]=t:=abt.1 j
theorem fi.cells{A q}(h:fi w i A y q)(J:y[q]?=some t):
 ∃u cap,A=.slice (some ⟨u,0,none⟩) y.length cap/\w.cell? ⟨i,0,none⟩=some A/\w.cell? ⟨i,1,none⟩=some (.int .i64 q)/\i<w.heap.size/\u<w.heap.size/\u≠i/\
  w.frozen? ⟨i,1,none⟩=false/\y.length<=cap/\
  w.cell? ⟨u,q*3,none⟩=some (.int .i64 t.kind)/\w.cell? ⟨u,q*3+1,none⟩=some (.int .i64 t.at_)/\w.cell? ⟨u,q*3+2,none⟩=some (.string t.text):=by
 obtain⟨x,I,V,M,W⟩:=h;obtain⟨_,rfl⟩:=iE J;rcases I.2 with⟨rfl,X⟩ | ⟨g,cap,U,rfl,_,B,N,_⟩
 ·omega
 ·have D:=acw I (g:=g) rfl;have O:∀j,(⟨g,0,none⟩:Addr).add j=⟨g,j,none⟩:=by intro j;unfold Addr.add;split<;>simp_all
  obtain⟨c0,c1,c2⟩:=kr y q V;have H:=D _ _ c0;have F:=D _ _ c1;have E:=D _ _ c2;rw[O]at H F E;refine⟨g,cap,rfl, ?_, ?_,lt_of_heap x,lt_of_heap B, ?_, ?_,N,H,F,E⟩
  ·rw[aaB _ i 0 _ _ _ x];rfl
  ·rw[aaB _ i 1 _ _ _ x];rfl
  ·intro e;rw[e,x]at B;simp at B
  ·simp[World.frozen?,x]
theorem jH(h:fi w i u q j)(x:Hid (q[j]?=some t)):
 Calls prog 105 #[.pointer (some ⟨i,0,none⟩)] w λe w'=>e=.returned (.agg #[.int .i64 t.kind,.int .i64 t.at_,.string t.text])/\Below w.heap.size w w':=by
 have I:=h.2.2.1;have y:=h.2.2.2.1;obtain⟨A,cap,rfl,c0,c1,J,N,H,M,B,F,E,D⟩:=h.cells x.out;clear h
 go_enter func105,ntmps105
 go_wp2_with fail
 go_region
 all_goals (try go_wp2_with fail)
 exact aaT (by simp[results,Tryz.results105,go_sem]) rfl ⟨rfl,aM.drew⟩
theorem aG{row}(h:w.grownBy w1 row)(k:w1.grownBy w2 row):w.grownBy w2 row:=
 ⟨k.os.trans h.os,k.tape.trans h.tape,k.output.trans h.output,aaK h.size k.size,λi j e=>(k.block i (aa7 j h.size) e).trans (h.block i j e)⟩
theorem bz(h:Below w.heap.size w w')(row):w.grownBy w' row:=⟨h.os,h.tape,h.output,h.size,λk e _=>h.block k e⟩
theorem gF{row}:w.grownBy w row:=⟨rfl,rfl,rfl,OF _,λ_ _ _=>rfl⟩
theorem grownBy_alloc{row}(h:w.grownBy w1 row){o}:w.grownBy (w1.alloc o) row:=aG h (ael w1 o row)
theorem kC{row}(h:w.grownBy w1 row):w.grownBy w1.drew row:=⟨h.os,h.tape,h.output,h.size,h.block⟩
theorem grownBy_setCell(a v):w.grownBy (w.setCell a v) (some a.block):=
 ⟨rfl,rfl,rfl,by simp[World.setCell],λk _ i=>abO _ _ _ _ (λe=>i (by rw[e]))⟩
theorem di{row}(h:w.grownBy w1 row){a}(j:w.heap.size<=a.block)(v):w.grownBy (w1.setCell a v) row:=
 ⟨h.os,h.tape,h.output,by have:=h.size;simp[World.setCell];omega,λk i e=>(abO _ _ _ _ (by omega)).trans (h.block k i e)⟩
theorem fi.below{i t}(h:fi w e i t j)(q:Below w.heap.size w w'):fi w' e i t j:=
 ⟨(q.block e (lt_of_heap h.1)).trans h.1,ae h.2.1 q,h.2.2⟩
theorem aB{b e e' size row}(h:w.ownsRow b e size v n xs)(u:w.grownBy w' row)
 (q:∀k,row=some k->∃i fz,w.heap[k]?=some (.cells i e' fz))(y:e≠e':=by decide):w'.ownsRow b e size v n xs:=by
 refine h.kept u ?_;rcases h.2 with⟨rfl,_⟩ | ⟨g,cap,i,rfl,_,j,_⟩
 ·exact .inl rfl
 ·refine .inr λx=>?_;obtain⟨A,fz,t⟩:=q g x.symm;rw[t]at j;simp at j;exact y j.2.1.symm
theorem fi.step{j t}(h:fi w i j q t)(A:w.grownBy w' (some i))(u:w'.heap[i]?=some (.cells #[j,.int .i64 e] 205 (0,0)))(x:e<q.length):fi w' i j q e:=
 ⟨u,aB h.2.1 A (e':=205) (λk y=>by cases y;exact⟨_,_,h.1⟩),x,h.2.2.2⟩
theorem Tryz.tU(a b c w):(Instr.field 210 (.agg #[.int .i64 a,.int .i64 b,.string c]) 0).run prog w=.ok (.int .i64 a) w:=by kernel_rfl
theorem Tryz.MH(a b c w):(Instr.field 210 (.agg #[.int .i64 a,.int .i64 b,.string c]) 1).run prog w=.ok (.int .i64 b) w:=by kernel_rfl
theorem Gv{t}(h:w.heap[e]?=some (.cells #[a,b] t (0,0))):(w.setCell ⟨e,1,none⟩ c).heap[e]?=some (.cells #[a,c] t (0,0)):=by
 simp only[World.setCell,Array.getElem?_modify,h];simp
theorem iI(i A q j)(h:fi w i A q j)(x:Hid (q[j]?=some t)){kd}(y:(t.kind==kd)=true)(I:2<=kd:=by decide):
 Calls prog 223 #[.pointer (some ⟨i,0,none⟩),.int .i64 kd] w λe w'=>e=.returned (.bool true)/\fi w' i A q (j+1)/\w.grownBy w' (some i):=by
 have E:j+1<q.length:=by
  obtain⟨D,e⟩:=iE x.out;have J:t.kind=kd:=by simpa using y
  exact h.2.2.2.2.next D (by rw[e];omega) (by rw[e];omega)
 have B:=h.2.2.2.1;have M:(t.kind != kd)=false:=by simpa using y
 clear y;have F:=Tryz.tU
 go_enter func223,ntmps223
 go_wp2_with (go_at_call 105;refine(jH h x).mono ?_;rintro e w1 ⟨rfl,u⟩;obtain⟨H,cap,_,_,c1,N,_,_,O,_⟩:=(h.below u).cells x.out)
 go_ret;refine⟨rfl, ?_, ?_⟩
 ·refine(h.below u).step (grownBy_setCell _ _) ?_ E;rw[Gv (h.below u).1]
  go_num
 ·exact aG (bz u _) (grownBy_setCell _ _)
theorem km(i x u j)(h:fi w i x u j)(y:Hid (u[j]?=some t)){kd}(q:(t.kind==kd)=false):
 Calls prog 223 #[.pointer (some ⟨i,0,none⟩),.int .i64 kd] w λe w'=>e=.returned (.bool false)/\Below w.heap.size w w':=by
 have D:(t.kind != kd)=true:=by simpa using q
 clear q;have B:=Tryz.tU
 go_enter func223,ntmps223
 go_wp2_with (go_at_call 105;refine(jH h y).mono ?_;rintro e w1 ⟨rfl,A⟩)
 go_ret;exact⟨rfl,A⟩
/- The parser: term. -/
theorem fi.alloc{e}(h:fi w i e q j)(o):fi (w.alloc o) i e q j:=
 h.below ((aaj _ _).alloc (OF _) o)
theorem fi.row{q t row e'}(h:fi w i q y t)(x:w.grownBy w' row)
 (u:∀k,row=some k->∃e fz,w.heap[k]?=some (.cells e e' fz))(B:205≠e')(A:210≠e'):fi w' i q y t:=by
 refine⟨?_,aB h.2.1 x u A,h.2.2⟩;rw[x.block i (lt_of_heap h.1) ?_]
 ·exact h.1
 ·intro D;obtain⟨e,fz,j⟩:=u i D.symm;rw[h.1]at j;simp at j;exact B j.2.1
theorem heap_setCell_same{off e t fz}(h:w.heap[k]?=some (.cells e t fz))(v):(w.setCell ⟨k,off,none⟩ v).heap[k]?=some (.cells (e.setIfInBounds off v) t fz):=by
 simp only[World.setCell,Array.getElem?_modify,h];simp
theorem aq{e t fz}(h:w.heap[k]?=some (.cells e t fz))(j):w.cell? ⟨k,j,none⟩=e[j]?:=by
 rw[aaB _ k j _ _ _ h]
theorem aJ{e t}(h:w.heap[k]?=some (.cells e t (0,0)))(j):w.frozen? ⟨k,j,none⟩=false:=by
 simp[World.frozen?,h]
theorem nG{x j t}(h:fi w i u A x)(q:Below (w.heap.size+1) (w.alloc j) w1)(e:(w1.alloc t).grownBy w2 (some i)):
 w2.heap[w1.heap.size]?=some t/\w2.heap[w.heap.size]?=some j/\w.grownBy w2 (some i)/\w.heap.size<w1.heap.size/\w1.heap.size<w2.heap.size:=by
 have D:=lt_of_heap h.1;have y:=q.size;have B:=e.size;simp only[abb]at y B;refine⟨?_, ?_, ?_,by omega,by omega⟩
 ·rw[e.block _ (by simp) (by simp;omega)];exact By _ _
 ·rw[e.block _ (by simp;omega) (by simp;omega),aay _ _ _ (by omega),q.block _ (by omega)];exact By _ _
 ·refine aG ?_ e;refine aG ?_ (ael _ _ _);refine aG (ael w j _) (bz (q.mono (by simp)) _)
theorem Ih{q u}(t:w2.heap[k]?=some (.cells #[a,b] 310 (0,0))){d}(E:w.grownBy w2 (some e))(B:fi w2 e q A u)(x:w.heap.size<=k):
 ((w2.setCell ⟨k,0,none⟩ c).setCell ⟨k,1,none⟩ d).heap[k]?=some (.cells #[c,d] 310 (0,0))/\w.grownBy ((w2.setCell ⟨k,0,none⟩ c).setCell ⟨k,1,none⟩ d) (some e)/\fi ((w2.setCell ⟨k,0,none⟩ c).setCell ⟨k,1,none⟩ d) e q A u:=by
 have y:=heap_setCell_same (off:=0) t c;have D:=heap_setCell_same (off:=1) y d;refine⟨by rw[D];rfl,di (di E x c) x d, ?_⟩;refine(B.row (grownBy_setCell _ _) (e':=310) (λj i=>?_) (by decide) (by decide)).row (grownBy_setCell _ _) (e':=310) (λj i=>?_) (by decide) (by decide)
 ·cases i;exact⟨_,_,t⟩
 ·cases i;exact⟨_,_,y⟩
theorem N2(w j I F x)(h:fi w j I F x)(t)(y:Hid (F[x]?=some t)){c B ok}(W:((t.kind==2)=true/\c=0/\B=t.text/\ok=true/\n=x+1)\/(t.kind==2)=false/\((t.kind==3)=true/\c=1/\B=t.text/\ok=true/\n=x+1\/(t.kind==3)=false/\c=0/\B=⟨#[]⟩/\ok=false/\n=x)):
 Calls prog 283 #[.pointer (some ⟨j,0,none⟩)] w λe w'=>e=.returned (.tuple #[.agg #[.int .i64 c,.string B],.bool ok])/\fi w' j I F n/\w.grownBy w' (some j):=by
 have Nw:=lt_of_heap h.1;obtain⟨E,rfl,rfl,rfl,rfl⟩ | ⟨E,⟨D,rfl,rfl,rfl,rfl⟩ | ⟨D,rfl,rfl,rfl,rfl⟩⟩:=W
 all_goals
  (go_enter func283,ntmps283
   go_wp2_with (first | (go_at_call 105;refine(jH (h.alloc _) y).mono ?_;rintro e w1 ⟨rfl,H⟩;rw[abb]at H;have i:=((h.alloc (.cells #[.int .i64 0,.string ⟨#[]⟩] 310)).below (by rw[abb];exact H)).alloc (.cells #[.int .i64 t.kind,.int .i64 t.at_,.string t.text] 210)) | ((first | (go_at_call_of 223 (Value.int IntKind.i64 2);first | (refine(iI _ _ _ _ i y E).mono ?_;rintro e w2 ⟨rfl,i,u⟩) | (refine(km _ _ _ _ i y E).mono ?_;rintro e w2 ⟨rfl,A⟩;have i:=i.below A;have u:=bz A (some j))) | (go_at_call_of 223 (Value.int IntKind.i64 3);first | (refine(iI _ _ _ _ i y D).mono ?_;rintro e w2 ⟨rfl,i,M⟩;have u:=aG u M) | (refine(km _ _ _ _ i y D).mono ?_;rintro e w2 ⟨rfl,A⟩;have i:=i.below A;have u:=aG u (bz A (some j)))));obtain⟨q,r,X,Wn,N⟩:=nG h H u;have c2:=aq q 2;have f0:=aJ r 0;have Z:=aJ r 1;have U:=aq r 0;have O:=aq r 1;simp only[aaV,abw,abY]at c2 U O))
   obtain⟨V,Y,J⟩:=Ih r X i (OF _);exact aaT (by simp[results,Tryz.results283,go_sem,aq V]) rfl ⟨rfl,J,Y⟩)
/- The parser: terms. -/
theorem Gb(h:fi w i u q j)(x:Hid (q[j]?=some t))(y:Hid (t.kind=2\/t.kind=3)):
 Calls prog 283 #[.pointer (some ⟨i,0,none⟩)] w λe w'=>e=.returned (.tuple #[.agg #[.int .i64 (t.kind-2),.string t.text],.bool true])/\fi w' i u q (j+1)/\w.grownBy w' (some i):=by
 rcases y.out with e | e
 ·rw[show t.kind-2=0 by omega];exact N2 w i u q j h t x (.inl ⟨by simp[e],rfl,rfl,rfl,rfl⟩)
 ·rw[show t.kind-2=1 by omega];exact N2 w i u q j h t x (.inr ⟨by simp[e],.inl ⟨by simp[e],rfl,rfl,rfl,rfl⟩⟩)
def cw(l:List Ax.Term):List Value:=l.flatMap λt=>[.int .i64 t.kind,.string t.text]
theorem oS(l t):cw (l++[t])=cw l++[.int .i64 t.kind,.string t.text]:=by simp[cw]
theorem Tryz.Pn:(prog.info? 310).map (λi=>(i.zero,i.size,i.bytes))=some (some (.agg #[.int .i64 0,.string ByteArray.empty]),2,24):=by kernel_rfl
theorem oE{row}(h:w.grownBy w1 (some j))(i:w1.grownBy w2 row)(t:∀k,row=some k->w.heap.size<=k):w.grownBy w2 (some j):=
 ⟨i.os.trans h.os,i.tape.trans h.tape,i.output.trans h.output,aaK h.size i.size,λk q u=>(i.block k (aa7 q h.size) (λe=>by have:=t k e.symm;omega)).trans (h.block k q u)⟩
theorem au{b e size}(h:w.ownsRow b e size v n xs):∀k,v.ownBlock=some k->∃i fz,w.heap[k]?=some (.cells i e fz):=by
 intro k j;rcases h.2 with⟨rfl,_⟩ | ⟨g,cap,i,rfl,_,q,_⟩
 ·simp[Value.ownBlock]at j
 ·simp[Value.ownBlock]at j;subst j;exact⟨_,_,q⟩
theorem dj{b j q e size}(h:w.ownsRow b e size v n xs)(t:fi w i j A q)(x:w.grownBy w' (some i))(y:e≠205:=by decide):w'.ownsRow b e size v n xs:=
 aB h x (e':=205) (λk u=>by cases u;exact⟨_,_,t.1⟩) y
theorem en{o t}:∀(j:Nat) (u:Value),xs[j]?=some u->((w.alloc o).alloc (.cells xs.toArray t)).cell? ((⟨w.heap.size+1,0,none⟩:Addr).add j)=some u:=by
 have:=dn (w.alloc o) t xs;rw[abb]at this;exact this
theorem vq{q t j i}(u:w1.ownsRow w.heap.size 310 2 v n xs)(A:fi w1 e q y t)(D:w.grownBy w1 (some e))
 (x:((w1.alloc j).alloc i).grownBy w2 v.ownBlock):fi w2 e q y t/\w.grownBy w2 (some e):=
 ⟨((A.alloc j).alloc i).row x (au ((u.alloc j).alloc i)) (by decide) (by decide),
  oE (grownBy_alloc (grownBy_alloc D)) x (λk B=>(u.lt k B).1)⟩
def OI(w wr:World)(pb:Nat)(tv:Value)(ak:List Ax.Tok)(v:Value)(nx k:Nat)(acc:List Ax.Term)(R:Option (List Ax.Term)×Nat):Prop:=
 fi wr pb tv ak nx/\wr.ownsRow w.heap.size 310 2 v acc.length (cw acc)/\w.grownBy wr (some pb)/\acc.length<=nx/\ak.length<=nx+k/\Ax.cf ak k nx acc=R
theorem Bn(w F V j D)(h:fi w F V j D):
 Calls prog 260 #[.pointer (some ⟨F,0,none⟩)] w λe w'=>fi w' F V j (Ax.cf j j.length D []).2/\w.grownBy w' (some F)/\
  ((∃v W,e=.returned (.tuple #[v,.bool true])/\(Ax.cf j j.length D []).1=some W/\w'.ownsRow w.heap.size 310 2 v W.length (cw W))\/
   (e=.returned (.tuple #[.slice none 0 0,.bool false])/\(Ax.cf j j.length D []).1=none)):=by
 obtain⟨i0,hi,cE,ch,cz⟩:=abF Tryz.Pn;generalize hR:Ax.cf j j.length D []=R;have Nw:=lt_of_heap h.1
 go_enter func260,ntmps260
 go_wp2_with fail
 go_loopg [4] j.length (λk v wr=>∃(i:Nat) (q:List Ax.Term),OI w wr F V j v i k q R)
 ·exact⟨D,[],h,aaM _ _ _ _,gF,IS _,by omega,hR⟩
 ·
  obtain⟨i,q,y,aE,O,C5,hlen,hr⟩:=hrel;have aL:=y.2.2.1;have hle:=y.2.2.2.1;have cp:=O.size;cases gk with
  | zero=>omega
  | succ k=>
  obtain⟨t,I⟩:∃t,j[i]?=some t:=⟨_,AS aL⟩;have E:=aj I;have AU:=aj hr;clear I hr hR;by_cases N:t.kind=2\/t.kind=3
  ·have u:=aj N;clear N;have FX:i+1<j.length:=by
    obtain⟨_,e⟩:=iE E.out;have:=u.out;exact y.2.2.2.2.next aL (by rw[e];omega) (by rw[e];omega)
   obtain⟨t',I⟩:∃t,j[i+1]?=some t:=⟨_,AS FX⟩;have M:=aj I;clear I;have SE:Hid (Ax.kP j i=(some ⟨t.kind-2,t.text⟩,i+1)):=Ax.xP E.out u.out;cases U:(t'.kind==6)
   case true=>
    have X:Hid (Ax.cf j (k+1) i q=Ax.cf j k (i+1+1) (q++[⟨t.kind-2,t.text⟩])):=Ax.BA SE.out (by rw[Ax.cQ M.out];simpa using U)
    go_wp2_with (first | (go_at_call 283;refine(Gb y E u).mono ?_;rintro e w1 ⟨rfl,A,x⟩;have B:=dj aE y x;have iS:=x.size) | (at_builtin;refine abp _ rfl (.tmp 14) (.tmp 16) 217 rfl w.heap.size 310 i0 _ 2 24 Tryz.underlying217 hi cE ch cz rfl (by decide) _ _ _ rfl ((B.alloc _).alloc _) ⟨w1.heap.size+1,0,none⟩ 1 1 [.int .i64 (t.kind-2),.string t.text] rfl rfl (en) (by simp[Value.oneCell']) eI (by omega) (by simp;omega) ?_;intro v2 w2 aO H _;obtain⟨J,Y⟩:=vq B A (aG O x) H;clear H B A) | (go_at_call 223;refine(iI _ _ _ _ J M U).mono ?_;rintro e w3 ⟨rfl,WE,Cx⟩;have cm:=dj aO J Cx))
    go_roundg k
    case measure=>omega
    case rel=>
     refine⟨i+1+1,q++[⟨t.kind-2,t.text⟩],WE, ?_,aG Y Cx,by simp;omega,by omega,X.out.symm.trans AU.out⟩;rw[oS];simpa using cm
   case false=>
    have X:Hid (Ax.cf j (k+1) i q=(some (q++[⟨t.kind-2,t.text⟩]),i+1)):=Ax.oO SE.out (by rw[Ax.cQ M.out];simpa using U)
    go_wp2_with (first | (go_at_call 283;refine(Gb y E u).mono ?_;rintro e w1 ⟨rfl,A,x⟩;have B:=dj aE y x;have iS:=x.size) | (at_builtin;refine abp _ rfl (.tmp 14) (.tmp 16) 217 rfl w.heap.size 310 i0 _ 2 24 Tryz.underlying217 hi cE ch cz rfl (by decide) _ _ _ rfl ((B.alloc _).alloc _) ⟨w1.heap.size+1,0,none⟩ 1 1 [.int .i64 (t.kind-2),.string t.text] rfl rfl (en) (by simp[Value.oneCell']) eI (by omega) (by simp;omega) ?_;intro v2 w2 aO H _;obtain⟨J,Y⟩:=vq B A (aG O x) H;clear H B A) | (go_at_call 223;refine(km _ _ _ _ J M U).mono ?_;rintro e w3 ⟨rfl,Z⟩;have cm:=ae aO Z))
    go_ret2
    have e:=AU.out.symm.trans X.out;refine⟨by rw[e];exact J.below Z,aG Y (bz Z _),.inl ⟨_,q++[⟨t.kind-2,t.text⟩],rfl,by rw[e], ?_⟩⟩;rw[oS];simpa using cm
  ·have S3:Hid (Ax.cf j (k+1) i q=(none,i)):=Ax.uR (Ax.zE E.out N);have k2:(t.kind==2)=false:=by simp;omega
   have k3:(t.kind==3)=false:=by simp;omega
   clear N
   go_wp2_with (go_at_call 283;refine(N2 _ _ _ _ _ y _ E (.inr ⟨k2,.inr ⟨k3,rfl,rfl,rfl,rfl⟩⟩)).mono ?_;rintro e w1 ⟨rfl,A,x⟩)
   go_ret2
   have e:=AU.out.symm.trans S3.out;exact⟨by rw[e];exact A.alloc _,grownBy_alloc (aG O x),.inr ⟨rfl,by rw[e]⟩⟩
theorem IE{t u}(h:fi w i t q u)(D:Hid (Ax.cf q q.length u []=(none,j))):
 Calls prog 260 #[.pointer (some ⟨i,0,none⟩)] w λe w'=>e=.returned (.tuple #[.slice none 0 0,.bool false])/\fi w' i t q j/\w.grownBy w' (some i):=by
 refine(Bn w i t q u h).mono ?_;rintro e w' ⟨x,B,y⟩;rw[D.out]at x y;rcases y with⟨v,E,_,A,_⟩ | ⟨rfl,_⟩
 ·simp at A
 ·exact⟨rfl,x,B⟩
theorem Jd{q t y i}(h:fi w q x t y)(H:Hid (Ax.cf t t.length y []=(some i,j))):
 Calls prog 260 #[.pointer (some ⟨q,0,none⟩)] w λe w'=>∃ad c,e=.returned (.tuple #[.slice ad i.length c,.bool true])/\fi w' q x t j/\w.grownBy w' (some q)/\w'.ownsRow w.heap.size 310 2 (.slice ad i.length c) i.length (cw i):=by
 refine(Bn w q x t y h).mono ?_;rintro e w' ⟨A,F,B⟩;rw[H.out]at A B;rcases B with⟨v,E,rfl,u,D⟩ | ⟨_,u⟩
 ·simp at u;subst u;obtain⟨a,c,rfl⟩:∃a c,v=.slice a i.length c:=by
   rcases D.2 with⟨rfl,e⟩ | ⟨g,cap,I,rfl,_⟩
   ·rw[e];exact⟨none,0,rfl⟩
   ·exact⟨_,_,rfl⟩
  exact⟨a,c,rfl,A,F,D⟩
 ·simp at u
/- The parser: atom. -/
theorem ah{b e size}(h:w.ownsRow b e size v n xs):∃a c,v=.slice a n c:=by
 rcases h.2 with⟨rfl,rfl⟩ | ⟨g,cap,i,rfl,_⟩
 ·exact⟨none,0,rfl⟩
 ·exact⟨_,_,rfl⟩
theorem sn{t E A}(u:w2.heap[k]?=some (.cells #[a,b,c] 219 (0,0))){y z}(I:w.grownBy w2 (some i))(F:fi w2 i t E A)(q:w.heap.size<=k):
 (((w2.setCell ⟨k,0,none⟩ x).setCell ⟨k,1,none⟩ y).setCell ⟨k,2,none⟩ z).heap[k]?=some (.cells #[x,y,z] 219 (0,0))/\w.grownBy (((w2.setCell ⟨k,0,none⟩ x).setCell ⟨k,1,none⟩ y).setCell ⟨k,2,none⟩ z) (some i)/\fi (((w2.setCell ⟨k,0,none⟩ x).setCell ⟨k,1,none⟩ y).setCell ⟨k,2,none⟩ z) i t E A:=by
 have D:=heap_setCell_same (off:=0) u x;have B:=heap_setCell_same (off:=1) D y;have H:=heap_setCell_same (off:=2) B z;refine⟨by rw[H];rfl,di (di (di I q x) q y) q z, ?_⟩;refine((F.row (grownBy_setCell _ _) (e':=219) (λj e=>?_) (by decide) (by decide)).row (grownBy_setCell _ _) (e':=219) (λj e=>?_) (by decide) (by decide)).row (grownBy_setCell _ _) (e':=219) (λj e=>?_) (by decide) (by decide)
 ·cases e;exact⟨_,_,u⟩
 ·cases e;exact⟨_,_,D⟩
 ·cases e;exact⟨_,_,B⟩
theorem vP{T}(t:w2.heap[k]?=some (.cells #[a,b,c] T (0,0))){y z bs e size}(h:w2.ownsRow bs e size v n xs)(q:e≠T):
 (((w2.setCell ⟨k,0,none⟩ x).setCell ⟨k,1,none⟩ y).setCell ⟨k,2,none⟩ z).ownsRow bs e size v n xs:=by
 have u:=heap_setCell_same (off:=0) t x;have w:=heap_setCell_same (off:=1) u y;refine aB (aB (aB h (grownBy_setCell _ _) (e':=T) (λj i=>?_) q) (grownBy_setCell _ _) (e':=T) (λj i=>?_) q) (grownBy_setCell _ _) (e':=T) (λj i=>?_) q
 ·cases i;exact⟨_,_,t⟩
 ·cases i;exact⟨_,_,u⟩
 ·cases i;exact⟨_,_,w⟩
theorem MT{B t}(h:w.heap[B]?=some (.cells #[a,b,c] t (0,0))):w.cell? ⟨B,0,none⟩=some a/\w.cell? ⟨B,1,none⟩=some b/\w.cell? ⟨B,2,none⟩=some c/\w.frozen? ⟨B,0,none⟩=false/\w.frozen? ⟨B,1,none⟩=false/\w.frozen? ⟨B,2,none⟩=false:=⟨aq h 0,aq h 1,aq h 2,aJ h 0,aJ h 1,aJ h 2⟩
def AtC(ak:List Ax.Tok)(nx:Nat)(A:Option Ax.Atom×Nat):Prop:=∃t,Hid (ak[nx]?=some t)/\((t.kind==2)=false/\A=(none,nx)\/(t.kind==2)=true/\∃t',Hid (ak[nx+1]?=some t')/\((t'.kind==4)=false/\A=(none,nx+1)\/(t'.kind==4)=true/\∃j,(Hid (Ax.cf ak ak.length (nx+1+1) []=(none,j))/\A=(none,j)\/∃ts,Hid (Ax.cf ak ak.length (nx+1+1) []=(some ts,j))/\∃t3,Hid (ak[j]?=some t3)/\((t3.kind==5)=false/\A=(none,j)\/(t3.kind==5)=true/\A=(some ⟨t.at_,t.text,ts⟩,j+1)))))
theorem atC{e}(A:Ax.Ends e)(F:i<e.length):AtC e i (Ax.bY e i):=by
 have u:=AS F;refine⟨_,u, ?_⟩;by_cases t:(e[i]).kind=2
 case neg=>exact .inl ⟨by simpa using t,Ax.DI u t⟩
 have I:=A.next F (by omega) (by omega);have D:=AS I;have E:=Ax.cQ D;refine .inr ⟨by simpa using t,_,D, ?_⟩;by_cases y:(e[i+1]).kind=4
 case neg=>exact .inl ⟨by simpa using y,Ax.C6 u t (by rw[E];exact y)⟩
 have q:Ax.aS e (i+1)=4:=by rw[E];exact y
 have M:=A.next I (by omega) (by omega);obtain⟨⟨_ | J,j⟩,w⟩:∃R,Ax.cf e e.length (i+1+1) []=R:=⟨_,rfl⟩
 ·exact .inr ⟨by simpa using y,j,.inl ⟨w,Ax.C0 u t q w⟩⟩
 ·have B:=AS (Ax.pP A _ _ _ M w);have H:=Ax.cQ B;refine .inr ⟨by simpa using y,j,.inr ⟨J,w,_,B, ?_⟩⟩;by_cases x:Ax.aS e j=5
  ·exact .inr ⟨by rw[H]at x;simpa using x,Ax.Dd u t q w x⟩
  ·exact .inl ⟨by rw[H]at x;simpa using x,Ax.Da u t q w x⟩
theorem ET(w A H E J)(h:fi w A H E J):
 Calls prog 222 #[.pointer (some ⟨A,0,none⟩)] w λe w'=>fi w' A H E (Ax.bY E J).2/\w.grownBy w' (some A)/\
  ((∃ad c a,e=.returned (.tuple #[.agg #[.int .i64 a.at_,.string a.pred,.slice ad a.af.length c],.bool true])/\(Ax.bY E J).1=some a/\w'.ownsRow w.heap.size 310 2 (.slice ad a.af.length c) a.af.length (cw a.af))\/
   (∃x y ad n c,e=.returned (.tuple #[.agg #[.int .i64 x,.string y,.slice ad n c],.bool false])/\(Ax.bY E J).1=none)):=by
 obtain⟨t,O,⟨V,e⟩ | ⟨V,t',rX,⟨Y,e⟩ | ⟨Y,j,⟨W,e⟩ | ⟨ts,W,t3,zV,⟨X,e⟩ | ⟨X,e⟩⟩⟩⟩⟩:=atC h.2.2.2.2 h.2.2.1
 all_goals
  (rw[e]
   clear e;have Nw:=lt_of_heap h.1
   go_enter func222,ntmps222
   go_wp2_with (first | (go_at_call 105;refine(jH (h.alloc _) O).mono ?_;rintro e w1 ⟨rfl,F⟩;rw[abb]at F;have i:=((h.alloc (.cells #[.int .i64 0,.string ⟨#[]⟩,.slice none 0 0] 219)).below (by rw[abb];exact F)).alloc (.cells #[.int .i64 t.kind,.int .i64 t.at_,.string t.text] 210)) | ((first | (go_at_call_of 223 (Value.int IntKind.i64 2);first | (refine(km _ _ _ _ i O V).mono ?_;rintro e w2 ⟨rfl,D⟩;have i:=i.below D;have u:=bz D (some A)) | (refine(iI _ _ _ _ i O V).mono ?_;rintro e w2 ⟨rfl,i,u⟩)) | (go_at_call_of 223 (Value.int IntKind.i64 4);first | (refine(km _ _ _ _ i rX Y).mono ?_;rintro e w3 ⟨rfl,D⟩;have i:=i.below D;have u:=aG u (bz D (some A))) | (refine(iI _ _ _ _ i rX Y).mono ?_;rintro e w3 ⟨rfl,i,B⟩;have u:=aG u B)) | (go_at_call 260;have GS:=(nG h F u).2.2.1.size;first | (refine(IE i W).mono ?_;rintro e w4 ⟨rfl,i,B⟩;have u:=aG u B) | (refine(Jd i W).mono ?_;rintro e w4 ⟨ad,c,rfl,i,B,aE⟩;have u:=aG u B)));obtain⟨q,r,Z,l1,l2⟩:=nG h F u;obtain⟨k0,k1,k2,f0,f1,f2⟩:=MT r;obtain⟨c0,c1,c2,_⟩:=MT q)))
 iterate 3
  ·obtain⟨M,N,I⟩:=sn r Z i (OF _);exact aaT (by simp[results,Tryz.results222,go_sem,aq M]) rfl ⟨I,N,.inr ⟨0,⟨#[]⟩,none,0,0,rfl,aeU⟩⟩
 all_goals
  (go_region_with (go_at_call 223;(first | (refine(km A H E j (by exact i) zV X).mono ?_;rintro e w5 ⟨rfl,D⟩;have i:=fi.below (by exact i) D;have u:=aG (kC u) (bz D (some A))) | (refine(iI A H E j (by exact i) zV X).mono ?_;rintro e w5 ⟨rfl,U,B⟩;have aE:=dj (w:=w4.drew) aE (by exact i) B;have u:=aG (kC u) B;have i:=U));obtain⟨q,r,Z,l1,l2⟩:=nG h F u;obtain⟨k0,k1,k2,f0,f1,f2⟩:=MT r;obtain⟨c0,c1,c2,_⟩:=MT q)
   all_goals (go_wp2_with fail)
   all_goals (obtain⟨M,N,I⟩:=sn r Z i (OF _);first | exact aaT (by simp[results,Tryz.results222,go_sem,aq M]) rfl ⟨I,N,.inr ⟨t.at_,t.text,ad,ts.length,c,rfl,aeU⟩⟩ | exact aaT (by simp[results,Tryz.results222,go_sem,aq M]) rfl ⟨I,N,.inl ⟨ad,c,⟨t.at_,t.text,ts⟩,rfl,rfl,aD (vP r aE (by decide)) GS⟩⟩))
/- strings.Builder: copyCheck, WriteString, String. -/
theorem Tryz.uT:(prog.info? 314).map (·.size)=some 2:=by kernel_rfl
theorem Tryz.F5:liesAt prog prog.depth 314 (2/prog.cellsOf 314) 0 314 1=true:=by kernel_rfl
theorem Tryz.mE:(prog.info? 5).map (λi=>(i.zero,i.size,i.bytes))=some (some (.int .u8 0),1,1):=by kernel_rfl
theorem Tryz.BG:prog.cellsOf 5=1:=by kernel_rfl
def Tx(B:Nat)(w:World)(b:Nat)(l:List UInt8):Prop:=
 ∃p v,(p=.pointer none\/p=.pointer (some ⟨b,0,none⟩))/\w.heap[b]?=some (.cells #[p,v] 314 (0,0))/\w.ownsRow B 5 1 v l.length (Lib.byteCells l)/\(l=[]->v=.slice none 0 0)
theorem xz(b w)(t:w.cell? ⟨b,0,none⟩=some (.pointer (some ⟨b,0,none⟩))):
 Calls prog 229 #[.pointer (some ⟨b,0,none⟩)] w λe w'=>e=.returned (.tuple #[])/\w'=w:=by
 obtain⟨j,i,_⟩:=Option.map_eq_some_iff.1 Tryz.uT
 go_enter func229,ntmps229
 have q:=Lib.run_neq_ptr_same (P:=prog) w ⟨b,0,none⟩ Tryz.underlying312 i;clear i
 go_wp2_with fail
 go_end0;exact⟨rfl,rfl⟩
theorem vQ(b w)(B:w.cell? ⟨b,0,none⟩=some (.pointer none))(t:w.shape? b=some (314,2))(D:w.frozen? ⟨b,0,none⟩=false):
 Calls prog 229 #[.pointer (some ⟨b,0,none⟩)] w λe w'=>e=.returned (.tuple #[])/\w'=w.setCell ⟨b,0,none⟩ (.pointer (some ⟨b,0,none⟩)):=by
 obtain⟨j,q,i⟩:=Option.map_eq_some_iff.1 Tryz.uT;have u:=λw' (hs:w'.shape? b=some (314,2))=>Lib.run_to_unsafe (P:=prog) w' ⟨b,0,none⟩ Tryz.underlying312 Tryz.underlying390 q (by rw[i];decide) hs (Nat.zero_lt_succ 1);have x:=u w t;have A:(callFunc 263 #[.pointer (some ⟨b,0,none⟩)]).run prog w=.ok (.value (.pointer (some ⟨b,0,none⟩))) w:=by
  rw[run_callFunc_extern func263 (by kernel_rfl) (by kernel_rfl) (by kernel_rfl) (e:=Extern.AbiNoEscape.same) (by kernel_rfl),Lib.run_noEscape];rfl
 have y:=Lib.run_from_unsafe (P:=prog) w ⟨b,0,none⟩ Tryz.underlying390 Tryz.underlying312 q t Tryz.F5;clear u q
 go_enter func229,ntmps229
 go_wp2_with fail
 go_end0;exact⟨rfl,rfl⟩
theorem AB(B b v p)(j:p=.pointer none\/p=.pointer (some ⟨b,0,none⟩))(i:w.heap[b]?=some (.cells #[p,v] 314 (0,0)))(q:B<=b):
 Calls prog 229 #[.pointer (some ⟨b,0,none⟩)] w λe w'=>e=.returned (.tuple #[])/\w'.heap[b]?=some (.cells #[.pointer (some ⟨b,0,none⟩),v] 314 (0,0))/\Below B w w'/\w.grownBy w' (some b):=by
 rcases j with rfl | rfl
 ·refine(vQ b w ?_ ?_ (aJ i 0)).mono ?_
  ·rw[aq i];rfl
  ·simp[World.shape?,i]
  ·rintro e w' ⟨rfl,rfl⟩;exact⟨rfl,by rw[heap_setCell_same i];rfl,(aaj _ _).setCell q _,grownBy_setCell _ _⟩
 ·refine(xz b w ?_).mono ?_
  ·rw[aq i];rfl
  ·rintro e w' ⟨rfl,rfl⟩;exact⟨rfl,i,aaj _ _,gF⟩
theorem byteCells_append(l m):Lib.byteCells (l++m)=Lib.byteCells l++Lib.byteCells m:=by simp[Lib.byteCells]
theorem MK{s}(h:s.data.toList=[]):s=ByteArray.empty:=by
 rcases s with⟨⟨l⟩⟩;simp at h;subst h;rfl
theorem zH(s):Lib.strCells s=Lib.byteCells s.data.toList:=rfl
theorem vL(B b:Nat){l s}(h:Tx B w b l)(y:B<=b)(hlen:l.length+s.size<=1000000):
 Calls prog 184 #[.pointer (some ⟨b,0,none⟩),.string s] w λe w'=>e=.returned (.tuple #[.int .i64 s.size,.nilIface])/\Tx B w' b (l++s.data.toList)/\Below B w w':=by
 obtain⟨p,v,I,t,Y,Z⟩:=h;have aL:=lt_of_heap t
 go_enter func184,ntmps184
 go_wp2_with (go_at_call 229;refine(AB B b v p I t y).mono ?_)
 rintro e w1 ⟨rfl,q,F,A⟩;have u:w1.ownsRow B 5 1 v l.length (Lib.byteCells l):=aB Y A (e':=314) (λk i=>by cases i;exact⟨_,_,t⟩);have iS:=A.size;have c0:=aq q 0;have c1:=aq q 1;simp only[aaV,abw,abY]at c0 c1
 go_wp2_with (at_builtin;obtain⟨H,M,X,W,U⟩:=abF Tryz.mE;refine Lib.wpList_append_own_string _ rfl _ _ 63 9 rfl B 5 H aci abK M X W U _ _ _ rfl u s rfl eI (by omega) (by omega) ?_)
 intro v' w2 E D x;have j:w2.heap[b]?=some (.cells #[.pointer (some ⟨b,0,none⟩),v] 314 (0,0)):=by
  rw[D.block b (by omega) ?_]
  ·exact q
  ·intro e;obtain⟨V,fz,i⟩:=au u b e.symm;rw[q]at i;simp at i
 have O:=aq j 1;have f1:=aJ j 1;simp only[aaV,abw,abY]at O;obtain⟨ao,cap,rfl⟩:=ah E
 go_wp2_with fail
 go_ret2
 have N:Below B w w2:=F.grown D (by omega) (λk i=>(u.lt k i).1);refine⟨rfl,⟨_,_,.inr rfl,by rw[heap_setCell_same j];rfl, ?_, ?_⟩,N.setCell y _⟩
 ·rw[byteCells_append,<-zH,If];refine aB (by simpa using E) (grownBy_setCell _ _) (e':=314) (λk i=>by cases i;exact⟨_,_,j⟩)
 ·intro J;obtain⟨rfl,F3⟩:=List.append_eq_nil_iff.1 J;exact x.2 ⟨Z rfl,MK F3⟩
/- strings.Clone: the same bytes. -/
theorem Fh(s)(Z:s.size<=281474976710656):
 Calls prog 176 #[.string s] w λe w'=>e=.returned (.string s)/\Below w.heap.size w w':=by
 by_cases E:s.size=0
 ·have hs:s=⟨#[]⟩:=by
   apply ByteArray.ext;exact Array.eq_empty_of_size_eq_zero E
  subst hs
  go_enter func176,ntmps176
  go_wp2_with fail
  go_ret;exact⟨rfl,aaj _ _⟩
 ·have cq:(((s.size:Nat):Int)==0)=false:=ab1.2 (by omega);obtain⟨D,t,V,F,O⟩:=abF Tryz.mE;have B:(prog.info? 5).map (·.size)=some 1:=by rw[t];simp[F]
  obtain⟨M,A⟩:∃M,M=madeCells (Value.int .u8 0).cells (((s.size:Nat):Int).toNat*D.size):=⟨_,rfl⟩;have N:M.size=s.size:=by rw[A,size_madeCells,F];simp
  have rW:∀W:World,(Instr.makeSlice 63 (.int .i64 (s.size:Int)) (.int .i64 (s.size:Int))).run prog W=.ok (.slice (some ⟨W.heap.size,0,none⟩) s.size s.size) (W.alloc (.cells M 5)):=λW=>by
   have h:=run_make (P:=prog) W 63 5 D (.int .u8 0) aci t V .i64 .i64 (s.size:Int) (s.size:Int) (by omega) (by omega) (by rw[O];omega) (by omega);rw[<-A]at h;simpa using h
  clear A t;have H:=Lib.run_copy_row_string (P:=prog) (w.alloc (.cells M 5)) 63 9 3 5 w.heap.size 0 s.size s.size s M 5 aci B (By w _) (OF _) (by omega);obtain⟨Y,u⟩:∃Y,Y=(M.toList.take 0++Lib.byteCells s.data.toList++M.toList.drop (0+s.size)).toArray:=⟨_,rfl⟩;rw[<-u]at H;have q:Y.toList=Lib.byteCells s.data.toList:=by
   rw[u,adJ,List.take_zero,acp,abG (by rw[abP];omega),aby]
  have J:Y.size=s.size:=by rw[<-abP,q,Lib.byteCells_length,<-Lib.size_eq]
  have i:((w.alloc (.cells M 5)).setRow w.heap.size Y).heap[w.heap.size]?=some (.cells Y 5 (0,0)):=setRow_heap _ _ M _ 5 (0,0) (By w _);have X:s.data.toList≠[]:=λe=>E (by rw[Lib.size_eq,e];rfl);have y:=Lib.run_unsafeString_row (P:=prog) ((w.alloc (.cells M 5)).setRow w.heap.size Y) 351 3 9 5 Tryz.underlying351 Tryz.BG w.heap.size Y.size (by unfold World.shape?;rw[i]) s.data.toList X (by rw[<-Lib.size_eq];omega) (by rw[<-Lib.size_eq];omega)
   (λj x I=>Lib.cells_of_row i Y.size j _ (by rw[aaP (by rw[abP];exact OF _),q];simp[Lib.byteCells,I]))
  rw[<-Lib.size_eq]at y;clear u
  go_enter func176,ntmps176
  go_wp2_with fail
  go_ret;have aV:Below w.heap.size w (w.alloc (.cells M 5)):=(aaj _ w).alloc (OF _) _;have U:Below w.heap.size (w.alloc (.cells M 5)) ((w.alloc (.cells M 5)).setRow w.heap.size Y):=⟨rfl,rfl,rfl,by simp,λk hk=>setRow_other _ _ _ _ (by omega)⟩;exact⟨rfl,Lib.below_freeze (aV.trans U) (p:=⟨w.heap.size,0,none⟩) (OF _) _⟩
theorem uf(s w)(i:s.size<=281474976710656):
 Calls prog 102 #[.string s] w λe w'=>e=.returned (.string s)/\Below w.heap.size w w':=by
 go_enter func102,ntmps102
 go_wp2_with (go_at_call 176;refine(Fh s i).mono ?_;rintro e w1 ⟨rfl,j⟩)
 go_ret;exact⟨rfl,j⟩
variable{a:Act}{S:List Nat}{xs:List Value}{n i j f:Nat}{o:Oper}{P:Program}{e:TypeId}{v:Value}{w w1 w2 w':World}
theorem fH(P w B F E elem g o q y a u A e t cs k m)
 (H:P.underlying B=some (.slice elem))(hs:(P.info? elem).map (·.size)=some k)
 (N:w.heap[g]?=some (.cells e t (0,0)))(hm:m=Nat.min u q)(I:cs.length=m*k)
 (V:∀j v,cs[j]?=some v->w.cell? (a.add j)=some v)(D:o+cs.length<=e.size)(O:∀v∈cs,v.oneCell'=true):
 (Builtin.copy_ #[B,F] E #[.slice (some ⟨g,o,none⟩) q y,.slice (some a) u A]).run P w=
   .ok (goInt m) (w.setRow g (e.toList.take o++cs++e.toList.drop (o+cs.length)).toArray):=by
 have J:=run_loadCells_list (P:=P) w a cs V;have U:=run_storeCells_at P g o t cs 0 e w N (by simpa using D) O;cases x:P.info? elem with
 | none=>simp[x]at hs
 | some i=>
  have M:i.size=k:=by simpa [x]using hs
  simp[Builtin.copy_,acQ H,Builtin.lenOf,Builtin.firstCells,sizeOf,typeInfo,x,M,<-hm,<-I,J,U]
structure Kb(S:List Nat)(w w':World):Prop where
 os:w'.os=w.os
 tape:w'.tape=w.tape
 output:w'.output=w.output
 size:w.heap.size<=w'.heap.size
 block:∀k,k<w.heap.size->¬k∈S->w'.heap[k]?=w.heap[k]?
theorem Kb.refl(S w):Kb S w w:=⟨rfl,rfl,rfl,OF _,λ_ _ _=>rfl⟩
theorem Kb.trans(h:Kb S w w1)(k:Kb S w1 w2):Kb S w w2:=
 ⟨k.os.trans h.os,k.tape.trans h.tape,k.output.trans h.output,aaK h.size k.size,λi j e=>(k.block i (aa7 j h.size) e).trans (h.block i j e)⟩
theorem Kb.trans'{S'}(h:Kb S w w1)(k:Kb S' w1 w2)(u:∀i,i∈S'->i<w.heap.size->i∈S):Kb S w w2:=
 ⟨k.os.trans h.os,k.tape.trans h.tape,k.output.trans h.output,aaK h.size k.size,λi j q=>(k.block i (aa7 j h.size) (λe=>q (u i e j))).trans (h.block i j q)⟩
theorem Kb.mono{S'}(h:Kb S w w')(u:∀i,i∈S->i<w.heap.size->i∈S'):Kb S' w w':=
 ⟨h.os,h.tape,h.output,h.size,λi j q=>h.block i j (λe=>q (u i e j))⟩
theorem Kb.drew(h:Kb S w w'):Kb S w w'.drew:=⟨h.os,h.tape,h.output,h.size,h.block⟩
theorem Kb.alloc(h:Kb S w w')(o:Obj):Kb S w (w'.alloc o):=
 h.trans ⟨rfl,rfl,rfl,by simp,λk e _=>aay _ _ _ e⟩
theorem Kb.below(h:Kb S w w1)(k:Below w1.heap.size w1 w2):Kb S w w2:=
 h.trans ⟨k.os,k.tape,k.output,k.size,λi e _=>k.block i e⟩
theorem Kb.bD(k:Below w.heap.size w w1)(S):Kb S w w1:=(Kb.refl S w).below k
theorem Kb.eS{row}(k:w.grownBy w1 row):Kb row.toList w w1:=
 ⟨k.os,k.tape,k.output,k.size,λi q j=>k.block i q (λe=>j (by rw[<-e];simp))⟩
theorem Kb.aQ{w0 B}(h:Kb S w w')(q:Below B w0 w)(x:B<=w.heap.size)(j:∀i,i∈S->B<=i):Below B w0 w':=
 q.trans ⟨h.os,h.tape,h.output,h.size,λi u=>h.block i (by omega) (λe=>by have:=j i e;omega)⟩
theorem Kb.heap(h:Kb S w w'){k o}(e:w.heap[k]?=some o)(i:¬k∈S):w'.heap[k]?=some o:=by
 rw[h.block k (adZ.1 e).1 i,e]
theorem Kb.row{base size}(h:Kb S w w')(j:w.ownsRow base e size v n xs)(y:∀b,v.ownBlock=some b->¬b∈S):w'.ownsRow base e size v n xs:=by
 refine⟨j.1, ?_⟩;rcases j.2 with A | ⟨g,cap,i,rfl,x,u,q⟩
 ·exact .inl A
 ·exact .inr ⟨g,cap,i,rfl,x,h.heap u (y g rfl),q⟩
theorem Kb.aR{base size}(h:Kb S w w')(q:w.ownsRow base e size v n xs)(y:∀b i fz,b∈S->w.heap[b]?=some (.cells i e fz)->False):w'.ownsRow base e size v n xs:=by
 refine h.row q ?_;intro b j x;rcases q.2 with⟨rfl,_⟩ | ⟨g,cap,i,rfl,_,u,_⟩
 ·cases j
 ·simp only[Value.ownBlock,AT]at j;subst j;exact y _ _ _ x u
theorem bQ(w:World)(g){cs e t i}(h:w.heap[g]?=some (.cells e t i)):(w.setRow g cs).heap[g]?=some (.cells cs t i):=setRow_heap w g e cs t i h
theorem iJ(w:World)(g k cs)(h:k≠g):(w.setRow g cs).heap[k]?=w.heap[k]?:=by
 simp only[World.setRow,Array.getElem?_modify];rw[aaD (by omega)]
theorem Kb.setRow(w g cs):Kb [g] w (w.setRow g cs):=
 ⟨rfl,rfl,rfl,by simp[World.setRow],λk _ e=>iJ w g k cs (by simpa using e)⟩
theorem Kb.setCell(w a v):Kb [a.block] w (w.setCell a v):=
 ⟨rfl,rfl,rfl,by simp[World.setCell],λk _ e=>abO _ _ _ _ (by simpa using e)⟩
def aZ(w:World)(v v':Value):Prop:=∀b,v'.ownBlock=some b->v.ownBlock=some b\/w.heap.size<=b
theorem aZ.refl(w v):aZ w v v:=λ_ h=>.inl h
theorem aZ.mono{W u}(h:aZ W u v)(hs:w.heap.size<=W.heap.size):aZ w u v:=by grind [aZ]
theorem aZ.trans{u x}(h:aZ w u v)(k:aZ w1 v x)(hs:w.heap.size<=w1.heap.size):aZ w u x:=by grind [aZ]
section
variable {w w':World} {g:Nat} {t:TypeId} {fz:Nat × Nat} {a0 a1 a2 a3 a4 a5 a6 a7 a8 a9 a10 a11 a12 v:Value} {l:List Value}
theorem mA(h:w.heap[g]?=some (.cells (a0::l).toArray t fz)):w.cell? ⟨g,0,none⟩=some a0:=by rw[aaB _ _ _ _ _ _ h];rfl
theorem ow(h:w.heap[g]?=some (.cells (a0::a1::l).toArray t fz)):w.cell? ⟨g,1,none⟩=some a1:=by rw[aaB _ _ _ _ _ _ h];rfl
theorem rq(h:w.heap[g]?=some (.cells (a0::a1::a2::l).toArray t fz)):w.cell? ⟨g,2,none⟩=some a2:=by rw[aaB _ _ _ _ _ _ h];rfl
theorem E4(h:w.heap[g]?=some (.cells (a0::a1::a2::a3::l).toArray t fz)):w.cell? ⟨g,3,none⟩=some a3:=by rw[aaB _ _ _ _ _ _ h];rfl
theorem Zo(h:w.heap[g]?=some (.cells (a0::a1::a2::a3::a4::l).toArray t fz)):w.cell? ⟨g,4,none⟩=some a4:=by rw[aaB _ _ _ _ _ _ h];rfl
theorem Zn(h:w.heap[g]?=some (.cells (a0::a1::a2::a3::a4::a5::l).toArray t fz)):w.cell? ⟨g,5,none⟩=some a5:=by rw[aaB _ _ _ _ _ _ h];rfl
theorem Y5(h:w.heap[g]?=some (.cells (a0::a1::a2::a3::a4::a5::a6::l).toArray t fz)):w.cell? ⟨g,6,none⟩=some a6:=by rw[aaB _ _ _ _ _ _ h];rfl
theorem Zj(h:w.heap[g]?=some (.cells (a0::a1::a2::a3::a4::a5::a6::a7::l).toArray t fz)):w.cell? ⟨g,7,none⟩=some a7:=by rw[aaB _ _ _ _ _ _ h];rfl
theorem YM(h:w.heap[g]?=some (.cells (a0::a1::a2::a3::a4::a5::a6::a7::a8::l).toArray t fz)):w.cell? ⟨g,8,none⟩=some a8:=by rw[aaB _ _ _ _ _ _ h];rfl
theorem ZK(h:w.heap[g]?=some (.cells (a0::a1::a2::a3::a4::a5::a6::a7::a8::a9::l).toArray t fz)):w.cell? ⟨g,9,none⟩=some a9:=by rw[aaB _ _ _ _ _ _ h];rfl
theorem Lj(h:w.heap[g]?=some (.cells (a0::a1::a2::a3::a4::a5::a6::a7::a8::a9::a10::l).toArray t fz)):w.cell? ⟨g,10,none⟩=some a10:=by rw[aaB _ _ _ _ _ _ h];rfl
theorem Ls(h:w.heap[g]?=some (.cells (a0::a1::a2::a3::a4::a5::a6::a7::a8::a9::a10::a11::l).toArray t fz)):w.cell? ⟨g,11,none⟩=some a11:=by rw[aaB _ _ _ _ _ _ h];rfl
theorem Mz(h:w.heap[g]?=some (.cells (a0::a1::a2::a3::a4::a5::a6::a7::a8::a9::a10::a11::a12::l).toArray t fz)):w.cell? ⟨g,12,none⟩=some a12:=by rw[aaB _ _ _ _ _ _ h];rfl
theorem wj{a}(e:Below w.heap.size w w')(h:w.cell? a=some v):w'.cell? a=some v:=by rw[e.cell (abg w _ h)];exact h
end
/- Rows of bytes whose mark lies behind them. No program here. -/
def XB(fz:Nat×Nat)(n:Nat):Prop:=fz=(0,0)\/n<=fz.1
theorem GV{g e t fz}(i:w.heap[g]?=some (.cells e t fz))(q:XB fz e.size)(u:j<e.size):w.frozen? ⟨g,j,none⟩=false:=by
 rcases q with rfl | h
 ·simp[World.frozen?,i]
 ·simp[World.frozen?,i];omega
theorem kh(P g o t fz):∀(u:List Value) (i:Nat) (j:Array Value) (w:World),w.heap[g]?=some (.cells j t fz)->XB fz j.size->o+i+u.length<=j.size->(∀v∈u,v.oneCell'=true)->
 (storeCells ⟨g,o,none⟩ u i).run P w=.ok () (w.setRow g (j.toList.take (o+i)++u++j.toList.drop (o+i+u.length)).toArray)
 | [],i,j,w,q,_,_,_=>by
  simp only[storeCells,aby,adC,acV,ab7,Array.toArray_toList];rw[setRow_self w g j t fz q];rfl
 | v::rest,i,j,w,q,B,y,E=>by
  have D:o+i<j.size:=by simp at y;omega
  have I:(⟨g,o,none⟩:Addr).add i=⟨g,o+i,none⟩:=by unfold Addr.add;split<;>simp_all
  have J:w.cell? ⟨g,o+i,none⟩=some j[o+i]:=by simp[World.cell?,q,D]
  have A:w.frozen? ⟨g,o+i,none⟩=false:=GV q B D;have H:(store ((⟨g,o,none⟩:Addr).add i) v).run P w=.ok () (w.setRow g (j.setIfInBounds (o+i) v)):=by
   rw[I,run_store P w _ v _ (E v (by simp)),J];simp[A,setCell_eq_setRow w g (o+i) j t fz v q]
  have ih:=kh P g o t fz rest (i+1) (j.setIfInBounds (o+i) v) (w.setRow g (j.setIfInBounds (o+i) v)) (setRow_heap w g j _ t _ q) (by simpa using B) (by simp at y ⊢;omega) (λx F=>E x (by simp[F]));simp only[storeCells,Sem.run_bind,H,aef,ih,setRow_setRow];congr 3;have e:=list_seg_step j.toList (o+i) v rest (by simp at y ⊢;omega);simpa [ac2,Nat.add_assoc]using e
def nQ(w:World)(base:Nat)(e:TypeId)(v:Value)(n:Nat)(xs:List Value):Prop:=
 xs.length=n/\∃g cap cur fz,v=.slice (some ⟨g,0,none⟩) n cap/\base<=g/\w.heap[g]?=some (.cells cur e fz)/\XB fz cur.size/\n<=cap/\cap<=maxLen/\cur.size=cap/\cur.toList.take n=xs
theorem nQ.lt{base}(h:nQ w base e v n xs):∃g cap,v=.slice (some ⟨g,0,none⟩) n cap/\base<=g/\g<w.heap.size/\n<=cap/\∀j u,xs[j]?=some u->w.cell? ⟨g,j,none⟩=some u:=by
 obtain⟨E,g,cap,q,fz,rfl,B,x,D,A,hm,hs,y⟩:=h;refine⟨g,cap,rfl,B,(adZ.1 x).1,A,λj u i=>?_⟩;rw[aaB w g j q e fz x];rw[<-y,adN]at i;split at i
 ·simpa using i
 ·cases i
theorem nQ.alloc{base}(h:nQ w base e v n xs)(o):nQ (w.alloc o) base e v n xs:=by
 obtain⟨u,g,cap,i,fz,rfl,q,j,rest⟩:=h;exact⟨u,g,cap,i,fz,rfl,q,by rw[aay _ _ _ (adZ.1 j).1];exact j,rest⟩
theorem nQ.kept{base}(h:nQ w base e v n xs)(j:Kb S w w')(x:∀b,v.ownBlock=some b->¬b∈S):nQ w' base e v n xs:=by
 obtain⟨y,g,cap,i,fz,rfl,u,q,rest⟩:=h;exact⟨y,g,cap,i,fz,rfl,u,j.heap q (x g rfl),rest⟩
theorem vH(w base t F e i z bytes)(J:P.underlying t=some (.slice e))(M:P.info? e=some i)(hz:i.zero=some z)(x:i.size=1)(X:i.bytes=bytes)(Y:z.cells.size=1)
 (v n xs)(V:nQ w base e v n xs)(a m c news)(y:news.length=m)(U:∀j u,news[j]?=some u->w.cell? (a.add j)=some u)(h1:∀u∈news,u.oneCell'=true)
 (E:n+m<=maxLen)(eU:(n+m)*bytes<=140737488355328)(gQ:base<=w.heap.size):
 ∃v' w',(Builtin.append_ #[t,t] F #[v,.slice (some a) m c]).run P w=.ok v' w'/\nQ w' base e v' (n+m) (xs++news)/\w.grownBy w' v.ownBlock:=by
 subst X;have XH:n+m<=9223372036854775807:=by simp only[maxLen]at E;omega
 have hlen:(xs++news).length=n+m:=by rw[If,V.1,y]
 obtain⟨_,g,cap,q,fz,rfl,K7,D,KE,Mw,MZ,bA,W⟩:=V;have I:xs.length=n:=by rw[<-W,abv];simp;omega
 by_cases H:n+m<=cap
 ·have N:=run_firstCells_some (P:=P) w i.size m a m c news (by rw[x,y];omega) U;have O:=kh P g n e fz news 0 q w D KE (by simp;omega) h1;simp only[acV]at O;refine⟨.slice (some ⟨g,0,none⟩) (n+m) cap,w.setRow g (q.toList.take n++news++q.toList.drop (n+news.length)).toArray, ?_,⟨hlen,g,cap,(q.toList.take n++news++q.toList.drop (n+news.length)).toArray,fz,rfl,K7,setRow_heap w g q _ e _ D, ?_,H,MZ, ?_, ?_⟩,⟨rfl,rfl,rfl,by simp,λk _ B=>setRow_other w g k _ (λe=>B (by simp[Value.ownBlock,e]))⟩⟩
  ·rw[x]at N;simp[Builtin.append_,acQ J,sizeOf,typeInfo,M,Builtin.lenOf,H,N,Addr.add_lit,O,x]
  ·grind
  ·grind
  ·grind
 ·have holds:∀j u,xs[j]?=some u->w.cell? ((⟨g,0,none⟩:Addr).add j)=some u:=by
   intro j u A;have fK:(⟨g,0,none⟩:Addr).add j=⟨g,j,none⟩:=by unfold Addr.add;split<;>simp_all
   rw[fK,aaB w g j q e fz D];rw[<-W,adN]at A;split at A
   ·simpa using A
   ·cases A
  have hr:=run_append_grow (P:=P) w t F e i z J M hz ⟨g,0,none⟩ n cap xs (by rw[x,I];omega) holds a m c news (by rw[x,y];omega) U (by omega) (by omega) (growslice_fits (by omega) eU);have Z:=grownCap_ge w (n+m) cap e;have XP:grownCap w (n+m) cap e<=maxLen:=grownCap_le_maxLen w (n+m) cap e E;refine⟨_,_,hr,⟨hlen,w.heap.size,_,_,(0,0),rfl,gQ,By w.drew _,.inl rfl,Z,XP, ?_, ?_⟩,⟨rfl,rfl,rfl,by simp,λk B _=>heap_alloc_old w.drew _ B⟩⟩
  ·simp only[Array.size_append,abz,size_zeroCells,Y,I,y];omega
  ·grind
theorem gV(w){q rest}{Q:Exit->Act->World->Prop}(D:o.guard=none)(s x t)
 (J:o.op=.call {callee:=.builtin .append,args:=#[s,x],argTypes:=#[t,t]})
 (base e i z bytes)(H:P.underlying t=some (.slice e))(N:P.info? e=some i)(E:i.zero=some z)(Y:i.size=1)(y:i.bytes=bytes)(B:z.cells.size=1)
 (v n xs)(hs:a.eval s=v)(aE:nQ w base e v n xs)
 (ad m c news)(F:a.eval x=.slice (some ad) m c)(M:news.length=m)(eM:∀j u,news[j]?=some u->w.cell? (ad.add j)=some u)(W:∀u∈news,u.oneCell'=true)
 (A:n+m<=maxLen)(Z:(n+m)*bytes<=140737488355328)(X:base<=w.heap.size)
 (h:∀v' w',nQ w' base e v' (n+m) (xs++news)->w.grownBy w' v.ownBlock->wpList P q Q rest (a.put o.dst v') w'):wpList P q Q (o::rest) a w:=by
 refine wpList_plain D λ_ O=>?_;obtain⟨v',w',I,V,U⟩:=vH (P:=P) w base t o.type e i z bytes H N E Y y B v n xs aE ad m c news M eM W A Z X;unfold Oper.wp execOp;simp only[J,resolve,invoke,builtin,Sem.run_bind,Sem.run_pure,aef,List.map_toArray,abn,adp,hs,F,I];exact O _ _ (h v' w' V U)
def byteCells(s:ByteArray):List Value:=s.data.toList.map λb=>.int .u8 (b.toNat:Int)
/- append, and what becomes of the row that was there: its cells stay. A law of no program. -/
section
variable {P:Program} (w:World)
theorem vU(t D base e i z size bytes)(H:P.underlying t=some (.slice e))(I:P.info? e=some i)(W:i.zero=some z)
 (Z:i.size=size)(O:i.bytes=bytes)(wW:z.cells.size=size)(cp:0<size)
 (v n xs)(F:w.ownsRow base e size v n xs)
 (ad m c news)(E:news.length=m*size)(J:∀j u,news[j]?=some u->w.cell? (ad.add j)=some u)(Y:∀u∈news,u.oneCell'=true)
 (hm:0<m)(U:n+m<=maxLen)(eU:(n+m)*bytes<=140737488355328)(gQ:base<=w.heap.size):
 ∃g cap w',(Builtin.append_ #[t,t] D #[v,.slice (some ad) m c]).run P w=.ok (.slice (some ⟨g,0,none⟩) (n+m) cap) w'/\
  w'.ownsRow base e size (.slice (some ⟨g,0,none⟩) (n+m) cap) (n+m) (xs++news)/\w.grownBy w' v.ownBlock/\aZ w v (.slice (some ⟨g,0,none⟩) (n+m) cap)/\(∀(b:Nat),v.ownBlock=some b->(∃q,w'.heap[b]?=some (.cells q e (0,0)))/\∀j,j<n*size->w'.cell? ⟨b,j,none⟩=w.cell? ⟨b,j,none⟩):=by
 obtain⟨g,cap,w',y,h2,h3,h4,h5⟩:=run_append_lies (P:=P) w t D base e i z size bytes H I W Z O wW cp v n xs F ad m c news E J Y hm U eU gQ w.heap.size rfl;refine⟨g,cap,w',y,h2,h3, ?_, ?_⟩
 ·intro b B;simp only[Value.ownBlock,AT]at B;subst B;rcases h4 with h | h
  ·exact .inl h
  ·exact .inr (by omega)
 ·intro b B;subst Z;subst O;rcases F.2 with⟨rfl,_⟩ | ⟨x,M,q,rfl,_,A,Mw,MZ,bA,Hg⟩
  ·cases B
  ·simp only[Value.ownBlock,AT]at B;subst B;have aL:x<w.heap.size:=(adZ.1 A).1;by_cases V:n+m<=M
   ·have xo:n*i.size+news.length<=q.size:=by rw[E,bA,<-Nat.add_mul];exact Nat.mul_le_mul_right _ V
    have N:=run_append_room (P:=P) w t D e i H I x n M q A ad m c news E J Y V xo;rw[N]at y;simp only[Result.ok.injEq]at y;rw[<-y.2];refine⟨⟨_,bQ w x A⟩,λj X=>?_⟩;have hjc:j<q.size:=by rw[bA];exact aa7 X (Nat.mul_le_mul_right _ Mw)
    rw[aaB _ x j _ _ _ (bQ w x A),aaB _ x j _ _ _ A];simp only[aaV];rw[aa8,acx (by rw[abv,abP];omega),adN,aa3 X];simp
   ·have holds:∀j u,xs[j]?=some u->w.cell? ((⟨x,0,none⟩:Addr).add j)=some u:=F.cells (g:=x) rfl;have wH:n+m<=9223372036854775807:=by unfold maxLen at U;omega
    have N:=run_append_grow (P:=P) w t D e i z H I W ⟨x,0,none⟩ n M xs F.1 holds ad m c news E J (by omega) (by omega) (growslice_fits (by omega) eU);rw[N]at y;simp only[Result.ok.injEq]at y;rw[<-y.2];refine⟨⟨q, ?_⟩,λj _=>adz (aay w.drew _ _ aL)⟩;rw[aay w.drew _ _ aL];exact A
theorem pM{K:Act->World->Prop}{Q:Exit->Act->World->Prop}(s x t)
 (I:o.op=.call {callee:=.builtin .append,args:=#[s,x],argTypes:=#[t,t]})
 (base e i z size bytes)(F:P.underlying t=some (.slice e))(M:P.info? e=some i)(D:i.zero=some z)
 (Y:i.size=size)(y:i.bytes=bytes)(B:z.cells.size=size)(cp:0<size)
 (v n xs)(hs:a.eval s=v)(aE:w.ownsRow base e size v n xs)
 (ad m c news)(E:a.eval x=.slice (some ad) m c)(J:news.length=m*size)(eM:∀j u,news[j]?=some u->w.cell? (ad.add j)=some u)(W:∀u∈news,u.oneCell'=true)
 (hm:0<m)(A:n+m<=maxLen)(Z:(n+m)*bytes<=140737488355328)(X:base<=w.heap.size)
 (h:∀g cap w',w'.ownsRow base e size (.slice (some ⟨g,0,none⟩) (n+m) cap) (n+m) (xs++news)->w.grownBy w' v.ownBlock->aZ w v (.slice (some ⟨g,0,none⟩) (n+m) cap)->(∀(b:Nat),v.ownBlock=some b->(∃q,w'.heap[b]?=some (.cells q e (0,0)))/\∀j,j<n*size->w'.cell? ⟨b,j,none⟩=w.cell? ⟨b,j,none⟩)->K (a.put o.dst (.slice (some ⟨g,0,none⟩) (n+m) cap)) w'):o.wp P a w K Q:=by
 obtain⟨g,cap,w',H,V,U,O,N⟩:=vU (P:=P) w t o.type base e i z size bytes F M D Y y B cp v n xs aE ad m c news J eM W hm A Z X;unfold Oper.wp execOp;simp only[I,resolve,invoke,builtin,Sem.run_bind,Sem.run_pure,aef,List.map_toArray,abn,adp,hs,E,H];exact h g cap w' V U O N
theorem iV{q}{K:Act->World->Prop}{Q:Exit->Act->World->Prop}{E}(F:o.guard=none)(s x t)
 (N:o.op=.call {callee:=.builtin .append,args:=#[s,x],argTypes:=#[t,t]})
 (base e i z size bytes)(M:P.underlying t=some (.slice e))(U:P.info? e=some i)(H:i.zero=some z)
 (X:i.size=size)(A:i.bytes=bytes)(D:z.cells.size=size)(cp:0<size)
 (v n xs)(hs:a.eval s=v)(aE:w.ownsRow base e size v n xs)
 (ad m c news)(I:a.eval x=.slice (some ad) m c)(O:news.length=m*size)(Z:∀j u,news[j]?=some u->w.cell? (ad.add j)=some u)(V:∀u∈news,u.oneCell'=true)
 (hm:0<m)(B:n+m<=maxLen)(Y:(n+m)*bytes<=140737488355328)(W:base<=w.heap.size)
 (h:∀g cap w',w'.ownsRow base e size (.slice (some ⟨g,0,none⟩) (n+m) cap) (n+m) (xs++news)->w.grownBy w' v.ownBlock->aZ w v (.slice (some ⟨g,0,none⟩) (n+m) cap)->(∀(b:Nat),v.ownBlock=some b->(∃y,w'.heap[b]?=some (.cells y e (0,0)))/\∀j,j<n*size->w'.cell? ⟨b,j,none⟩=w.cell? ⟨b,j,none⟩)->K (a.put o.dst (.slice (some ⟨g,0,none⟩) (n+m) cap)) w'):
 if Region.wanted o (yielded q a.tmps)=true then Oper.wp P o a w K Q else E:=by
 have J:Region.wanted o (yielded q a.tmps)=true:=by simp[Region.wanted,F]
 rw[aa3 J];exact pM w s x t N base e i z size bytes M U H X A D cp v n xs hs aE ad m c news I O Z V hm B Y W h
end
theorem tk{u e}{Q:Exit->Act->World->Prop}{S:World->Prop}{fuel listed}(i q)(h:wpAnyH P u e Q S fuel (listed.setIfInBounds i true) (a.put q.dst v) w)(y:e[i]?=some q:=by rfl)(hs:Region.noSelect e=true:=by kernel_rfl)(A:Region.free u e listed i=true:=by kernel_rfl)(x:(Region.ready u e listed).contains i=true:=by kernel_rfl)
 (D:∀c a w,Q (.panic c) (a.put q.dst v) w->Q (.panic c) a w:=by exact λ_ _ _ h=>h)(hy:YieldsIf P e S q v a:=by refine Or.inl ⟨by rfl, ?_⟩;intro w j;go_simp;(try with_reducible rfl))(B:S w:=by assumption):wpAnyH P u e Q S (fuel+1) listed a w:=wpAnyH_take y hs A x D hy B h
/- append, and where the new row lies; a string's bytes behind a row. Laws of no program. -/
theorem KW{wr a o g cap}(e:Kb v.ownBlock.toList w wr)(q:aZ w v a)(y:(wr.alloc o).grownBy w2 a.ownBlock)(x:a.ownBlock=some g\/g=wr.heap.size+1):Kb v.ownBlock.toList w w2/\aZ w v (.slice (some ⟨g,0,none⟩) n cap):=by
 have hs:=e.size;refine⟨(e.alloc o).trans' (Kb.eS y) (λi j A=>?_),λb u=>?_⟩
 ·rw[abh]at j ⊢;rcases q i j with h | h
  ·exact h
  ·omega
 ·simp only[Value.ownBlock,AT]at u;subst u;rcases x with h | h
  ·exact q _ h
  ·exact .inr (by omega)
theorem KR{wr a e}(j:Kb v.ownBlock.toList w wr)(u:aZ w v a)(A:wr.grownBy w2 a.ownBlock)(y:aZ wr a e):Kb v.ownBlock.toList w w2/\aZ w v e:=by
 have hs:=j.size;refine⟨j.trans' (Kb.eS A) (λi q B=>?_),λb x=>?_⟩
 ·rw[abh]at q ⊢;rcases u i q with h | h
  ·exact h
  ·omega
 ·rcases y b x with h | h
  ·exact u _ h
  ·exact .inr (by omega)
section
variable {P:Program} (w:World)
theorem tS(base t u B e i)(E:P.underlying t=some (.slice e))(D:P.underlying u=some .string)(F:P.info? e=some i)(J:i.zero=some (.int .u8 0))
 (M:i.size=1)(I:i.bytes=1)(v n xs)(H:w.ownsRow base e 1 v n xs)(s)
 (N:n+s.size<=maxLen)(Z:n+s.size<=140737488355328){v'}(q:(Builtin.append_ #[t,u] B #[v,.string s]).run P w=.ok v' w')(IG:v'=.slice none 0 0↔v=.slice none 0 0/\s.size=0):aZ w v v':=by
 have XH:n+s.size<=9223372036854775807:=by simp only[maxLen]at N;omega
 have U:xs.length=n:=by simpa using H.1
 intro b x;have W:=H.2;rcases W with⟨rfl,rfl⟩ | ⟨g,cap,y,rfl,K7,V,Mw,MZ,X,Ki⟩
 ·by_cases hm:s.size=0
  ·grind
  ·have A:=run_append_nil_string (P:=P) w t u B e i (.int .u8 0) E D F J s (by omega) (by omega) (by rw[I];omega);rw[A]at q;simp only[Result.ok.injEq]at q;rw[<-q.1]at x;simp only[Value.ownBlock,AT]at x;exact .inr (by omega)
 ·by_cases O:n+s.size<=cap
  ·have Y:y.size=cap:=by simpa using X
   have A:=Lib.run_append_room_string (P:=P) w t u B e i E D F M g n cap y V s O (by omega);rw[A]at q;simp only[Result.ok.injEq]at q;rw[<-q.1]at x;simp only[Value.ownBlock,AT]at x;subst x;exact .inl rfl
  ·have holds:∀j u,xs[j]?=some u->w.cell? ((⟨g,0,none⟩:Addr).add j)=some u:=H.cells (g:=g) rfl;have A:=Lib.run_append_grow_string (P:=P) w t u B e i (.int .u8 0) E D F J ⟨g,0,none⟩ n cap xs (by rw[M];simpa using U) holds s (by omega) (by omega) (by rw[I];exact growslice_fits (by omega) (by omega));rw[A]at q;simp only[Result.ok.injEq]at q;rw[<-q.1]at x;simp only[Value.ownBlock,AT]at x;exact .inr (by omega)
theorem pw{j rest}{Q:Exit->Act->World->Prop}(N:o.guard=none)(A x t u)
 (U:o.op=.call {callee:=.builtin .append,args:=#[A,x],argTypes:=#[t,u]})
 (base e i)(E:P.underlying t=some (.slice e))(D:P.underlying u=some .string)(H:P.info? e=some i)(B:i.zero=some (.int .u8 0))
 (I:i.size=1)(q:i.bytes=1)
 (v n xs)(hs:a.eval A=v)(M:w.ownsRow base e 1 v n xs)(s)(O:a.eval x=.string s)
 (y:n+s.size<=maxLen)(J:n+s.size<=140737488355328)(gQ:base<=w.heap.size)
 (h:∀v' w',w'.ownsRow base e 1 v' (n+s.size) (xs++Lib.strCells s)->w.grownBy w' v.ownBlock->aZ w v v'->wpList P j Q rest (a.put o.dst v') w'):wpList P j Q (o::rest) a w:=by
 refine wpList_plain N λK V=>?_;obtain⟨v',w',F,Z,Y,X⟩:=Lib.run_append_own_string (P:=P) w base t u o.type e i E D H B I q v n xs M s y J gQ;have W:=tS w base t u o.type e i E D H B I q v n xs M s y J F X;unfold Oper.wp execOp;simp only[U,resolve,invoke,builtin,Sem.run_bind,Sem.run_pure,aef,List.map_toArray,abn,adp,hs,O,F];exact V _ _ (h v' w' Z Y W)
end
/- Package encode: numbers and texts as bytes. -/
namespace Rc
def ew(n:Nat):List UInt8:=if n<=127 then [UInt8.ofNat n]else UInt8.ofNat (n%128+128)::ew (n/128)
def dP(l:List UInt8):List Value:=l.map λb=>.int .u8 (b.toNat:Int)
theorem qn(a b):dP (a++b)=dP a++dP b:=by simp[dP]
theorem dX(l):(dP l).length=l.length:=by simp[dP]
theorem wP(l):∀u∈dP l,u.oneCell'=true:=by
 intro u e;obtain⟨b,_,rfl⟩:=aax.1 e;rfl
theorem yP(h:n<=127):ew n=[UInt8.ofNat n]:=by rw[ew,aa3 h]
theorem Fg(h:¬n<=127):ew n=UInt8.ofNat (n%128+128)::ew (n/128):=by rw[ew,aaD h]
theorem tf:∀(k n:Nat),n<128^k->0<k->(ew n).length<=k
 | 0,n,_,h=>by omega
 | k+1,n,e,_=>by
  by_cases h:n<=127
  ·rw[yP h];simp
  ·rw[Fg h,abL];cases k with
   | zero=>simp at e;omega
   | succ k=>
    have:=tf (k+1) (n/128) (by rw[Nat.pow_succ]at e;exact Nat.div_lt_of_lt_mul (by rw[Nat.mul_comm];exact e)) (by omega);omega
def bU(t:ByteArray):List UInt8:=ew t.size++t.data.toList
theorem acd:∀x:Fin 128,bits .or .u8 ((x.1:Nat):Int) 128=((x.1+128:Nat):Int):=by decide
theorem Wg(m:Nat)(h:m<4611686018427387904):bits .and .i64 (m:Int) 127=((m%128:Nat):Int):=by
 have e:(BitVec.ofInt 64 (m:Int)&&&BitVec.ofInt 64 127).toNat=m%128:=by
  rw[BitVec.toNat_and];have j:(BitVec.ofInt 64 (m:Int)).toNat=m:=by grind
  have i:(BitVec.ofInt 64 127).toNat=2^7-1:=by decide
  rw[j,i,Nat.and_two_pow_sub_one_eq_mod]
 show IntKind.i64.wrap (((BitVec.ofInt 64 (m:Int)&&&BitVec.ofInt 64 127).toNat:Nat):Int)=_;rw[e];simp[IntKind.wrap,IntKind.bits,IntKind.signed];omega
end Rc
theorem GN{B o}(u:B<=w1.heap.size)(i:w1.ownsRow B 5 1 v n xs)(x:Below B w w1)(j:Lib.OthersKept 5 none w w1)(e:(w1.alloc o).grownBy w2 v.ownBlock):Below B w w2/\Lib.OthersKept 5 none w w2:=
 ⟨(x.alloc u o).grown e (by simp;omega) (λk q=>(i.lt k q).1),(j.alloc o).grown e (au (i.alloc o))⟩
theorem nY(B:Nat)(w v)(n:Nat)(xs)(k:Nat)(V:w.ownsRow B 5 1 v n xs)(hB:B<=w.heap.size)(hn:n<=100000000000)(hk:k<=1000000000000):
 Calls prog 78 #[v,.int .i64 k] w λe w'=>∃v' n',e=.returned v'/\w'.ownsRow B 5 1 v' n' (xs++Rc.dP (Rc.ew k))/\Below B w w'/\Lib.OthersKept 5 none w w'/\Kb v.ownBlock.toList w w'/\aZ w v v':=by
 obtain⟨i0,fC,cE,ch,cz⟩:=abF Tryz.mE;have HI:=aj fC;have H0:=aj cE;have H1:=aj ch;have H2:=aj cz;clear fC cE ch cz;obtain⟨vd,vc,XL⟩:=ah V;subst XL;have HR:Hid (xs++Rc.dP (Rc.ew k)=xs++Rc.dP (Rc.ew k)):=(rfl:xs++Rc.dP (Rc.ew k)=_)
 go_enter func78,ntmps78
 go_wp2_with fail
 go_loopw [0,1] (λa i wr=>∃(m l:Nat) (q:List Value),i=.int .i64 m/\m<=k/\l+m<=n+k/\wr.ownsRow B 5 1 a l q/\q++Rc.dP (Rc.ew m)=xs++Rc.dP (Rc.ew k)/\Below B w wr/\B<=wr.heap.size/\Lib.OthersKept 5 none w wr/\Kb (Value.slice vd n vc).ownBlock.toList w wr/\aZ w (.slice vd n vc) a) (λ_ i _=>(intOf i).toNat)
 ·exact⟨k,n,xs,rfl,OF _,OF _,V,rfl,aaj _ _,hB,aeF _ _ _,Kb.refl _ _,aZ.refl _ _⟩
 ·
  obtain⟨m,l,q,rfl,hm,hl,H,u,aF,x,kQ,D,A⟩:=hrel;obtain⟨ad,ac,RM⟩:=ah H;subst RM;have F:=aj u;have HB:=aj aF;have HO:=aj kQ;have iF:=aj H;have J:Hid (Kb (Value.slice vd n vc).ownBlock.toList w wr/\aZ w (.slice vd n vc) (.slice ad l ac)):=⟨D,A⟩;clear u aF kQ HR V D A;by_cases E:m<=127
  ·go_wp2_with (at_builtin;go_must (refine aer _ rfl (.tmp 16) (.tmp 19) 63 rfl B 5 i0 _ 1 1 aci HI.out H0.out H1.out H2.out rfl (by decide) _ _ _ rfl (H.alloc _) ⟨wr.heap.size,0,none⟩ 1 1 [.int .u8 (m:Int)] rfl rfl (abC (By _ _)) (by simp[Value.oneCell']) (by decide) eI (by omega) (by simp;omega) (wr.heap.size+1) (by simp) ?_;intro x2 M w2 I j W _;obtain⟨U,X⟩:=GN x iF.out HB.out HO.out j;obtain⟨N,Y⟩:=KW (n:=l+1) (cap:=M) J.out.1 J.out.2 j W))
   go_ret;refine⟨_,l+1,rfl, ?_,U,X,N,Y⟩;rw[<-F.out,Rc.yP E];have e:(UInt8.ofNat m).toNat=m:=by simp;omega
   simpa [Rc.dP,e]using I
  ·have kG:Hid (q++[.int .u8 ((m%128+128:Nat):Int)]++Rc.dP (Rc.ew (m/128))=xs++Rc.dP (Rc.ew k)):=by
    have y:=F.out;rw[Rc.Fg E]at y;have e:(UInt8.ofNat (m%128+128)).toNat=m%128+128:=by simp;omega
    have O:Rc.dP (UInt8.ofNat (m%128+128)::Rc.ew (m/128))=.int .u8 ((m%128+128:Nat):Int)::Rc.dP (Rc.ew (m/128)):=by
     simp only[Rc.dP,abn,e]
    rw[O]at y;have h3:q++[Value.int .u8 ((m%128+128:Nat):Int)]++Rc.dP (Rc.ew (m/128))=xs++Rc.dP (Rc.ew k):=by
     rw[<-y];simp
    exact h3
   have ha:bits BinOp.and IntKind.i64 (m:Int) 127=((m%128:Nat):Int):=Rc.Wg m (by omega);have Z:Hid (bits BinOp.or IntKind.u8 ((m:Int)%128) 128=((m%128+128:Nat):Int)):=by
    have y:=Rc.acd ⟨m%128,by omega⟩;have O:bits BinOp.or IntKind.u8 ((m:Int)%128) 128=((m%128+128:Nat):Int):=by
     rw[<-y];simp
    exact O
   go_wp2_with (at_builtin;go_must (refine aer _ rfl (.tmp 9) (.tmp 14) 63 rfl B 5 i0 _ 1 1 aci HI.out H0.out H1.out H2.out rfl (by decide) _ _ _ rfl (H.alloc _) ⟨wr.heap.size,0,none⟩ 1 1 [.int .u8 (bits BinOp.or IntKind.u8 ((m:Int)%128) 128)] rfl rfl (abC (By _ _)) (by simp[Value.oneCell']) (by decide) eI (by omega) (by simp;omega) (wr.heap.size+1) (by simp) ?_;intro x2 M w2 I j W _;obtain⟨U,X⟩:=GN x iF.out HB.out HO.out j;obtain⟨N,Y⟩:=KW (n:=l+1) (cap:=M) J.out.1 J.out.2 j W;have EN:=j.size))
   rw[Z.out]at I;go_roundw
   ·
    refine⟨m/128,l+1,_,by go_num,by omega,by omega,I,kG.out,U, ?_,X,N,Y⟩;simp at EN;omega
   ·simp[intOf];omega
theorem uj(B:Nat)(w v)(n:Nat)(xs)(k:Nat)(E:w.ownsRow B 5 1 v n xs)(u:B<=w.heap.size)(j:n<=100000000000)(q:k<=1000000000000):
 Calls prog 78 #[v,.int .i64 k] w λe w'=>∃v' i,e=.returned v'/\w'.ownsRow B 5 1 v' i (xs++Rc.dP (Rc.ew k))/\Below B w w'/\Lib.OthersKept 5 none w w':=
 (nY B w v n xs k E u j q).mono (λ_ _ ⟨v',i,D,A,y,x,_⟩=>⟨v',i,D,A,y,x⟩)
theorem qZ(B w v n xs t)(j:w.ownsRow B 5 1 v n xs)(A:B<=w.heap.size)(O:n<=100000000000)(y:t.size<=1000000000):
 Calls prog 77 #[v,.string t] w λe w'=>∃v' M,e=.returned v'/\w'.ownsRow B 5 1 v' M (xs++Rc.dP (Rc.bU t))/\Below B w w'/\Lib.OthersKept 5 none w w'/\Kb v.ownBlock.toList w w'/\aZ w v v':=by
 have T5:=nY B w v n xs t.size j A O (by omega);obtain⟨vd,vc,XL⟩:=ah j;subst XL;have u:(128:Nat)^10=1180591620717411303424:=by decide
 have vX:(Rc.ew t.size).length<=10:=Rc.tf 10 t.size (by omega) (by decide);clear u;have nP:xs.length=n:=by have:=j.1;omega
 clear j
 go_enter func77,ntmps77
 go_wp2_with (first | (go_at_call 78;refine T5.mono ?_;rintro e w1 ⟨H,n1,rfl,i,D,RT,AR,B4⟩;have I:=i.1;rw[If,Rc.dX]at I;have E:B<=w1.heap.size:=aaK A D.size) | (at_builtin;obtain⟨N,U,Y,W,V⟩:=abF Tryz.mE;refine pw _ rfl _ _ 63 9 rfl B 5 N aci abK U Y W V _ _ _ rfl i t rfl eI (by omega) E ?_;intro F w2 aO Z x))
 have q:w1.grownBy w2 H.ownBlock:=Z;have X:Below B w w2:=D.grown q E (λk y=>(i.lt k y).1);have Kw:Lib.OthersKept 5 none w w2:=RT.grown q (au i);go_ret;obtain⟨J,Hf⟩:=KR AR B4 q x;refine⟨F,n1+t.size,rfl, ?_,X,Kw,J,Hf⟩;have e:xs++Rc.dP (Rc.bU t)=xs++Rc.dP (Rc.ew t.size)++Lib.strCells t:=by
  unfold Rc.bU;rw[Rc.qn,aa8];rfl
 rw[e];exact aO
theorem oY(B w v n t)(E:w.ownsRow B 5 1 v n xs)(u:B<=w.heap.size)(q:t.size<=1000000000)(j:n<=100000000000:=by omega):
 Calls prog 77 #[v,.string t] w λe w'=>∃v' i,e=.returned v'/\w'.ownsRow B 5 1 v' i (xs++Rc.dP (Rc.bU t))/\Below B w w'/\Lib.OthersKept 5 none w w':=
 (qZ B w v n xs t E u j q).mono (λ_ _ ⟨v',i,D,A,y,x,_⟩=>⟨v',i,D,A,y,x⟩)
/- Plain functions that mirror program's parser: atoms, rules. No program here. -/
namespace Ax
theorem gP{e}(x:Ends e){r}(F:i<e.length)(h:bY e i=(r,j)):j<e.length:=by
 have u:e[i]?=some e[i]:=AS F;by_cases A:e[i].kind=2
 case neg=>rw[DI u A]at h;simp at h;omega
 have I:=x.next F (by omega) (by omega);have N:e[i+1]?=some e[i+1]:=AS I;by_cases q:aS e (i+1)=4
 case neg=>rw[C6 u A q]at h;simp at h;omega
 have M:e[i+1].kind=4:=by rw[cQ N]at q;exact q
 have H:=x.next I (by omega) (by omega);rcases y:cf e e.length (i+1+1) []with⟨_ | O,B⟩
 ·have:=pP x _ _ _ H y;rw[C0 u A q y]at h;simp at h;omega
 ·have E:=pP x _ _ _ H y;by_cases D:aS e B=5
  ·rw[Dd u A q y D]at h;have J:e[B]?=some e[B]:=AS E;rw[cQ J]at D;have:=x.next E (by omega) (by omega);simp at h;omega
  ·rw[Da u A q y D]at h;simp at h;omega
def bZ(ak:List Tok):Nat->Nat->List Atom->Option (List Atom)×Nat
 | 0,i,_=>(none,i)
 | f+1,i,acc=>
  match bY ak i with
  | (none,j)=>(none,j)
  | (some t,j)=>if aS ak j=6 then bZ ak f (j+1) (acc++[t])else (some (acc++[t]),j)
theorem gj{q e}(h:bY q i=(none,j)):bZ q (f+1) i e=(none,j):=by simp[bZ,h]
theorem iX{q e t}(h:bY q i=(some t,j))(u:aS q j=6):bZ q (f+1) i e=bZ q f (j+1) (e++[t]):=by simp[bZ,h,u]
theorem gz{q e t}(h:bY q i=(some t,j))(u:¬aS q j=6):bZ q (f+1) i e=(some (e++[t]),j):=by simp[bZ,h,u]
theorem oF{q a}(h:bY q i=(some a,j)):i<j:=by
 have u:∀f i e r j,cf q f i e=(r,j)->i<=j:=by
  intro f
  induction f with
  | zero=>intro i e r j h;simp[cf]at h;omega
  | succ f ih=>
   intro i e r j h;have hm:i<=(kP q i).2:=by unfold kP;(split;(split<;>simp);simp)
   unfold cf at h;split at h
   ·grind
   ·grind
 unfold bY at h;split at h
 ·simp at h
 ·grind
theorem pS{e}(y:Ends e):∀(f i:Nat) (q:List Atom) {r:Option (List Atom)} {j:Nat},i<e.length->bZ e f i q=(r,j)->j<e.length
 | 0,i,q,r,j,B,h=>by simp[bZ]at h;omega
 | f+1,i,q,r,j,B,h=>by
  rcases u:bY e i with⟨_ | a,x⟩
  ·have:=gP y B u;rw[gj u]at h;simp at h;omega
  ·have D:=gP y B u;by_cases A:aS e x=6
   ·rw[iX u A]at h;refine pS y f (x+1) _ ?_ h;have E:e[x]?=some e[x]:=AS D;rw[cQ E]at A;exact y.next D (by omega) (by omega)
   ·rw[gz u A]at h;simp at h;omega
end Ax
