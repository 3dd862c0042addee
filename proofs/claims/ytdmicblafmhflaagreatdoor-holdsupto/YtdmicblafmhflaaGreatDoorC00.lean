/- Plain functions that mirror program's scanner, on byte arrays. No program here. -/
import Derived.Below
import Derived.Deep.AppendLies
import Derived.Deep.RegionHeld
import Derived.Laws.AppendOwn
import Derived.Laws.AppendOwnNone
import Derived.Laws.BitsLemmas
import Derived.Laws.Entries
import Derived.Laws.Rows
import Derived.Laws.Sem
import Derived.Laws.Strings
import Derived.Laws.World
import Derived.Lib.QuietBelow
import Derived.Maps.Own
import Derived.OwnWalk
import Derived.Tactics
import Derived.Laws.RangeString
import Derived.Laws.RangeAny
import Derived.Test.YtdmicblafmhflaaGreatDoorProg
import Derived.KernelRfl
import Derived.WalkKit
import Derived.WalkSpells
import Derived.WalkLawsBesides
import Derived.Shelf.Unicode.DecodeAny
import Derived.Lib.OthersKept
set_option linter.unusedSimpArgs false
set_option linter.unusedVariables false
set_option maxHeartbeats 1000000
set_option maxRecDepth 100000
namespace Go.Proofs.YtdmicblafmhflaaGreatDoor
open Go.Proofs.Tryz Go.RowKit
variable{p s:ByteArray}{a r:Int}{t:Int×Nat}{xs:List Value}{k n pos i f j:Nat}{o:Obj}{e:TypeId}{v:Value}{w:World}
theorem AS:type_of% @List.getElem?_eq_getElem:=@List.getElem?_eq_getElem
theorem AT:type_of% @Option.some.injEq:=@Option.some.injEq
theorem By:type_of% @Go.heap_alloc_new:=@Go.heap_alloc_new
theorem BY:type_of% @List.mem_cons:=@List.mem_cons
theorem If:type_of% @List.length_append:=@List.length_append
theorem IN:type_of% @List.getElem_mem:=@List.getElem_mem
theorem IS:type_of% @Nat.zero_le:=@Nat.zero_le
theorem IT:type_of% @List.setIfInBounds_toArray:=@List.setIfInBounds_toArray
theorem OF:type_of% @Nat.le_refl:=@Nat.le_refl
theorem ZD:type_of% @List.mem_append:=@List.mem_append
theorem aab:type_of% @decide_eq_false:=@decide_eq_false
theorem aae:type_of% @List.mem_singleton:=@List.mem_singleton
theorem aaj:type_of% @Go.RowKit.Below.refl:=@Go.RowKit.Below.refl
theorem aan:type_of% @List.drop_eq_getElem_cons:=@List.drop_eq_getElem_cons
theorem aap:type_of% @decide_eq_true:=@decide_eq_true
theorem aax:type_of% @List.mem_map:=@List.mem_map
theorem aay:type_of% @Go.RowKit.Below.heap_alloc:=@Go.RowKit.Below.heap_alloc
theorem aaB:type_of% @Go.cell_of_row:=@Go.cell_of_row
theorem aaD:type_of% @if_neg:=@if_neg
theorem aaE:type_of% @List.set_cons_zero:=@List.set_cons_zero
theorem aaH:type_of% @List.set_cons_succ:=@List.set_cons_succ
theorem aaK:type_of% @Nat.le_trans:=@Nat.le_trans
theorem aaL:type_of% @List.length_map:=@List.length_map
theorem aaM:type_of% @Go.World.ownsRow_nil:=@Go.World.ownsRow_nil
theorem aaN:type_of% @List.mem_map_of_mem:=@List.mem_map_of_mem
theorem aaP:type_of% @List.take_of_length_le:=@List.take_of_length_le
theorem aaR:type_of% @Go.IntKind.wrap_i64:=@Go.IntKind.wrap_i64
theorem aaT:type_of% @Go.bodyPost_ret:=@Go.bodyPost_ret
theorem aaV:type_of% @List.getElem?_toArray:=@List.getElem?_toArray
theorem aaW:type_of% @List.flatMap_cons:=@List.flatMap_cons
theorem aaZ:type_of% @List.take_add_one:=@List.take_add_one
theorem aa1:type_of% @Go.Obj.cells.injEq:=@Go.Obj.cells.injEq
theorem aa3:type_of% @if_pos:=@if_pos
theorem aa6:type_of% @List.map_append:=@List.map_append
theorem aa7:type_of% @Nat.lt_of_lt_of_le:=@Nat.lt_of_lt_of_le
theorem aa8:type_of% @List.append_assoc:=@List.append_assoc
theorem aa9:type_of% @List.mem_flatMap:=@List.mem_flatMap
theorem abb:type_of% @Go.World.size_alloc:=@Go.World.size_alloc
theorem abg:type_of% @Go.World.block_lt_of_cell?:=@Go.World.block_lt_of_cell?
theorem abh:type_of% @Option.mem_toList:=@Option.mem_toList
theorem abi:type_of% @Go.Value.slice.injEq:=@Go.Value.slice.injEq
theorem abn:type_of% @List.map_cons:=@List.map_cons
theorem abp:type_of% @Go.wpList_append_own:=@Go.wpList_append_own
theorem abr:type_of% @List.getElem?_append_right:=@List.getElem?_append_right
theorem abt:type_of% @List.getElem?_eq_some_iff:=@List.getElem?_eq_some_iff
theorem abu:type_of% @congrArg:=@congrArg
theorem abv:type_of% @List.length_take:=@List.length_take
theorem abw:type_of% @List.getElem?_cons_zero:=@List.getElem?_cons_zero
theorem aby:type_of% @List.append_nil:=@List.append_nil
theorem abz:type_of% @List.size_toArray:=@List.size_toArray
theorem abC:type_of% @Go.World.news_of_block:=@Go.World.news_of_block
theorem abD:type_of% @List.drop_eq_nil_of_le:=@List.drop_eq_nil_of_le
theorem abF:type_of% @Go.info_parts:=@Go.info_parts
theorem abG:type_of% @List.drop_of_length_le:=@List.drop_of_length_le
theorem abH:type_of% @Bool.eq_iff_iff:=@Bool.eq_iff_iff
theorem abK:type_of% @Go.Proofs.Tryz.underlying9:=@Go.Proofs.Tryz.underlying9
theorem abL:type_of% @List.length_cons:=@List.length_cons
theorem abO:type_of% @Go.RowKit.Below.heap_setCell:=@Go.RowKit.Below.heap_setCell
theorem abP:type_of% @Array.length_toList:=@Array.length_toList
theorem abQ:type_of% @List.flatMap_append:=@List.flatMap_append
theorem abR:type_of% @List.eq_nil_of_length_eq_zero:=@List.eq_nil_of_length_eq_zero
theorem abS:type_of% @List.take_length:=@List.take_length
theorem abT:type_of% @Go.block_lt_of_cell:=@Go.block_lt_of_cell
theorem abW:type_of% @decide_eq_true_eq:=@decide_eq_true_eq
theorem abX:type_of% @Go.Proofs.Tryz.underlying37:=@Go.Proofs.Tryz.underlying37
theorem abY:type_of% @List.getElem?_cons_succ:=@List.getElem?_cons_succ
theorem abZ:type_of% @Prod.mk.injEq:=@Prod.mk.injEq
theorem ab1:type_of% @beq_eq_false_iff_ne:=@beq_eq_false_iff_ne
theorem ab2:type_of% @Go.Proofs.Tryz.underlying46:=@Go.Proofs.Tryz.underlying46
theorem ab3:type_of% @List.getElem?_map:=@List.getElem?_map
theorem ab4:type_of% @List.mem_of_mem_take:=@List.mem_of_mem_take
theorem ab6:type_of% @List.length_singleton:=@List.length_singleton
theorem ab7:type_of% @List.take_append_drop:=@List.take_append_drop
theorem ab9:type_of% @List.set_append_right:=@List.set_append_right
theorem aca:type_of% @ByteArray.size_extract:=@ByteArray.size_extract
theorem acf:type_of% @List.getElem_of_mem:=@List.getElem_of_mem
theorem aci:type_of% @Go.Proofs.Tryz.underlying63:=@Go.Proofs.Tryz.underlying63
theorem acm:type_of% @Nat.zero_add:=@Nat.zero_add
theorem acn:type_of% @ByteArray.size_append:=@ByteArray.size_append
theorem aco:type_of% @Go.Addr.mk.injEq:=@Go.Addr.mk.injEq
theorem acp:type_of% @List.nil_append:=@List.nil_append
theorem acw:type_of% @Go.World.ownsRow.cells:=@Go.World.ownsRow.cells
theorem acx:type_of% @List.getElem?_append_left:=@List.getElem?_append_left
theorem acz:type_of% @List.mem_filterMap:=@List.mem_filterMap
theorem acC:type_of% @List.not_mem_nil:=@List.not_mem_nil
theorem acH:type_of% @List.mem_append_left:=@List.mem_append_left
theorem acI:type_of% @List.take_succ_eq_append_getElem:=@List.take_succ_eq_append_getElem
theorem acJ:type_of% @List.pairwise_cons:=@List.pairwise_cons
theorem acK:type_of% @Bool.and_eq_true:=@Bool.and_eq_true
theorem acM:type_of% @List.Nodup.length_le_of_subset:=@List.Nodup.length_le_of_subset
theorem acN:type_of% @Go.World.new_ne:=@Go.World.new_ne
theorem acO:type_of% @List.pairwise_append:=@List.pairwise_append
theorem acP:type_of% @List.length_drop:=@List.length_drop
theorem acQ:type_of% @Go.run_underlying:=@Go.run_underlying
theorem acR:type_of% @Array.getElem?_eq_getElem:=@Array.getElem?_eq_getElem
theorem acV:type_of% @Nat.add_zero:=@Nat.add_zero
theorem acY:type_of% @List.mem_of_mem_drop:=@List.mem_of_mem_drop
theorem acZ:type_of% @Bool.eq_false_iff:=@Bool.eq_false_iff
theorem ac2:type_of% @Array.toList_setIfInBounds:=@Array.toList_setIfInBounds
theorem ada:type_of% @List.getD_eq_getElem?_getD:=@List.getD_eq_getElem?_getD
theorem ade:type_of% @Go.Proofs.Tryz.underlying3:=@Go.Proofs.Tryz.underlying3
theorem adi:type_of% @List.take_append_of_le_length:=@List.take_append_of_le_length
theorem adj:type_of% @List.getElem_map:=@List.getElem_map
theorem adm:type_of% @Go.Proofs.Tryz.results209:=@Go.Proofs.Tryz.results209
theorem adn:type_of% @List.nodup_append:=@List.nodup_append
theorem adp:type_of% @List.map_nil:=@List.map_nil
theorem adr:type_of% @List.mem_cons_of_mem:=@List.mem_cons_of_mem
theorem adv:type_of% @ByteArray.data_append:=@ByteArray.data_append
theorem ady:type_of% @List.any_eq_true:=@List.any_eq_true
theorem adz:type_of% @Go.World.cell?_of_block:=@Go.World.cell?_of_block
theorem adC:type_of% @List.length_nil:=@List.length_nil
theorem adF:type_of% @List.pairwise_iff_getElem:=@List.pairwise_iff_getElem
theorem adH:type_of% @List.nodup_cons:=@List.nodup_cons
theorem adI:type_of% @List.flatMap_nil:=@List.flatMap_nil
theorem adJ:type_of% @List.toList_toArray:=@List.toList_toArray
theorem adK:type_of% @List.take_succ_cons:=@List.take_succ_cons
theorem adL:type_of% @Go.cell_regrown:=@Go.cell_regrown
theorem adN:type_of% @List.getElem?_take:=@List.getElem?_take
theorem adR:type_of% @Option.some.inj:=@Option.some.inj
theorem adV:type_of% @Go.Proofs.Tryz.underlying103:=@Go.Proofs.Tryz.underlying103
theorem adW:type_of% @List.mem_of_getElem?:=@List.mem_of_getElem?
theorem adY:type_of% @Go.Proofs.Tryz.underlying5:=@Go.Proofs.Tryz.underlying5
theorem adZ:type_of% @Array.getElem?_eq_some_iff:=@Array.getElem?_eq_some_iff
theorem ad3:type_of% @Go.wpList_append_own_none:=@Go.wpList_append_own_none
theorem ad8:type_of% @List.Pairwise.sublist:=@List.Pairwise.sublist
theorem ad9:type_of% @List.length_replicate:=@List.length_replicate
theorem aeb:type_of% @Go.Proofs.Tryz.underlying119:=@Go.Proofs.Tryz.underlying119
theorem aec:type_of% @Go.Proofs.Tryz.underlying102:=@Go.Proofs.Tryz.underlying102
theorem aed:type_of% @Go.step_append_lies:=@Go.step_append_lies
theorem aee:type_of% @List.sum_cons:=@List.sum_cons
theorem aef:type_of% @Go.Result.andThen_ok:=@Go.Result.andThen_ok
theorem aei:type_of% @of_decide_eq_true:=@of_decide_eq_true
theorem aej:type_of% @Nat.le_succ:=@Nat.le_succ
theorem ael:type_of% @Go.World.grownBy_alloc:=@Go.World.grownBy_alloc
theorem aeo:type_of% @Array.toList_append:=@Array.toList_append
theorem aep:type_of% @List.map_congr_left:=@List.map_congr_left
theorem aeq:type_of% @List.find?_cons:=@List.find?_cons
theorem aer:type_of% @Go.wpList_append_lies:=@Go.wpList_append_lies
theorem aes:type_of% @List.map_singleton:=@List.map_singleton
theorem aet:type_of% @Bool.false_eq_true:=@Bool.false_eq_true
theorem aeu:type_of% @List.getElem?_drop:=@List.getElem?_drop
theorem aev:type_of% @Bool.true_and:=@Bool.true_and
theorem aew:type_of% @Nat.sub_self:=@Nat.sub_self
theorem aex:type_of% @and_true:=@and_true
theorem aey:type_of% @List.map_map:=@List.map_map
theorem aez:type_of% @List.take_take:=@List.take_take
theorem aeA:type_of% @Go.wpList_mapUpdate_own:=@Go.wpList_mapUpdate_own
theorem aeB:type_of% @List.take_left':=@List.take_left'
theorem aeC:type_of% @UInt8.toNat_inj:=@UInt8.toNat_inj
theorem aeD:type_of% @List.foldl_cons:=@List.foldl_cons
theorem aeE:type_of% @Go.wpList_load_row:=@Go.wpList_load_row
theorem aeF:type_of% @Go.Lib.OthersKept.refl:=@Go.Lib.OthersKept.refl
theorem aeG:type_of% @Go.World.ownsRow.alloc:=@Go.World.ownsRow.alloc
theorem aeH:type_of% @or_false:=@or_false
theorem aeI:type_of% @Go.ByteArray.toList_eq:=@Go.ByteArray.toList_eq
theorem aeJ:type_of% @List.any_cons:=@List.any_cons
theorem aeK:type_of% @List.cons_append:=@List.cons_append
theorem aeL:type_of% @List.ext_getElem:=@List.ext_getElem
theorem aeM:type_of% @List.all_eq_true:=@List.all_eq_true
theorem aeN:type_of% @List.drop_zero:=@List.drop_zero
theorem aeO:type_of% @Eq.trans:=@Eq.trans
theorem aeP:type_of% @List.cons.injEq:=@List.cons.injEq
theorem aeQ:type_of% @Nat.min_eq_left:=@Nat.min_eq_left
theorem aeR:type_of% @Bool.or_eq_true:=@Bool.or_eq_true
theorem aeS:type_of% @List.length_set:=@List.length_set
theorem aeT:type_of% @Bool.false_or:=@Bool.false_or
theorem aeU:type_of% @trivial:=@trivial
theorem aeV:type_of% @beq_iff_eq:=@beq_iff_eq
namespace Ax
def pre(s p:ByteArray):Bool:=p.data.toList.isPrefixOf s.data.toList
def digit(r:Int):Bool:=decide (48<=r)&&decide (r<=57)
def fq(r:Int):Bool:=decide (65<=r)&&decide (r<=90)
def blank(r:Int):Bool:=r==32||r==10
def small(rest:ByteArray)(r:Int):Bool:=
 if r=65533 then pre rest ⟨#[239,191,189]⟩else (decide (97<=r)&&decide (r<=122))||decide (224<=r)
def tail(s:ByteArray)(p:Nat):ByteArray:=s.extract p s.size
def stops(rest:ByteArray)(p:Nat):Bool:=
 decide (0<p)&&!small (tail rest p) (Utf8.decode rest p).1&&!digit (Utf8.decode rest p).1
def aN(rest:ByteArray):Nat->Nat->Nat->Nat×Nat
 | 0,_,n=>(rest.size,n)
 | f+1,p,n=>if p<rest.size then (if stops rest p then (p,n)else aN rest f (p+(Utf8.decode rest p).2) (n+1))else (rest.size,n)
def word(rest:ByteArray)(kind:Int):Int×Nat:=
 let x:=aN rest rest.size 0 0
 if 6<x.2 then (0,0)else (kind,x.1)
def aK(rest:ByteArray)(r:Int):Int×Nat:=
 if r=40 then (4,1)else if r=41 then (5,1)else if r=44 then (6,1)else if r=46 then (7,1)
 else if pre rest ⟨#[58,45]⟩then (8,2)
 else if small rest r then word rest 2
 else if fq r then word rest 3
 else (0,0)
structure Tok where
 kind:Int
 at_:Nat
 text:ByteArray
def bf(s:ByteArray):Nat->Nat->Nat->List Tok->List Tok
 | 0,_,_,acc=>acc++[⟨1,s.size,ByteArray.empty⟩]
 | f+1,p,b,acc=>
  if p<s.size then
   if p<b\/blank (Utf8.decode s p).1=true then bf s f (p+(Utf8.decode s p).2) b acc
   else
    let t:=aK (s.extract p s.size) (Utf8.decode s p).1
    let abU:=acc++[⟨t.1,p,s.extract p (p+t.2)⟩]
    if t.1=0 then abU else bf s f (p+(Utf8.decode s p).2) (p+t.2) abU
  else acc++[⟨1,s.size,ByteArray.empty⟩]
def split(s:ByteArray):List Tok:=bf s s.size 0 0 []
theorem ri(s f p b e)(h:¬p<s.size):bf s f p b e=e++[⟨1,s.size,ByteArray.empty⟩]:=by
 cases f<;>simp[bf,h]
theorem iy(s f p b e)(h:p<s.size)(i:p<b\/blank (Utf8.decode s p).1=true):
 bf s (f+1) p b e=bf s f (p+(Utf8.decode s p).2) b e:=by grind [blank,bf]
theorem nU(s f p b e)(h:p<s.size)(q:¬(p<b\/blank (Utf8.decode s p).1=true))(k n)(i:aK (s.extract p s.size) (Utf8.decode s p).1=(k,n))(j:k=0):
 bf s (f+1) p b e=e++[⟨k,p,s.extract p (p+n)⟩]:=by grind [blank,aK,bf]
theorem th(s f p b e)(h:p<s.size)(q:¬(p<b\/blank (Utf8.decode s p).1=true))(k n)(i:aK (s.extract p s.size) (Utf8.decode s p).1=(k,n))(j:k≠0):
 bf s (f+1) p b e=bf s f (p+(Utf8.decode s p).2) (p+n) (e++[⟨k,p,s.extract p (p+n)⟩]):=by grind [blank,aK,bf]
theorem oK(s):∀f p n,(aN s f p n).1<=s.size
 | 0,_,_=>OF _
 | f+1,p,n=>by
  unfold aN;split
  ·split
   ·simp;omega
   ·exact oK s f _ _
  ·exact OF _
theorem Kl(s){k}:(word s k).2<=s.size:=by
 unfold word;simp only;split
 ·exact IS _
 ·exact oK s _ _ _
theorem WU(s)(h:pre s p=true):p.size<=s.size:=(List.isPrefixOf_iff_prefix.1 h).length_le
theorem uz(s r)(h:0<s.size):(aK s r).2<=s.size:=by
 unfold aK
 repeat' split
 any_goals (simp;omega;done)
 ·rename_i e;exact WU s e
 ·exact Kl s
 ·exact Kl s
 ·exact IS _
end Ax
/- The leaves of program: isBlank, isCapital, isDigit, strings.HasPrefix, isSmall. -/
theorem aM:Below w.heap.size w (w.alloc o):=(aaj _ _).alloc (OF _) _
theorem aj{p}(h:p):Hid p:=h
theorem eI(h:n<=1000000000000000000:=by omega):n<=maxLen:=by unfold maxLen;omega
theorem eW{a b}(h:a=b):Ending.returned (.bool a)=.returned (.bool b):=by rw[h]
theorem pD:
 Calls prog 177 #[.int .i32 r] w λe w'=>e=.returned (.bool (Ax.blank r))/\w'=w:=by
 go_enter func177,ntmps177
 go_wp2
 all_goals
  go_ret;exact⟨eW (by simp[Ax.blank, *]),rfl⟩
theorem qR:
 Calls prog 221 #[.int .i32 r] w λe w'=>e=.returned (.bool (Ax.fq r))/\w'=w:=by
 go_enter func221,ntmps221
 go_wp2
 all_goals
  go_ret;exact⟨eW (by rw[abH];simp[Ax.fq]<;>omega),rfl⟩
theorem lS:
 Calls prog 259 #[.int .i32 r] w λe w'=>e=.returned (.bool (Ax.digit r))/\w'=w:=by
 go_enter func259,ntmps259
 go_wp2
 all_goals
  go_ret;exact⟨eW (by rw[abH];simp[Ax.digit]<;>omega),rfl⟩
theorem toList_eq(s:ByteArray):s.toList=s.data.toList:=by
 rcases s with⟨⟨l⟩⟩;simp
theorem Ju(s p)(h:p.size<=s.size):((s.extract 0 p.size).toList==p.toList)=Ax.pre s p:=by
 unfold Ax.pre;rw[toList_eq,toList_eq];rcases s with⟨⟨l⟩⟩;rcases p with⟨⟨m⟩⟩;rw[abH];simp only[ByteArray.size,abz]at h;simp[List.prefix_iff_eq_take];exact eq_comm
theorem LU(s p)(h:¬p.size<=s.size):Ax.pre s p=false:=by
 unfold Ax.pre;rcases s with⟨⟨l⟩⟩;rcases p with⟨⟨m⟩⟩;rw[acZ];intro e;have:=(List.isPrefixOf_iff_prefix.1 e).length_le;exact h this
theorem lI(hs:s.size<=maxLen)(i:p.size<=maxLen):
 Calls prog 205 #[.string s,.string p] w λe w'=>e=.returned (.bool (Ax.pre s p))/\w'=w:=by
 unfold maxLen at hs i
 go_enter func205,ntmps205
 go_wp2
 ·go_ret;exact⟨eW (Ju s p (by assumption)),rfl⟩
 ·go_ret;exact⟨eW (LU s p (by assumption)).symm,rfl⟩
theorem gN(hs:s.size<=maxLen)(i:p.size<=maxLen:=by decide):
 Calls prog 143 #[.string s,.string p] w λe w'=>e=.returned (.bool (Ax.pre s p))/\w'=w:=by
 go_enter func143,ntmps143
 go_wp2_with (go_at_call 205;refine(lI hs i).mono ?_;rintro e w' ⟨rfl,rfl⟩)
 go_ret;exact⟨rfl,rfl⟩
theorem Hp(s):Ax.small s 65533=Ax.pre s ⟨#[239,191,189]⟩:=by simp[Ax.small]
theorem IK(s r)(h:(r==65533)=false):Ax.small s r=((decide (97<=r)&&decide (r<=122))||decide (224<=r)):=by
 simp at h;simp[Ax.small,h]
theorem fV(hs:s.size<=maxLen):
 Calls prog 219 #[.string s,.int .i32 r] w λe w'=>e=.returned (.bool (Ax.small s r))/\w'=w:=by
 by_cases h:r=65533
 ·subst h
  go_enter func219,ntmps219
  go_wp2_with (go_at_call 143;refine(gN hs).mono ?_;rintro e w' ⟨rfl,rfl⟩)
  go_ret;exact⟨eW (Hp s).symm,rfl⟩
 ·have i:(r==65533)=false:=by simp[h]
  clear h
  go_enter func219,ntmps219
  go_wp2_with fail
  all_goals
   go_ret;exact⟨eW (by rw[IK s r i,abH];simp<;>omega),rfl⟩
/- word and firstToken. -/
theorem Bi(s pos)(h:pos<s.size):1<=(Utf8.decode s pos).2:=by
 by_cases e:(s[pos]'h).toNat<128
 ·rw[decode_ascii s pos h e];exact OF _
 ·exact(decode_high s pos h (by omega)).2
theorem Gu(s pos):(Utf8.decode s pos).2<=4:=by
 unfold Utf8.decode;simp only
 repeat' split
 all_goals simp
theorem wi(s:ByteArray)(p:Nat)(h:s.size<=maxLen):(s.extract p s.size).size<=maxLen:=by
 have:(s.extract p s.size).size<=s.size:=by simp only[aca];omega
 omega
theorem C1(s f p n)(h:¬p<s.size):Ax.aN s f p n=(s.size,n):=by
 cases f<;>simp[Ax.aN,h]
theorem A4(s f p n)(h:p<s.size)(hs:Ax.stops s p=true):Ax.aN s (f+1) p n=(p,n):=by
 simp[Ax.aN,h,hs]
theorem po(s f p n)(h:p<s.size)(hs:Ax.stops s p=false):Ax.aN s (f+1) p n=Ax.aN s f (p+(Utf8.decode s p).2) (n+1):=by
 simp[Ax.aN,h,hs]
theorem CC(s k){e}(h:Ax.aN s s.size 0 0=(e,n))(i:6<n):Ax.word s k=(0,0):=by
 simp[Ax.word,h,i]
theorem EX(s k){e}(h:Ax.aN s s.size 0 0=(e,n))(i:¬6<n):Ax.word s k=(k,e):=by
 simp[Ax.word,h,i]
theorem GH{k}(hs:s.size<=maxLen):
 Calls prog 220 #[.string s,.int .i64 k] w λe w'=>e=.returned (.tuple #[.int .i64 (Ax.word s k).1,.int .i64 (Ax.word s k).2])/\∃pos,w'=w.iter s pos:=by
 have i:=hs;unfold maxLen at hs
 go_enter func220,ntmps220
 go_wp2_with fail
 go_loopw [6,7] (λa b w'=>∃(pos n f:Nat),w'=w.iter s pos/\a=.int .i64 s.size/\b=.int .i64 n/\n<=pos/\pos<=s.size+4/\s.size<=pos+f/\Hid (Ax.aN s f pos n=Ax.aN s s.size 0 0)) (λ_ _ w'=>s.size-w'.iterPos w.heap.size)
 ·exact⟨0,0,s.size,rfl,rfl,rfl,by omega,by omega,by omega,rfl⟩
 ·
  obtain⟨pos,n,f,rfl,rfl,rfl,J,E,M,u⟩:=hrel;by_cases j:pos<s.size
  ·have I:∀q,(Instr.next (.pointer (some ⟨w.heap.size,0,none⟩)) true q).run prog (w.iter s pos)=_:=λq=>run_next_any w s pos q j;have D:=Bi s pos j;have H:=Gu s pos;cases f with
   | zero=>omega
   | succ f=>
   by_cases F:0<pos
   ·by_cases y:Ax.small (s.extract pos s.size) (Utf8.decode s pos).1=true
    ·go_wp2_with (first | (go_at_call 219;refine(fV (wi s pos i)).mono ?_;rintro e w' ⟨rfl,rfl⟩) | (go_at_call 259;refine(lS).mono ?_;rintro e w' ⟨rfl,rfl⟩))
     go_roundw
     ·exact⟨pos+(Utf8.decode s pos).2,n+1,f,rfl,rfl,by go_num,by omega,by omega,by omega,(po s f pos n j (by simp[Ax.stops,Ax.tail,y])).symm.trans u.out⟩
     ·simp;omega
    ·have A:Ax.small (s.extract pos s.size) (Utf8.decode s pos).1=false:=by simpa using y
     clear y;by_cases t:Ax.digit (Utf8.decode s pos).1=true
     ·go_wp2_with (first | (go_at_call 219;refine(fV (wi s pos i)).mono ?_;rintro e w' ⟨rfl,rfl⟩) | (go_at_call 259;refine(lS).mono ?_;rintro e w' ⟨rfl,rfl⟩))
      go_roundw
      ·exact⟨pos+(Utf8.decode s pos).2,n+1,f,rfl,rfl,by go_num,by omega,by omega,by omega,(po s f pos n j (by simp[Ax.stops,t])).symm.trans u.out⟩
      ·simp;omega
     ·have B:Ax.digit (Utf8.decode s pos).1=false:=by simpa using t
      clear t;have x:Hid (Ax.aN s s.size 0 0=(pos,n)):=u.out.symm.trans (A4 s f pos n j (by simp[Ax.stops,Ax.tail,F,A,B]))
      go_wp2_with (first | (go_at_call 219;refine(fV (wi s pos i)).mono ?_;rintro e w' ⟨rfl,rfl⟩) | (go_at_call 259;refine(lS).mono ?_;rintro e w' ⟨rfl,rfl⟩))
      ·have hm:6<n:=by omega
       go_ret2
       exact⟨by rw[CC s k x.out hm];rfl,_,rfl⟩
      ·have hm:¬6<n:=by omega
       go_ret2
       exact⟨by rw[EX s k x.out hm];rfl,_,rfl⟩
   ·go_wp2_with (first | (go_at_call 219;refine(fV (wi s pos i)).mono ?_;rintro e w' ⟨rfl,rfl⟩) | (go_at_call 259;refine(lS).mono ?_;rintro e w' ⟨rfl,rfl⟩))
    go_roundw
    ·exact⟨pos+(Utf8.decode s pos).2,n+1,f,rfl,rfl,by go_num,by omega,by omega,by omega,(po s f pos n j (by simp[Ax.stops];omega)).symm.trans u.out⟩
    ·simp;omega
  ·have I:∀q,(Instr.next (.pointer (some ⟨w.heap.size,0,none⟩)) true q).run prog (w.iter s pos)=_:=λq=>run_next_end w s pos q j;have x:Hid (Ax.aN s s.size 0 0=(s.size,n)):=u.out.symm.trans (C1 s f pos n j)
   go_wp2_with fail
   ·have hm:6<n:=by omega
    go_ret2
    exact⟨by rw[CC s k x.out hm];rfl,_,rfl⟩
   ·have hm:¬6<n:=by omega
    go_ret2
    exact⟨by rw[EX s k x.out hm];rfl,_,rfl⟩
/- firstToken. -/
theorem rC:Below w.heap.size w (w.iter s pos):=aM
theorem ft1(s r)(h:(r==40)=true):Ax.aK s r=(4,1):=by simp at h;simp[Ax.aK,h]
theorem ft2(s r)(e:(r==40)=false)(h:(r==41)=true):Ax.aK s r=(5,1):=by simp at h;simp[Ax.aK,h]
theorem ft3(s r)(i:(r==40)=false)(e:(r==41)=false)(h:(r==44)=true):Ax.aK s r=(6,1):=by simp at h;simp[Ax.aK,h]
theorem ft4(s r)(j:(r==40)=false)(i:(r==41)=false)(e:(r==44)=false)(h:(r==46)=true):Ax.aK s r=(7,1):=by simp at h;simp[Ax.aK,h]
theorem ft5(s r)(q:(r==40)=false)(j:(r==41)=false)(i:(r==44)=false)(e:(r==46)=false)(h:Ax.pre s ⟨#[58,45]⟩=true):Ax.aK s r=(8,2):=by
 simp at q j i e;simp[Ax.aK, *]
theorem ft6(s r)(q:(r==40)=false)(j:(r==41)=false)(i:(r==44)=false)(e:(r==46)=false)(t:Ax.pre s ⟨#[58,45]⟩=false)(h:Ax.small s r=true):Ax.aK s r=Ax.word s 2:=by
 simp at q j i e;simp[Ax.aK, *]
theorem ft7(s r)(q:(r==40)=false)(j:(r==41)=false)(i:(r==44)=false)(e:(r==46)=false)(u:Ax.pre s ⟨#[58,45]⟩=false)(t:Ax.small s r=false)(h:Ax.fq r=true):Ax.aK s r=Ax.word s 3:=by
 simp at q j i e;simp[Ax.aK, *]
theorem ft8(s r)(q:(r==40)=false)(j:(r==41)=false)(i:(r==44)=false)(e:(r==46)=false)(u:Ax.pre s ⟨#[58,45]⟩=false)(t:Ax.small s r=false)(h:Ax.fq r=false):Ax.aK s r=(0,0):=by
 simp at q j i e;simp[Ax.aK, *]
theorem wU(h:t=(a,1)):Ending.returned (.tuple #[.int .i64 a,.int .i64 1])=.returned (.tuple #[.int .i64 t.1,.int .i64 t.2]):=by rw[h];rfl
theorem Tf(h:t=(a,2)):Ending.returned (.tuple #[.int .i64 a,.int .i64 2])=.returned (.tuple #[.int .i64 t.1,.int .i64 t.2]):=by rw[h];rfl
theorem TG(h:t=(a,0)):Ending.returned (.tuple #[.int .i64 a,.int .i64 0])=.returned (.tuple #[.int .i64 t.1,.int .i64 t.2]):=by rw[h];rfl
theorem Kz{u}(h:t=u):Ending.returned (.tuple #[.int .i64 u.1,.int .i64 u.2])=.returned (.tuple #[.int .i64 t.1,.int .i64 t.2]):=by rw[h]
theorem lD(s w)(hs:s.size<=maxLen):
 Calls prog 178 #[.string s,.int .i32 r] w λe w'=>e=.returned (.tuple #[.int .i64 (Ax.aK s r).1,.int .i64 (Ax.aK s r).2])/\Below w.heap.size w w':=by
 cases i:(r==40)
 case true=>
  go_enter func178,ntmps178
  go_wp2_with fail
  go_ret2
  exact⟨wU (ft1 s r i),aaj _ _⟩
 cases j:(r==41)
 case true=>
  go_enter func178,ntmps178
  go_wp2_with fail
  go_ret2
  exact⟨wU (ft2 s r i j),aaj _ _⟩
 cases q:(r==44)
 case true=>
  go_enter func178,ntmps178
  go_wp2_with fail
  go_ret2
  exact⟨wU (ft3 s r i j q),aaj _ _⟩
 cases t:(r==46)
 case true=>
  go_enter func178,ntmps178
  go_wp2_with fail
  go_ret2
  exact⟨wU (ft4 s r i j q t),aaj _ _⟩
 cases u:Ax.pre s ⟨#[58,45]⟩
 case true=>
  go_enter func178,ntmps178
  go_wp2_with (go_at_call 143;refine(gN hs).mono ?_;rintro e w' ⟨rfl,rfl⟩)
  go_ret2
  exact⟨Tf (ft5 s r i j q t u),aaj _ _⟩
 cases y:Ax.small s r
 case true=>
  have x:Hid (Ax.aK s r=Ax.word s 2):=ft6 s r i j q t u y
  go_enter func178,ntmps178
  go_wp2_with (first | (go_at_call 143;refine(gN hs).mono ?_;rintro e w' ⟨rfl,rfl⟩) | (go_at_call 219;refine(fV hs).mono ?_;rintro e w' ⟨rfl,rfl⟩) | (go_at_call 220;refine(GH hs).mono ?_;rintro e w' ⟨rfl,pos,rfl⟩))
  go_ret2
  exact⟨Kz x.out,rC⟩
 cases A:Ax.fq r
 case true=>
  have x:Hid (Ax.aK s r=Ax.word s 3):=ft7 s r i j q t u y A
  go_enter func178,ntmps178
  go_wp2_with (first | (go_at_call 143;refine(gN hs).mono ?_;rintro e w' ⟨rfl,rfl⟩) | (go_at_call 219;refine(fV hs).mono ?_;rintro e w' ⟨rfl,rfl⟩) | (go_at_call 221;refine(qR).mono ?_;rintro e w' ⟨rfl,rfl⟩) | (go_at_call 220;refine(GH hs).mono ?_;rintro e w' ⟨rfl,pos,rfl⟩))
  go_ret2
  exact⟨Kz x.out,rC⟩
 go_enter func178,ntmps178
 go_wp2_with (first | (go_at_call 143;refine(gN hs).mono ?_;rintro e w' ⟨rfl,rfl⟩) | (go_at_call 219;refine(fV hs).mono ?_;rintro e w' ⟨rfl,rfl⟩) | (go_at_call 221;refine(qR).mono ?_;rintro e w' ⟨rfl,rfl⟩))
 go_ret2
 exact⟨TG (ft8 s r i j q t u y A),aaj _ _⟩
/- utf8.DecodeRuneInString as it is laid by the shelf; program.IsName. -/
section
open Go.Shelf Go.RowKit
def JS:Ren:=⟨λ| 197=>198 | 260=>246 | n=>n,λ| 0=>0 | 3=>3 | 4=>4 | 5=>5 | 9=>9 | 21=>21 | 46=>246 | 105=>334 | 119=>404 | 138=>406 | 139=>407 | n=>n,λ| 3=>2 | 4=>3 | n=>n⟩
theorem S7:Lays.n197 prog JS where
 mixed:=by kernel_rfl
 f197:=func198.trans (abu some (by kernel_rfl))
 f260:=func246.trans (abu some (by kernel_rfl))
 t0:=Tryz.underlying0
 a0:=Tryz.isAgg0
 z0:=Tryz.sizeOf0
 v0:=Tryz.zeroValue0
 t3:=ade
 a3:=Tryz.isAgg3
 z3:=Tryz.sizeOf3
 v3:=Tryz.zeroValue3
 t4:=Tryz.underlying4
 a4:=Tryz.isAgg4
 z4:=Tryz.sizeOf4
 v4:=Tryz.zeroValue4
 t5:=adY
 a5:=Tryz.isAgg5
 z5:=Tryz.sizeOf5
 v5:=Tryz.zeroValue5
 t9:=abK
 a9:=Tryz.isAgg9
 z9:=Tryz.sizeOf9
 v9:=Tryz.zeroValue9
 t21:=Tryz.underlying21
 a21:=Tryz.isAgg21
 z21:=Tryz.sizeOf21
 v21:=Tryz.zeroValue21
 t46:=Tryz.underlying246
 a46:=Tryz.isAgg246
 z46:=Tryz.sizeOf246
 v46:=Tryz.zeroValue246
 t105:=Tryz.underlying334
 a105:=Tryz.isAgg334
 z105:=Tryz.sizeOf334
 v105:=Tryz.zeroValue334
 t119:=Tryz.underlying404
 a119:=Tryz.isAgg404
 z119:=Tryz.sizeOf404
 t138:=Tryz.underlying406
 a138:=Tryz.isAgg406
 z138:=Tryz.sizeOf406
 v138:=Tryz.zeroValue406
 t139:=Tryz.underlying407
 a139:=Tryz.isAgg407
 z139:=Tryz.sizeOf407
 v139:=Tryz.zeroValue407
 g3:=by kernel_rfl
 g4:=by kernel_rfl
abbrev gJ(w:World):Prop:=Lib.Utf8Tabs 2 3 w
theorem IF(s w)(i:gJ w):
 Calls prog 198 #[.string s] w λe w'=>e=.returned (.tuple #[.int .i32 (Lib.decodeGo s).1,.int .i64 (Lib.decodeGo s).2])/\Below w.heap.size w w':=
 Any.utf8_DecodeRuneInString S7 s w i
namespace Ax
def cF(s:ByteArray):Bool:=((aK s (Lib.decodeGo s).1).1==2)&&(((aK s (Lib.decodeGo s).1).2:Int)==(s.size:Int))
end Ax
theorem xX(s w)(u:gJ w)(hs:s.size<=maxLen):
 Calls prog 130 #[.string s] w λe w'=>e=.returned (.bool (Ax.cF s))/\Below w.heap.size w w':=by
 have hd:=IF s w u;have i:Ax.cF s=(((Ax.aK s (Lib.decodeGo s).1).1==2)&&(((Ax.aK s (Lib.decodeGo s).1).2:Int)==(s.size:Int))):=rfl;have j:∀w1,Calls prog 178 #[.string s,.int .i32 (Lib.decodeGo s).1] w1 λe w'=>e=.returned (.tuple #[.int .i64 (Ax.aK s (Lib.decodeGo s).1).1,.int .i64 (Ax.aK s (Lib.decodeGo s).1).2])/\Below w1.heap.size w1 w':=λw1=>lD s w1 hs;generalize (Lib.decodeGo s).1=R at hd i j;generalize (Lib.decodeGo s).2=K at hd;generalize Ax.aK s R=x at i j;obtain⟨a,b⟩:=x;simp only at i j;rw[i];clear i;cases y:(a==2)
 ·go_enter func130,ntmps130
  go_wp2_with (first | (go_at_call 198;refine hd.mono ?_;rintro e w1 ⟨rfl,q⟩) | (go_at_call 178;refine(j _).mono ?_;rintro e w2 ⟨rfl,t⟩))
  go_ret;exact⟨by simp,q.trans (t.mono q.size)⟩
 ·go_enter func130,ntmps130
  go_wp2_with (first | (go_at_call 198;refine hd.mono ?_;rintro e w1 ⟨rfl,q⟩) | (go_at_call 178;refine(j _).mono ?_;rintro e w2 ⟨rfl,t⟩))
  go_ret;exact⟨by simp,q.trans (t.mono q.size)⟩
end
/- split. -/
def dJ(l:List Ax.Tok):List Value:=l.flatMap λt=>[.int .i64 t.kind,.int .i64 t.at_,.string t.text]
theorem me(l t):dJ (l++[t])=dJ l++[.int .i64 t.kind,.int .i64 t.at_,.string t.text]:=by simp[dJ]
theorem Tryz.Uj:(prog.info? 210).map (λi=>(i.zero,i.size,i.bytes))=some (some (.agg #[.int .i64 0,.int .i64 0,.string ByteArray.empty]),3,32):=by kernel_rfl
theorem ae{w' base size}(h:w.ownsRow base e size v n xs)(i:Below w.heap.size w w'):w'.ownsRow base e size v n xs:=
 h.kept (row:=none) ⟨i.os,i.tape,i.output,i.size,λk j _=>i.block k j⟩ (by cases q:v.ownBlock<;>simp)
theorem ownsRow_iterAt{base size}(h:w.ownsRow base e size v n xs)(x:k<base:=by omega):(w.iterAt k s pos).ownsRow base e size v n xs:=by
 refine⟨h.1, ?_⟩;rcases h.2 with q | ⟨g,cap,i,j,u,t,r⟩
 ·exact .inl q
 ·exact .inr ⟨g,cap,i,j,u,by rw[Lib.iterAt_other _ _ _ _ _ (by omega)];exact t,r⟩
theorem dn(w:World)(t:TypeId)(xs:List Value):∀(j:Nat) (u:Value),xs[j]?=some u->(w.alloc (.cells xs.toArray t)).cell? ((⟨w.heap.size,0,none⟩:Addr).add j)=some u:=by
 intro j u e;have i:(⟨w.heap.size,0,none⟩:Addr).add j=⟨w.heap.size,j,none⟩:=by unfold Addr.add;split<;>simp_all
 rw[i,aaB _ w.heap.size j xs.toArray t (0,0) (By w _)];simpa using e
theorem lt_of_heap(h:w.heap[k]?=some o):k<w.heap.size:=(adZ.1 h).1
def yZ(s:ByteArray)(w wr:World)(v:Value)(pos Hn f:Nat)(acc:List Ax.Tok):Prop:=
 wr.heap[w.heap.size]?=some (.stringIter s pos)/\wr.ownsRow (w.heap.size+1) 210 3 v acc.length (dJ acc)/\Below w.heap.size w wr/\
 acc.length<=pos/\pos<=s.size+4/\s.size<=pos+f/\Hn<=s.size/\Ax.bf s f pos Hn acc=Ax.split s
theorem vh{wr w1 w2 pos'}(i:wr.heap[w.heap.size]?=some (.stringIter s pos))
 (t:wr.ownsRow (w.heap.size+1) 210 3 v n xs)(y:Below w.heap.size w wr)
 (j:Below (wr.iterAt w.heap.size s pos').heap.size (wr.iterAt w.heap.size s pos') w1)(q:(w1.alloc o).grownBy w2 v.ownBlock):
 w2.heap[w.heap.size]?=some (.stringIter s pos')/\Below w.heap.size w w2:=by
 have D:=lt_of_heap i;have B:(wr.iterAt w.heap.size s pos').heap.size=wr.heap.size:=Lib.iterAt_size _ _ _ _;have A:=j.size;have x:some w.heap.size≠v.ownBlock:=by
  intro e;have:=(t.lt _ e.symm).1;omega
 refine⟨?_, ?_⟩
 ·rw[q.block _ (by simp;omega) x,aay _ _ _ (by omega),j.block _ (by omega)];exact Lib.iterAt_heap _ _ _ _ _ i
 ·refine((Lib.below_iterAt y (OF _) s pos').trans ?_);refine((j.mono (by omega)).alloc (by omega) o).grown q (by simp;omega) ?_;intro k u;have:=(t.lt _ u).1;omega
theorem Fl(s w):yZ s w (w.iter s 0) (.slice none 0 0) 0 0 s.size []:=
 ⟨World.iter_heap _ _ _,aaM _ _ _ _,rC,OF _,IS _,by omega,IS _,rfl⟩
theorem jg(h:w.heap[k]?=some (.stringIter s pos)):w.iterPos k=pos:=by simp[World.iterPos,h]
theorem aD{b b' size}(h:w.ownsRow b e size v n xs)(u:b'<=b):w.ownsRow b' e size v n xs:=by
 refine⟨h.1, ?_⟩;rcases h.2 with q | ⟨g,cap,i,j,t,r⟩
 ·exact .inl q
 ·exact .inr ⟨g,cap,i,j,by omega,r⟩
theorem Lb(s)(hs:s.size<=600):
 Calls prog 103 #[.string s] w λe w'=>∃v,e=.returned v/\w'.ownsRow w.heap.size 210 3 v (Ax.split s).length (dJ (Ax.split s))/\Below w.heap.size w w':=by
 obtain⟨N,O,X,W,V⟩:=abF Tryz.Uj
 go_enter func103,ntmps103
 go_wp2_with fail
 go_loopw [3,4] (λv b wr=>∃(pos q f:Nat) (i:List Ax.Tok),b=.int .i64 q/\yZ s w wr v pos q f i) (λ_ _ wr=>s.size-wr.iterPos w.heap.size)
 ·exact⟨0,0,s.size,[],rfl,Fl s w⟩
 ·
  obtain⟨pos,q,f,i,rfl,j,t,H,C5,hp4,hf,Y,hl⟩:=hrel;have I:=aj hl;clear hl;have aL:=lt_of_heap j;by_cases x:pos<s.size
  ·have UN:∀u,(Instr.next (.pointer (some ⟨w.heap.size,0,none⟩)) true u).run prog wr=_:=λu=>Lib.run_next_any_at wr w.heap.size s pos u j x;have hwd:=Bi s pos x;have aiZ:=Gu s pos;cases f with
   | zero=>omega
   | succ f=>
   have skip:∀(F:pos<q\/Ax.blank (Utf8.decode s pos).1=true),yZ s w (wr.iterAt w.heap.size s (pos+(Utf8.decode s pos).2)) u3 (pos+(Utf8.decode s pos).2) q f i:=λF=>
    ⟨Lib.iterAt_heap _ _ _ _ _ j,ownsRow_iterAt t,Lib.below_iterAt H (OF _) _ _,by omega,by omega,by omega,Y,(Ax.iy s f pos q i x F).symm.trans I.out⟩
   by_cases F:pos<q
   ·have E:=skip (.inl F);clear skip t
    go_wp2_with fail
    go_roundw
    ·exact⟨_,q,f,i,rfl,E⟩
    ·rw[jg E.1,jg j];omega
   ·cases eB:Ax.blank (Utf8.decode s pos).1
    case true=>
     have E:=skip (.inr eB);clear skip t
     go_wp2_with (go_at_call 177;refine(pD).mono ?_;rintro e w' ⟨rfl,rfl⟩)
     go_roundw
     ·exact⟨_,q,f,i,rfl,E⟩
     ·rw[jg E.1,jg j];omega
    case false=>
     clear skip;have qt:Hid (¬(pos<q\/Ax.blank (Utf8.decode s pos).1=true)):=by rw[eB];simp[Hid];omega
     have cp:(s.extract pos s.size).size<=maxLen:=by simp only[aca];unfold maxLen;omega
     have Yu:=Ax.uz (s.extract pos s.size) (Utf8.decode s pos).1 (by simp only[aca];omega);simp only[aca]at Yu;obtain⟨kd,sz,M⟩:∃kd sz,Ax.aK (s.extract pos s.size) (Utf8.decode s pos).1=(kd,sz):=⟨_,_,rfl⟩;rw[M]at Yu;simp only at Yu;have J:=aj M;clear M;cases PL:(kd==0)
     case false=>
      go_wp2_with (first | (go_at_call 177;refine(pD).mono ?_;rintro e w' ⟨rfl,rfl⟩) | (go_at_call 178;refine(lD _ _ cp).mono ?_;rintro e w1 ⟨rfl,A⟩;rw[J.out];have B:=ae (ownsRow_iterAt t) A;have E6:=A.size) | (at_builtin;refine abp _ rfl (.tmp 30) (.tmp 40) 202 rfl (w.heap.size+1) 210 N _ 3 32 Tryz.underlying202 O X W V rfl (by decide) _ _ _ rfl (B.alloc _) ⟨w1.heap.size,0,none⟩ 1 1 [.int .i64 kd,.int .i64 pos,.string (s.extract pos (pos+sz))] rfl rfl (dn _ _ _) (by simp[Value.oneCell']) eI (by omega) (by rw[Lib.iterAt_size]at E6;simp;omega) ?_;intro v2 w2 D y _;obtain⟨Ye,U⟩:=vh j t H A y;clear y B))
      go_roundw
      ·
       refine⟨pos+(Utf8.decode s pos).2,pos+sz,f,i++[⟨kd,pos,s.extract pos (pos+sz)⟩],by go_num,Ye, ?_,U, ?_,by omega,by omega,by omega, ?_⟩
       ·rw[me];simpa using D
       ·simp;omega
       ·exact(Ax.th s f pos q i x qt.out kd sz J.out (by simpa using PL)).symm.trans I.out
      ·rw[jg Ye,jg j];omega
     case true=>
      go_wp2_with (first | (go_at_call 177;refine(pD).mono ?_;rintro e w' ⟨rfl,rfl⟩) | (go_at_call 178;refine(lD _ _ cp).mono ?_;rintro e w1 ⟨rfl,A⟩;rw[J.out];have B:=ae (ownsRow_iterAt t) A;have E6:=A.size) | (at_builtin;refine abp _ rfl (.tmp 30) (.tmp 40) 202 rfl (w.heap.size+1) 210 N _ 3 32 Tryz.underlying202 O X W V rfl (by decide) _ _ _ rfl (B.alloc _) ⟨w1.heap.size,0,none⟩ 1 1 [.int .i64 kd,.int .i64 pos,.string (s.extract pos (pos+sz))] rfl rfl (dn _ _ _) (by simp[Value.oneCell']) eI (by omega) (by rw[Lib.iterAt_size]at E6;simp;omega) ?_;intro v2 w2 D y _;obtain⟨Ye,U⟩:=vh j t H A y;clear y B))
      go_ret;have Z:Ax.split s=i++[⟨kd,pos,s.extract pos (pos+sz)⟩]:=I.out.symm.trans (Ax.nU s f pos q i x qt.out kd sz J.out (by simpa using PL));refine⟨_,rfl, ?_,U⟩;rw[Z,me];refine aD (by simpa using D) (aej _)
  ·have UN:∀u,(Instr.next (.pointer (some ⟨w.heap.size,0,none⟩)) true u).run prog wr=_:=λu=>Lib.run_next_end_at wr w.heap.size s pos u j x;have Z:Hid (Ax.split s=i++[⟨1,s.size,ByteArray.empty⟩]):=I.out.symm.trans (Ax.ri s f pos q i x)
   go_wp2_with (at_builtin;refine abp _ rfl (.tmp 48) (.tmp 52) 202 rfl (w.heap.size+1) 210 N _ 3 32 Tryz.underlying202 O X W V rfl (by decide) _ _ _ rfl (t.alloc _) ⟨wr.heap.size,0,none⟩ 1 1 [.int .i64 1,.int .i64 s.size,.string ByteArray.empty] rfl rfl (dn _ _ _) (by simp[Value.oneCell']) eI (by omega) (by simp;omega) ?_;intro v2 w2 D y _)
   go_ret;refine⟨_,rfl, ?_, ?_⟩
   ·rw[Z.out,me];refine aD (by simpa using D) (aej _)
   ·refine(H.alloc (by omega) _).grown y (by simp;omega) ?_;intro k hk;have:=(t.lt _ hk).1;omega
/- Plain functions that mirror program's parser. No program here. -/
namespace Ax
def Ends(l:List Tok):Prop:=∃m t,l=m++[t]/\(t.kind=0\/t.kind=1)
theorem kN(s):∀f p b e,Ends (bf s f p b e)
 | 0,_,_,e=>⟨e,_,rfl,.inr rfl⟩
 | f+1,p,b,e=>by
  unfold bf;split
  ·split
   ·exact kN s f _ _ _
   ·simp only;split
    ·rename_i h;exact⟨e,_,rfl,.inl h⟩
    ·exact kN s f _ _ _
  ·exact⟨e,_,rfl,.inr rfl⟩
theorem gi(s):Ends (split s):=kN s _ _ _ _
theorem jc(s):∀f p b e,(bf s f p b e).length<=e.length+f+1
 | 0,_,_,e=>by simp[bf]
 | f+1,p,b,e=>by
  unfold bf;split
  ·split
   ·have:=jc s f (p+(Utf8.decode s p).2) b e;omega
   ·simp only;split
    ·simp
    ·have:=jc s f (p+(Utf8.decode s p).2) (p+(aK (s.extract p s.size) (Utf8.decode s p).1).2) (e++[⟨(aK (s.extract p s.size) (Utf8.decode s p).1).1,p,s.extract p (p+(aK (s.extract p s.size) (Utf8.decode s p).1).2)⟩]);simp only[If,ab6]at this;omega
  ·simp
theorem kp(s):(split s).length<=s.size+1:=by
 have:=jc s s.size 0 0 [];simp only[adC,acm]at this;exact this
theorem Ends.next{l}(h:Ends l)(e:k<l.length)(j:l[k].kind≠0)(i:l[k].kind≠1):k+1<l.length:=by grind [Ends]
structure Term where
 kind:Int
 text:ByteArray
structure Atom where
 at_:Nat
 pred:ByteArray
 af:List Term
structure aI where
 head:Atom
 body:List Atom
def aS(ak:List Tok)(i:Nat):Int:=match ak[i]? with | some t=>t.kind | none=>0
theorem cQ{e t}(h:e[i]?=some t):aS e i=t.kind:=by simp[aS,h]
def kP(ak:List Tok)(i:Nat):Option Term×Nat:=
 match ak[i]? with
 | some t=>if t.kind=2\/t.kind=3 then (some ⟨t.kind-2,t.text⟩,i+1)else (none,i)
 | none=>(none,i)
theorem xP{e t}(h:e[i]?=some t)(j:t.kind=2\/t.kind=3):kP e i=(some ⟨t.kind-2,t.text⟩,i+1):=by simp[kP,h,j]
theorem zE{e t}(h:e[i]?=some t)(j:¬(t.kind=2\/t.kind=3)):kP e i=(none,i):=by simp[kP,h,j]
def cf(ak:List Tok):Nat->Nat->List Term->Option (List Term)×Nat
 | 0,i,_=>(none,i)
 | f+1,i,acc=>
  match kP ak i with
  | (none,j)=>(none,j)
  | (some t,j)=>if aS ak j=6 then cf ak f (j+1) (acc++[t])else (some (acc++[t]),j)
theorem uR{j e}(h:kP j i=(none,i)):cf j (f+1) i e=(none,i):=by simp[cf,h]
theorem BA{q e t}(h:kP q i=(some t,j))(u:aS q j=6):cf q (f+1) i e=cf q f (j+1) (e++[t]):=by simp[cf,h,u]
theorem oO{q e t}(h:kP q i=(some t,j))(u:¬aS q j=6):cf q (f+1) i e=(some (e++[t]),j):=by simp[cf,h,u]
theorem Ro{e}(q:Ends e)(j:i<e.length):(kP e i).2<e.length:=by grind [Ends,kP]
theorem pP{w}(y:Ends w):∀(f i:Nat) (q:List Term) {r:Option (List Term)} {j:Nat},i<w.length->cf w f i q=(r,j)->j<w.length
 | 0,i,q,r,j,A,h=>by simp[cf]at h;omega
 | f+1,i,q,r,j,A,h=>by
  have u:=Ro y A;unfold cf at h;split at h
  ·rename_i x e;rw[e]at u;simp at h u;omega
  ·rename_i t x e;rw[e]at u;simp only at u;split at h
   ·rename_i D;refine pP y f (x+1) _ ?_ h;have B:w[x]?=some w[x]:=AS u;rw[cQ B]at D;exact y.next u (by omega) (by omega)
   ·simp at h;omega
def bY(ak:List Tok)(i:Nat):Option Atom×Nat:=
 match ak[i]? with
 | none=>(none,i)
 | some t=>
  if t.kind=2 then
   if aS ak (i+1)=4 then
    match cf ak ak.length (i+1+1) []with
    | (none,j)=>(none,j)
    | (some ts,j)=>if aS ak j=5 then (some ⟨t.at_,t.text,ts⟩,j+1)else (none,j)
   else (none,i+1)
  else (none,i)
theorem DI{e t}(h:e[i]?=some t)(j:¬t.kind=2):bY e i=(none,i):=by simp[bY,h,j]
theorem C6{e t}(h:e[i]?=some t)(j:t.kind=2)(q:¬aS e (i+1)=4):bY e i=(none,i+1):=by simp[bY,h,j,q]
theorem C0{e t}(h:e[i]?=some t)(u:t.kind=2)(w:aS e (i+1)=4)(q:cf e e.length (i+1+1) []=(none,j)):bY e i=(none,j):=by simp[bY,h,u,w,q]
theorem Da{e t q}(h:e[i]?=some t)(w:t.kind=2)(y:aS e (i+1)=4)(u:cf e e.length (i+1+1) []=(some q,j))(x:¬aS e j=5):bY e i=(none,j):=by simp[bY,h,w,y,u,x]
theorem Dd{e t q}(h:e[i]?=some t)(w:t.kind=2)(y:aS e (i+1)=4)(u:cf e e.length (i+1+1) []=(some q,j))(x:aS e j=5):bY e i=(some ⟨t.at_,t.text,q⟩,j+1):=by simp[bY,h,w,y,u,x]
end Ax
