set_option linter.all false
namespace Go.Proofs.YtjnkcibpkkjniaaGreat
def dR:=@Option.some.injEq
def ez:=@Option.getD_some
def eT:=@Nat.eq_zero_or_pos
end Go.Proofs.YtjnkcibpkkjniaaGreat
